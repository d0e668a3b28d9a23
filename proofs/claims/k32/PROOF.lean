import PyProof.Rows.All
import Wide.All
import OpenK.AllK
import Wide.FinOn
import Lean
import PyProof.EqAt
import PyProof.EqKinds
import PyProof.TupleCall
import PySem.Challenge.RW_fewchecks_k32_greatest_lots
set_option compiler.extract_closed false
set_option Elab.async false
set_option linter.all false
set_option maxRecDepth 100000
def ak:= @List.length_map
def aA:= @Nat.le_refl
def aC:= @List.mem_singleton
def aJ:= @List.getElem?_eq_some_iff
def aR:= @List.getElem?_eq_getElem
def aT:= @List.getElem?_set_ne
def aX:= @PySem.Heap.lt_size
def aZ:= @List.map_cons
def br:= @Ne.symm
def bx:= @List.getElem?_set_self
def bz:= @Bool.false_ne_true
def bw:= @List.lookup_cons
def bC:= @PySem.Heap.get?_push_of_some
def bQ:= @List.mem_cons
def bS:= @Nat.ne_of_lt
def bT:= @List.size_toArray
def bR:= @List.length_append
def bY:= @List.getElem?_map
def bZ:= @List.mem_of_getElem?
def cj:= @List.map_append
def cE:= @List.mem_append
def cF:= @Array.length_toList
def cL:= @Nat.le_trans
def cT:= @Nat.lt_of_lt_of_le
def cX:= @List.mem_filter
def cV:= @Bool.and_eq_true
def cY:= @List.mem_map
def dB:= @List.mem_cons_self
def dN:= @List.mem_cons_of_mem
def dM:= @List.append_assoc
def dI:= @PySem.W.mg_of
def dX:= @PySem.Heap.get?_push_size
def dY:= @List.mem_append_right
def eg:= @Nat.zero_le
def eB:= @Array.size_extract
def eS:= @Option.some.inj
def ff:= @List.getElem?_append_right
def eZ:= @List.getElem?_append_left
def eV:= @List.take_length
def fG:= @Nat.lt_irrefl
def fh:= @List.getElem?_replicate
def fM:= @List.length_set
def fP:= @List.length_cons
def fN:= @List.all_eq_true
def fK:= @PySem.boot_len
def gj:= @List.mem_append_left
def gq:= @Bool.false_eq_true
def gf:= @Array.toList_append
def gH:= @Nat.le_of_lt
def gG:= @List.length_take
def gz:= @Array.getElem?_toList
def gy:= @PySem.PassesOwn.never
def gY:= @Nat.lt_succ_of_lt
def g8:= @List.getD_eq_getElem?_getD
def g6:= @List.getElem?_of_mem
def ic:= @PySem.W.mg_none_of
def iC:= @List.append_nil
def iD:= @Nat.le_succ
def iu:= @Option.some_ne_none
def iZ:= @Bool.eq_iff_iff
def ji:= @PySem.W.kia_one
def iN:= @List.set_set
def iW:= @List.take_append_drop
def i7:= @List.filter_cons
def iX:= @PySem.F.plainAttrs_list
def jv:= @List.mem_range
def jC:= @List.ext_getElem?
def jk:= @List.getElem_mem
def jy:= @Array.toList_push
def ju:= @PySem.Heap.size_push
def jt:= @List.map_map
def jo:= @PyProof.Rows.boot_list
def jK:= @PySem.Heap.get?_update_other
def jT:= @List.length_singleton
def jX:= @Option.map_eq_some_iff
def jP:= @Classical.byContradiction
def jL:= @Array.getElem?_eq_getElem
def j3:= @List.Perm.append_left
def j5:= @List.getElem?_eq_none
def j7:= @PyProof.Rows.boot_isinstance
def kQ:= @List.nodup_cons
def kg:= @List.any_cons
def kE:= @PySem.Around.under_plainId
def kH:= @List.length_eq_zero_iff
def ko:= @List.perm_append_comm
def lK:= @PySem.mem_of_lookup
def lU:= @List.all_cons
def k7:= @List.map_nil
def lY:= @List.getElem?_cons_succ
def kZ:= @Nat.lt_trans
def lO:= @PySem.F.called_set
def lQ:= @List.nodup_append
def lN:= @Array.size_append
def k6:= @List.find?_cons
def lX:= @PySem.F.slot_list_append
def lR:= @PySem.F.type_list_append
def mW:= @Nat.ne_of_gt
def mH:= @Bool.or_false
def mQ:= @Nat.le_of_eq
def mU:= @PySem.SeqAt.canLay_of_shaped
def nv:= @List.cons_append
def mw:= @List.Nodup.length_le_of_subset
def mJ:= @PySem.Heap.size_update
def mV:= @PySem.W.kia_tup
def mO:= @Int.toNat_natCast
def m5:= @PyProof.Rows.boot_sorted
def nK:= @List.filterMap_cons
def nN:= @Nat.lt_succ_self
def nI:= @Nat.sub_self
def oX:= @PySem.Heap.get?_push_ne
def o7:= @List.length_range
def pA:= @List.cons.inj
def qT:= @Bool.false_or
def qd:= @Array.getElem?_eq_some_iff
def qy:= @Array.size_push
def rj:= @List.pairwise_iff_getElem
def ql:= @Bool.not_true
def qg:= @PySem.Calls.call_function_entry
def pU:= @List.any_eq_true
def qu:= @List.take_of_length_le
def qj:= @List.drop_eq_getElem_cons
def pV:= @List.drop_zero
def qb:= @Nat.add_zero
def pD:= @List.length_filter_le
def qi:= @PySem.W.KasT.kasWp_bind
def qa:= @List.flatten_append
def qW:= @Int.emod_nonneg
def qp:= @Int.emod_lt_of_pos
def rE:= @PySem.Value.isInt_shape
def uH:= @PyProof.Rows.callWith_type1
def uT:= @Array.mem_toList_iff
def t8:= @PySem.W.kitx_dict
def sZ:= @Option.isSome_iff_exists
def uq:= @List.length_drop
def sy:= @PySem.Heap.get?_update_self
def tR:= @Nat.lt_of_le_of_lt
def uV:= @Nat.lt_trichotomy
def uC:= @PySem.F.plain_list_iadd
def sC:= @List.nodup_nil
def rQ:= @List.map_congr_left
def sO:= @Array.size_reverse
def tB:= @List.foldl_append
def tQ:= @PySem.F.slot_list_getattribute
def uI:= @List.count_cons
def ux:= @List.filter_append
def uJ:= @List.filter_nil
def ur:= @List.mem_flatten
def wo:= @Sum.inl.inj
def wZ:= @List.getElem_inj
def yE:= @List.mem_filterMap
def wu:= @PySem.W.kitx_list
def yq:= @List.of_mem_zip
def AL:= @PySem.W.cellsFrom_some
def zM:= @List.getElem?_take_of_lt
def Af:= @List.eraseIdxIfInBounds_toArray
def zq:= @Nat.le_of_not_lt
def zF:= @Nat.succ.inj
def vD:= @Array.getD_eq_getD_getElem?
def wW:= @Nat.lt_or_ge
def yJ:= @Array.getElem?_push
def vR:= @Array.getElem?_eq_none
def wV:= @Nat.lt_or_eq_of_le
def vh:= @List.pairwise_lt_range
def wL:= @PyProof.Rows.F.plain_set_update_loop
def v7:= @List.length_eraseIdx_of_lt
def yi:= @List.range_succ_eq_map
def zO:= @List.length_nil
def vQ:= @Nat.lt_of_lt_of_eq
def wN:= @List.Perm.refl
def zf:= @Nat.min_eq_left
def zk:= @List.Perm.append_right
def Ba:= @List.drop_of_length_le
def vH:= @Array.toList_reverse
def vE:= @List.reverse_perm
def vF:= @Array.mem_of_getElem?
def zU:= @Array.toList_map
def yy:= @Array.append_empty
def wX:= @Nat.zero_add
def xN:= @Nat.add_sub_cancel
def wI:= @Array.toList_modify
def zK:= @Array.size_map
def Ab:= @List.lookup_cons_self
def yZ:= @List.range_succ
def xx:= @PySem.F.slot_dict_pop
def Bb:= @Nat.le_of_succ_le
def Aw:= @List.length_pos_of_mem
def yH:= @List.filter_eq_self
def z9:= @List.pairwise_map
def zJ:= @List.pairwise_flatten
def zz:= @Bool.eq_false_iff
def G0:= @PySem.Calls.Name_function_global
def Ed:= @List.eraseIdx_cons_succ
def B4:= @List.filterMap_cons_some
def G4:= @Array.getElem?_append
def Gb:= @Array.getElem?_extract_of_lt
def Dn:= @List.getElem?_toArray
def BD:= @PySem.F.entry_proto_collect
def Dr:= @PySem.F.plain_proto_collect
def Gk:= @PySem.F.entry_list_iadd
def GG:= @PySem.F.plain_extend_loop
def Et:= @List.set_append_right
def EA:= @List.eraseIdx_append_of_length_le
def Ek:= @Array.toList_setIfInBounds
def Hw:= @List.mem_of_mem_take
def Br:= @Array.perm_iff_toList_perm
def DM:= @Array.getElem?_extract
def Cf:= @List.getElem?_append
def EG:= @Nat.mul_le_mul_right
def GL:= @Int.eq_ofNat_of_zero_le
def Bv:= @PySem.F.slot_dict_delitem
def CT:= @PySem.F.slot_list_remove
def DB:= @List.eq_of_mem_replicate
def Fx:= @List.count_singleton
def GV:= @List.getElem?_eq_none_iff
def HB:= @List.nodup_iff_pairwise_ne
def E8:= @List.filter_eq_nil_iff
def Dk:= @Option.isNone_iff_eq_none
def Cr:= @PySem.F.slot_list_pop
def DW:= @PySem.F.type_list_pop
def Ef:= @PySem.F.plainAttrs_dict
def E4:= @PySem.F.type_dict_pop
def DQ:= @List.length_filter_eq_length_iff
def Fw:= @PyProof.Rows.boot_range
def Hg:= @PyProof.Rows.boot_set
def Fv:= @List.exists_mem_of_length_pos
def Dh:= @List.length_eq_one_iff
def Hl:= @PyProof.Rows.boot_tuple
def FA:= @PyProof.Rows.boot_bool
def HA:= @PyProof.Rows.boot_int
def BS:= @PyProof.Rows.boot_str
def Bo:= @List.replicate_succ'
def BG:= @List.pairwise_append
def DJ:= @List.pairwise_singleton
def DT:= @Bool.and_eq_true_iff
namespace L2
open PySem PySem.Spec PyProof.Rows
abbrev Key:=Sum Int Str
def o9:Key->Value->Bool
 | .inl k,v=>Value.isInt k v
 | .inr x,v=>Value.isStrOf x v
def RH(w:World):Key->Int
 | .inl k=>hashInt k
 | .inr x=>hashStr w x
theorem kT:∀{k:Key} {v:Value},o9 k v=true->(∃i t,k=Sum.inl i/\v=Value.int i t)\/(∃x t,k=Sum.inr x/\v=Value.str x t)
  | .inl i, v, h => by
    obtain⟨t,e⟩:=rE (k:=i) (v:=v) h
    exact .inl ⟨i,t,rfl,e⟩
  | .inr x, v, h => by
    obtain⟨t,e⟩:=Value.isStrOf_shape (x:=x) (v:=v) h
    exact .inr ⟨x,t,rfl,e⟩
theorem RW(i:Int)(t:Tok):o9 (.inl i) (.int i t)=true:=by simp[o9,Value.isInt]
theorem MA(x:Str)(t:Tok):o9 (.inr x) (.str x t)=true:=by simp[o9,Value.isStrOf]
theorem QN(a b:Int):decide ((Sum.inl a:Key)=Sum.inl b)=(a==b):=by
 by_cases e:a=b
 ·subst e;simp
 ·have h:¬(Sum.inl a:Key)=Sum.inl b:=fun q=>e (wo q)
  rw[decide_eq_false h]
  exact(beq_eq_false_iff_ne.mpr e).symm
theorem LB(a b:Str):decide ((Sum.inr a:Key)=Sum.inr b)=decide (a=b):=by
 by_cases e:a=b
 ·subst e;simp
 ·have h:¬(Sum.inr a:Key)=Sum.inr b:=fun q=>e (Sum.inr.inj q)
  rw[decide_eq_false h,decide_eq_false e]
theorem OH(a:Int)(b:Str):decide ((Sum.inl a:Key)=Sum.inr b)=false:=decide_eq_false (fun q=>nomatch q)
theorem OY(a:Str)(b:Int):decide ((Sum.inr a:Key)=Sum.inl b)=false:=decide_eq_false (fun q=>nomatch q)
def dQ(prog:Program)(w:World):PySem.KeyKind prog w Key where
 is:=o9
 hash:=RH w
 inj:=fun v a b ha hb=>by
  rcases kT ha with ⟨i,t,rfl,rfl⟩|⟨x,t,rfl,rfl⟩
  ·rcases kT hb with ⟨j,u,rfl,e⟩|⟨y,u,rfl,e⟩
   ·injection e with e1 _;rw[e1]
   ·exact nomatch e
  ·rcases kT hb with ⟨j,u,rfl,e⟩|⟨y,u,rfl,e⟩
   ·exact nomatch e
   ·injection e with e1 _;rw[e1]
 byValue:=fun k v h=>by
  rcases kT h with ⟨i,t,rfl,rfl⟩|⟨x,t,rfl,rfl⟩<;>rfl
 pyHash:=fun hv h=>by
  rcases kT hv with ⟨i,t,rfl,rfl⟩|⟨x,t,rfl,rfl⟩
  ·exact wpAny_pyHash_int h
  ·exact wpAny_pyHash_str h
 eqBool:=fun hu hv h=>by
  rcases kT hu with ⟨i,t,rfl,rfl⟩|⟨x,t,rfl,rfl⟩
  ·rcases kT hv with ⟨j,u,rfl,rfl⟩|⟨y,u,rfl,rfl⟩
   ·rw[QN] at h;exact wpAny_eqBool_int h
   ·rw[OH] at h;exact SeqAt.EqAt.int_str i t y u _ _ _ _ h
  ·rcases kT hv with ⟨j,u,rfl,rfl⟩|⟨y,u,rfl,rfl⟩
   ·rw[OY] at h;exact SeqAt.EqAt.str_int x t j u _ _ _ _ h
   ·rw[LB] at h;exact wpAny_eqBool_str h
 «strs» :=fun k x t v h=>by
  rcases kT h with ⟨i,u,rfl,e⟩|⟨y,u,rfl,e⟩
  ·exact nomatch e
  ·injection e with e1 _
   subst e1
   cases v<;>rfl
theorem HK(prog:Program)(w:World)(i:Int)(t:Tok):(dQ prog w).is (.inl i) (.int i t)=true:=RW i t
theorem Ng(prog:Program)(w:World)(x:Str)(t:Tok):(dQ prog w).is (.inr x) (.str x t)=true:=MA x t
inductive V where
 |aG|bl (b:Bool)|int (i:Int)|str (x:Str)|iE (b:Array UInt8)|j8 (b:UInt64)|ref (a:Addr)|ty (n:String)
 deriving DecidableEq
def RelV:V->Value->Prop
 | .aG,u=>u=Value.none
 | .bl b,u=>u=Value.bool b
 | .int i,u=>∃t,u=Value.int i t
 | .str x,u=>∃t,u=Value.str x t
 | .iE b,u=>∃t,u=Value.bytes b t
 | .j8 b,u=>∃t,u=Value.float b t
 | .ref a,u=>u=Value.ref a
 | .ty n,u=>u=Value.type n
abbrev Vals:List V->List Value->Prop:=Paired RelV
theorem Vals.length{xs:List V}{us:List Value}(r:Vals xs us):xs.length=us.length:=Paired.length r
theorem Vals.get:∀{xs:List V} {us:List Value} {i:Nat} {x:V},Vals xs us->xs[i]?=some x->∃u,us[i]?=some u/\RelV x u
  |_,_,_,_, .nil,e=>by simp at e
  |_,_,0,_, .cons r _,e=>by simp at e;subst e;exact⟨_,rfl,r⟩
  | _, _, i + 1, x, .cons _ t, e => by
    obtain⟨u,h1,h2⟩:=Vals.get (i:=i) (x:=x) t (by simpa using e)
    exact⟨u,by simpa using h1,h2⟩
theorem Vals.set{x:V}{u:Value}(r:RelV x u):∀{xs:List V} {us:List Value} (i:Nat),Vals xs us->Vals (xs.set i x) (us.set i u)
 |_,_,_, .nil=> .nil
 |_,_,0, .cons _ t=> .cons r t
 |_,_,i+1, .cons q t=> .cons q (Vals.set r i t)
theorem Vals.append:∀{xs ys:List V} {us ws:List Value},Vals xs us->Vals ys ws->Vals (xs++ys) (us++ws)
 |_,_,_,_, .nil,s=>s
 |_,_,_,_, .cons r t,s=> .cons r (Vals.append t s)
theorem Vals.take:∀{xs:List V} {us:List Value} (n:Nat),Vals xs us->Vals (xs.take n) (us.take n)
 |_,_,0,_=> .nil
 |_,_,_+1, .nil=> .nil
 |_,_,n+1, .cons r t=> .cons r (Vals.take n t)
theorem Vals.drop:∀{xs:List V} {us:List Value} (n:Nat),Vals xs us->Vals (xs.drop n) (us.drop n)
 |_,_,0,r=>r
 |_,_,_+1, .nil=> .nil
 |_,_,n+1, .cons _ t=>Vals.drop n t
def jM:Option V->Option Value->Prop
 |some v,some u=>RelV v u
 |none,none=>True
 |_,_=>False
def KV{κ:Type}:List (κ×V)->List (κ×Value)->Prop:=Paired fun(p:κ×V) (q:κ×Value)=>p.1=q.1/\RelV p.2 q.2
def kV:Key->V
 | .inl i=> .int i
 | .inr x=> .str x
inductive HO where
  |lst (xs:List V)
  |tup (xs:List V)
  |dK (kvs:List (Key×V))|dT (kvs:List (List Key×V))
  |set (S:Int->Bool) (n:Nat)
  |ins (C dx:Addr) (fs:List (Str×V))
  |own (x:Addr)
  |xd (fs:List (Str×V))
  |met (f x:Addr)
  |lF (lo hi:Int)
  |fS (o:Obj) (u:HO)
  |nk (ps:Array Value)
  |ext (φ:Heap->Prop)
abbrev Hp:=Addr->Option HO
def upd(H:Hp)(a:Addr)(o:HO):Hp:=fun b=>if b=a then some o else H b
theorem aS{H:Hp}{a:Addr}{o:HO}:upd H a o a=some o:=by unfold upd;rw[if_pos rfl]
theorem aH{H:Hp}{a b:Addr}{o:HO}(h:b≠a):upd H a o b=H b:=by unfold upd;rw[if_neg h]
theorem xU{H:Hp}{a:Addr}{o u:HO}:upd (upd H a o) a u=upd H a u:=by
 funext b;unfold upd;split<;>rfl
theorem g7{H:Hp}{a b:Addr}{o:HO}(h:H a=some o)(h':H b=none):a≠b:=by
 intro e;subst e;rw[h] at h';cases h'
section
variable(P:Program)(w:World)
def bB(H:Hp)(h:Heap)(a:Addr):HO->Prop
 | .lst xs=>xs.length<=sizeLine/\∃(its:List Value) (n:Nat),Vals xs its/\h.get? a=some {cls:= .type "list",data:= .seq its.toArray n}
 | .tup xs=>xs.length<=sizeLine/\∃its:List Value,Vals xs its/\IsTup h a its.toArray
 | .dK kvs=>kvs.length<=sizeLine/\(a==sysModules)=false/\∃vs,KV kvs vs/\h.DictOf (dQ P w) a vs
 | .dT kvs => kvs.length <= sizeLine /\ (a == sysModules) = false /\ ∃ xs : List (List Key × Addr × Value),
   Paired (fun(p:List Key×V) (q:List Key×Addr×Value)=>p.1=q.1/\H q.2.1=some (.tup (p.1.map kV))/\RelV p.2 q.2.2) kvs xs/\
   ∃o es ep,h.get? a=some o/\o.ExactDict/\o.data= .dict es ep/\es.toList=xs.map (entryOfKey (tupleKind (dQ P w)))/\(xs.map (·.1)).Nodup
 | .set S n=>h.SetOf (intKind P w) a S n
 | .ins C dx fs => H dx = some (.own a) /\ fs.length <= 1000 /\ dx ≠ a /\ h.get? a = some (PySem.W.instObj C dx) /\
   ∃mA,h.Ns1 dx mA/\(∀f,jM (fs.lookup f) (mA f))/\PySem.Within mA (fs.map (·.1))
 | .own _=>∃o,h.get? a=some o
 | .xd fs=>∃mA,h.Ns1 a mA/\∀f,jM (fs.lookup f) (mA f)
 | .lF lo hi=>∃t u v,h.get? a=some {cls:= .type "range",data:= .fields #[.int lo t, .int hi u, .int 1 v]}
 | .fS o u=>h.get? a=some o/\bB H h a u
 | .nk ps=>h.get? a=some {cls:= .none,data:= .fields ps}
 | .met f x=>h.get? a=some (PySem.W.methodObj (.ref f) (.ref x))
 | .ext φ=>φ h/\(∃o,h.get? a=some o)/\∀h1 h2:Heap,φ h1->(∀o,h1.get? a=some o->h2.get? a=some o)->φ h2
def cM(H:Hp)(h:Heap):Prop:=∀a o,H a=some o->bB P w H h a o
end
section
variable{P:Program}{w:World}{H H':Hp}{h h':Heap}{a:Addr}{o:HO}
theorem bB.lt(x:bB P w H h a o):a<h.objs.size:=by
 cases o with
 |lst xs=>obtain⟨_,_,_,_,e⟩:=x;exact aX e
 |tup xs=>obtain⟨_,_,_,p⟩:=x;exact p.lt
 |dK kvs=>obtain⟨_,_,_,_,o,_,_,e,_⟩:=x;exact aX e
 |dT kvs=>obtain⟨_,_,_,_,o,_,_,e,_⟩:=x;exact aX e
 |set S n=>obtain⟨o,_,_,_,e,_⟩:=x;exact aX e
 |ins C dx fs=>obtain⟨_,_,_,e,_⟩:=x;exact aX e
 |own y=>obtain⟨_,e⟩:=x;exact aX e
 |xd fs=>obtain⟨_,⟨_,_,_,e,_⟩,_⟩:=x;exact aX e
 |lF lo hi=>obtain⟨_,_,_,e⟩:=x;exact aX e
 |fS ob u=>obtain⟨e,_⟩:=x;exact aX e
 |nk ps=>exact aX (show h.get? a=some _ from x)
 |met f y=>exact aX (show h.get? a=some _ from x)
 |ext φ=>obtain⟨_,⟨_,e⟩,_⟩:=x;exact aX e
theorem Paired.CK{α β:Type}{F G:α->β->Prop}:∀{l₁:List α} {l₂:List β},Paired F l₁ l₂->(∀a b,F a b->G a b)->Paired G l₁ l₂
 |_,_, .nil,_=> .nil
 |_,_, .cons r t,f=> .cons (f _ _ r) (Paired.CK t f)
theorem bB.stay(x:bB P w H h a o)(k:∀b u,(b=a\/H b=some (.own a))->h.get? b=some u->h'.get? b=some u)
    (ho:∀b,H b=some (.own a)->H' b=some (.own a)) (ht:∀b xs,H b=some (.tup xs)->H' b=some (.tup xs)):bB P w H' h' a o:=by
  induction o with
  |lst xs=>obtain⟨z,its,n,r,e⟩:=x;exact⟨z,its,n,r,k _ _ (.inl rfl) e⟩
  |tup xs=>obtain⟨z,its,r,ob,e,c⟩:=x;exact⟨z,its,r,ob,k _ _ (.inl rfl) e,c⟩
  |dK kvs=>obtain⟨z,y,vs,r,ob,es,ep,e,c⟩:=x;exact⟨z,y,vs,r,ob,es,ep,k _ _ (.inl rfl) e,c⟩
  | dT kvs =>
    obtain⟨z,y,xs,r,ob,es,ep,e,c⟩:=x
    exact⟨z,y,xs,Paired.CK r fun p q z=>⟨z.1,ht _ _ z.2.1,z.2.2⟩,ob,es,ep,k _ _ (.inl rfl) e,c⟩
  |set S n=>obtain⟨ob,es,ep,t,e,c⟩:=x;exact⟨ob,es,ep,t,k _ _ (.inl rfl) e,c⟩
  | ins C dx fs =>
    obtain⟨d,z,ne,e,mA,⟨od,es,ep,e2,c⟩,r⟩:=x
    exact⟨ho _ d,z,ne,k _ _ (.inl rfl) e,mA,⟨od,es,ep,k _ _ (.inr d) e2,c⟩,r⟩
  |own y=>obtain⟨ob,e⟩:=x;exact⟨ob,k _ _ (.inl rfl) e⟩
  |xd fs=>obtain⟨mA,⟨od,es,ep,e,c⟩,r⟩:=x;exact⟨mA,⟨od,es,ep,k _ _ (.inl rfl) e,c⟩,r⟩
  |lF lo hi=>obtain⟨t,u,v,e⟩:=x;exact⟨t,u,v,k _ _ (.inl rfl) e⟩
  |fS ob u ih=>obtain⟨e,q⟩:=x;exact⟨k _ _ (.inl rfl) e,ih q⟩
  | nk ps =>
    have e:h.get? a=some {cls:= .none,data:= .fields ps}:=x
    show h'.get? a=some {cls:= .none,data:= .fields ps}
    exact k a _ (.inl rfl) e
  | met f y =>
    have e:h.get? a=some (PySem.W.methodObj (.ref f) (.ref y)):=x
    show h'.get? a=some (PySem.W.methodObj (.ref f) (.ref y))
    exact k a _ (.inl rfl) e
  |ext φ=>obtain⟨p,⟨o,e⟩,st⟩:=x;exact⟨st _ _ p fun o q=>k _ _ (.inl rfl) q,⟨o,k _ _ (.inl rfl) e⟩,st⟩
theorem cM.lt(x:cM P w H h)(e:H a=some o):a<h.objs.size:=(x a o e).lt
theorem cM.fresh(x:cM P w H h)(e:h.objs.size<=a):H a=none:=by
 cases q:H a with
 |none=>rfl
 |some u=>exact absurd (cT (x.lt q) e) (fG _)
theorem cM.kept(x:cM P w H h)(k:∀b u,h.get? b=some u->h'.get? b=some u):cM P w H h':=fun a o e=>
 (x a o e).stay (fun b u _ q=>k b u q) (fun _ q=>q) fun _ _ q=>q
theorem cM.laid(x:cM P w H h)(k:∀b u,h.get? b=some u->h'.get? b=some u)(hp:h.objs.size<=a)(new:bB P w (upd H a o) h' a o):cM P w (upd H a o) h':=fun b u e=>by
 have hn:=x.fresh hp
 by_cases hb:b=a
 ·subst hb;rw[aS] at e;cases e;exact new
 ·rw[aH hb] at e
  exact(x b u e).stay (fun c v _ q=>k c v q) (fun c q=>by rw[aH (g7 q hn)];exact q) fun c xs q=>by rw[aH (g7 q hn)];exact q
end
def Rd(H:Hp)(a:Addr)(u:HO):Prop:=H a=some u\/∃o,H a=some (.fS o u)
theorem Rd.ok{P:Program}{w:World}{H:Hp}{h:Heap}{a:Addr}{u:HO}(r:Rd H a u)(x:cM P w H h):bB P w H h a u:=by
 rcases r with r|⟨o,r⟩
 ·exact x a u r
 ·obtain⟨_,q⟩:=x a _ r
  exact q
def qk:Option HO->Prop
 |some (.lst _)=>True
 |some (.dK _)=>True
 |some (.dT _)=>True
 |some (.set _ _)=>True
 |some (.ins _ _ _)=>True
 |some (.ext _)=>True
 |_=>False
section
variable{P:Program}{w:World}{H:Hp}{h h':Heap}{x e:Addr}{o':HO}
theorem cM.write(ok:cM P w H h)(mu:qk (H x))(he:e=x\/H e=some (.own x))(k:∀b u,b≠e->h.get? b=some u->h'.get? b=some u)(oj:∃u,h'.get? e=some u)
  (new:bB P w (upd H x o') h' x o'):cM P w (upd H x o') h':=fun b u q=>by
 have Hz:∀c y,H c=some (.own y)->c≠x:=fun c y r z=>by subst z;rw[r] at mu;exact mu
 have Ll:∀c xs,H c=some (.tup xs)->c≠x:=fun c xs r z=>by subst z;rw[r] at mu;exact mu
 by_cases hb:b=x
 ·subst hb;rw[aS] at q;cases q;exact new
 ·rw[aH hb] at q
  by_cases mz:b=e
  ·have q':H b=some (.own x):=by
    rcases he with z|z
    ·exact absurd (mz.trans z) hb
    ·rw[mz];exact z
   rw[q] at q';cases q'
   obtain⟨v,hv⟩:=oj
   exact⟨v,by rw[mz];exact hv⟩
  ·refine(ok b u q).stay (fun c v hc r=>k c v ?_ r) (fun c r=>by rw[aH (Hz c b r)];exact r) fun c xs r=>by rw[aH (Ll c xs r)];exact r
   rcases hc with rfl|hc
   ·exact mz
   ·rintro rfl
    rcases he with z|z
    ·exact Hz c b hc z
    ·rw[hc] at z;cases z;exact hb rfl
end
structure Un(fs ex:List Addr)(H H':Hp)(h h':Heap):Prop where
 keep:∀b o,h.get? b=some o->H b=none->b∉fs->b∉ex->h'.get? b=some o
 slot:∀b o,h.get? b=some o->H b=none->b∈fs->b∉ex->∃sl,h'.get? b=some {o with slots:=sl}
 free:∀b o,h.get? b=some o->H b=none->b∉ex->H' b=none
 there:∀b o,h.get? b=some o->b∉ex->∃o',h'.get? b=some o'
 tups:∀b xs,H b=some (.tup xs)->H' b=some (.tup xs)
 kh:∀b o u,H b=some (.fS o u)->H' b=some (.fS o u)
 lW:∀b ps,H b=some (.nk ps)->∃more,H' b=some (.nk (ps++more))
section
variable{fs fs' ex ex':List Addr}{H H1 H2:Hp}{h h1 h2 h':Heap}{a x e:Addr}{o:HO}
theorem Un.any(u:Un fs ex H H1 h h1){b:Addr}{ob:Obj}(q:h.get? b=some ob)(n:H b=none)(hx:b∉ex):∃sl,h1.get? b=some {ob with slots:=sl}:=by
 by_cases hb:b∈fs
 ·exact u.slot b ob q n hb hx
 ·exact⟨ob.slots,u.keep b ob q n hb hx⟩
theorem Un.kept(k:∀b u,h.get? b=some u->h'.get? b=some u):Un fs ex H H h h':=
 ⟨fun b ob q _ _ _=>k b ob q,fun b ob q _ _ _=>⟨ob.slots,k b ob q⟩,fun _ _ _ n _=>n,fun b ob q _=>⟨ob,k b ob q⟩,fun _ _ q=>q,fun _ _ _ q=>q,fun _ ps q=>⟨#[],by rw[q];simp⟩⟩
theorem Un.refl:Un fs ex H H h h:=Un.kept fun _ _ q=>q
theorem Un.laid(k:∀b u,h.get? b=some u->h'.get? b=some u)(hp:h.objs.size<=a)(hn:H a=none):Un fs ex H (upd H a o) h h' where
 keep:=fun b u q _ _ _=>k b u q
 slot:=fun b u q _ _ _=>⟨u.slots,k b u q⟩
 free:=fun b u q n _=>by rw[aH (bS (cT (aX q) hp))];exact n
 there:=fun b u q _=>⟨u,k b u q⟩
 tups:=fun b xs q=>by rw[aH (g7 q hn)];exact q
 kh:=fun b u xs q=>by rw[aH (g7 q hn)];exact q
 lW:=fun b ps q=>⟨#[],by rw[aH (g7 q hn),q];simp⟩
theorem Un.write(mu:qk (H x))(he:e=x\/H e=some (.own x))(k:∀b u,b≠e->h.get? b=some u->h'.get? b=some u)(oj:∃u,h'.get? e=some u):Un fs ex H (upd H x o) h h':=by
 have hx:∀b,H b=none->b≠x:=fun b n z=>by subst z;rw[n] at mu;exact mu
 have hb:∀b,H b=none->b≠e:=fun b n z=>by
  subst z
  rcases he with r|r
  ·exact hx b n r
  ·rw[n] at r;cases r
 have hm:∀b u,H b=some u->¬qk (some u)->b≠x:=fun b u q nm z=>by subst z;rw[q] at mu;exact nm mu
 refine⟨fun b u q n _ _=>k b u (hb b n) q,fun b u q n _ _=>⟨u.slots,k b u (hb b n) q⟩,fun b u q n _=>by rw[aH (hx b n)];exact n,fun b u q _=>?_,
  fun b xs q=>by rw[aH (hm b _ q fun z=>z)];exact q,fun b u xs q=>by rw[aH (hm b _ q fun z=>z)];exact q,fun b ps q=>⟨#[],by rw[aH (hm b _ q fun z=>z),q];simp⟩⟩
 by_cases mz:b=e
 ·subst mz;exact oj
 ·exact⟨u,k b u mz q⟩
end
def ug(h:Heap)(H:Hp):List Addr:=(List.range h.objs.size).filter fun a=>(H a).isSome
def ki(h:Heap)(H:Hp):Heap:=PySem.W.hideAll h (ug h H)
theorem LM(h:Heap)(H:Hp):(ki h H).objs.size=h.objs.size:=PySem.W.hideAll_size _ _
theorem MF{h:Heap}{H:Hp}{b:Addr}{o:Obj}(e:h.get? b=some o)(n:H b=none):(ki h H).get? b=some o:=
 PySem.W.hideAll_get _ e fun hm=>by
  have q:(H b).isSome=true:=(cX.mp hm).2
  rw[n] at q;simp at q
theorem Ma{h:Heap}{H:Hp}{b:Addr}{o:Obj}(e:(ki h H).get? b=some o):h.get? b=some o/\H b=none:=by
  have e':h.get? b=some o:=PySem.W.of_hideAll (ug h H) e
  refine⟨e',?_⟩
  cases q:H b with
  |none=>rfl
  | some x =>
    have hm:b∈ug h H:=cX.mpr ⟨jv.mpr (aX e'),by simp[q]⟩
    have z:(ki h H).get? b=none:=PySem.W.hideAll_none (ug h H) hm
    rw[z] at e;cases e
def OF(g h:Heap)(L:Addr):List (Addr×Obj):=(List.range h.objs.size).filterMap fun a=>if a=L\/(g.get? a).isSome=true then none else(h.get? a).map fun o=>(a,o)
def rest(g h:Heap)(L d:Addr):List (Addr×Obj):=(OF g h L).filter fun p=>decide (p.1≠d)
structure Mod(K:PySem.W.Frag)(mg:Str->Option Value)(base:Heap):Prop where
 AU:K.In base
 glob:base.Ns mainGlobals mg
 blt:∃mb,base.Ns builtinsNs mb/\∀x:Str,x≠"__name__" ->mb x=bootBuiltins x
 nolimit:base.NoLimit
structure Cx where
 prog:Program
 w:World
 K:PySem.W.Frag
 mg:Str->Option Value
 base:Heap
 A:Around
 N:List Str
 s₀:Shared
 H₀:Hp
 env:Env
 outer:List Env
 stack:List Env
 ex:List Addr
 fn:Str->Bool
 calm:Bool
 pn:List (Addr×Obj)
 xe:Value->Shared->Prop
def frs(l:List Env):List Addr:=l.filterMap (·.frame)
abbrev Cx.fs(X:Cx):List Addr:=frs X.outer
def AN(sc:Scope)(x:Str):Prop:=sc.names.lookup x=some .local\/sc.names.lookup x=some .cell\/sc.names.lookup x=some .free
def Loc(sc:Scope)(x:Str):Prop:=sc.names.lookup x=some .local\/sc.names.lookup x=some .cell
def Look(env:Env)(h:Heap)(m:Str->Option Value)(x:Str)(u:Value):Prop:=
 (env.kindOf x=some .local/\m x=some u)\/((env.kindOf x=some .cell\/env.kindOf x=some .free)/\∃c,env.cells.lookup x=some c/\h.IsCell c (some u))
structure Cx.Ok(X:Cx):Prop where
 mod:Mod X.K X.mg X.base
 kind:X.env.scope.kind= .function
 glob:X.env.globals=mainGlobals
 blt:X.env.builtins=builtinsNs
 above:X.s₀.heap.objs.size<=X.env.locals
 inj:∀x y c,X.env.cells.lookup x=some c->X.env.cells.lookup y=some c->x=y
 has:∀x,(X.env.kindOf x=some .cell\/X.env.kindOf x=some .free)->∃c,X.env.cells.lookup x=some c
 qG:∀x c,X.fn x=true->X.env.cells.lookup x=some c->X.s₀.heap.objs.size<=c
 hd:X.calm=true->X.A.handled=none
 frames:X.A.frames=some X.stack
 stk:X.stack=X.outer\/(X.stack=X.env::X.outer/\X.env.frame=some X.env.locals)
 tP:∀b∈X.ex,b≠X.env.locals/\∀x c,X.env.cells.lookup x=some c->c≠b
 bs:∀b o,X.base.get? b=some o->X.s₀.heap.get? b=some o/\X.H₀ b=none
 nj:X.base.objs.size<=X.s₀.heap.objs.size
 rz:∀b o,X.base.get? b=some o->b∉X.ex
 qo:∀b∈X.ex,b∉X.fs
 jz:X.s₀.heap.FunFrames X.base X.outer
 oH:∀b∈X.fs,X.H₀ b=none
structure Inv(X:Cx)(pins:List (Addr×Obj))(σ:List (Option V))(H:Hp)(s:Shared):Prop where
 ok:X.Ok
 os:s.os=X.s₀.os
 bare:AllBare s.gens
 base:Un X.fs X.ex X.H₀ H X.s₀.heap s.heap
 loc:∃m,s.heap.Ns X.env.locals m/\∀(i:Nat) (x:Str) (v:V),X.N[i]?=some x->σ[i]?=some (some v)->AN X.env.scope x->∃u,RelV v u/\Look X.env s.heap m x u
 cell:∀x c,X.env.cells.lookup x=some c->∃v,s.heap.IsCell c v
 free:H X.env.locals=none
 jr:∀x c,X.env.cells.lookup x=some c->H c=none
 pin:∀p∈X.pn++pins,s.heap.get? p.1=some p.2/\H p.1=none/\p.1≠X.env.locals/\p.1∉X.fs/\∀v,p.2.data≠ .cell v
 hok:cM X.prog X.w H s.heap
 len:σ.length=X.N.length
section
variable{X:Cx}{pins:List (Addr×Obj)}{σ:List (Option V)}{H H':Hp}{s:Shared}{h':Heap}
theorem Cx.Ok.J5(ok:X.Ok){b:Addr}{o:Obj}(e:X.base.get? b=some o):b∉X.fs:=fun hb=>by
 have:=(ok.jz.mem hb).1
 rw[e] at this;cases this
theorem Inv.bs(I:Inv X pins σ H s):∀b o,X.base.get? b=some o->s.heap.get? b=some o/\H b=none:=fun b o e=>
 ⟨I.base.keep b o (I.ok.bs b o e).1 (I.ok.bs b o e).2 (I.ok.J5 e) (I.ok.rz b o e),I.base.free b o (I.ok.bs b o e).1 (I.ok.bs b o e).2 (I.ok.rz b o e)⟩
theorem Inv.bk(I:Inv X pins σ H s):∀b o,X.base.get? b=some o->s.heap.get? b=some o:=fun b o e=>(I.bs b o e).1
theorem Inv.mod(I:Inv X pins σ H s):Mod X.K X.mg X.base:=I.ok.mod
theorem Inv.dD(I:Inv X pins σ H s):X.K.In s.heap:=I.ok.mod.AU.keeps I.bk
theorem Inv.lt(I:Inv X pins σ H s):X.env.locals<s.heap.objs.size:=let ⟨_,hn,_⟩:=I.loc;hn.lt
theorem Inv.sz(I:Inv X pins σ H s):X.s₀.heap.objs.size<=s.heap.objs.size:=cL I.ok.above (gH I.lt)
theorem Inv.Rw(I:Inv X pins σ H s){a:Addr}(h:s.heap.objs.size<=a):a∉X.fs:=fun hb=>by
 obtain⟨_,o,ho,_⟩:=I.ok.jz.mem hb
 exact absurd (cT (aX ho) (cL I.sz h)) (fG _)
theorem Inv.mR(I:Inv X pins σ H s):∀x c,X.env.cells.lookup x=some c->c≠X.env.locals:=fun x c e z=>by
 obtain⟨v,o,ho,hd⟩:=I.cell x c e
 obtain⟨m,⟨o',es,ep,ho',hd',_⟩,_⟩:=I.loc
 rw[z,ho'] at ho;cases ho;rw[hd'] at hd;cases hd
theorem Inv.jz(I:Inv X pins σ H s):s.heap.FunFrames X.base X.outer:=by
  have all:∀(l:List Env),(∀b∈frs l,b∈X.fs)->X.s₀.heap.FunFrames X.base l->s.heap.FunFrames X.base l:=by
    intro l
    induction l with
    |nil=>intro _ _;trivial
    | cons env r ih =>
      intro hs hl
      obtain⟨hk,⟨L,o,hf,hn,ho,hd⟩,hr⟩:=hl
      have hL:L∈X.fs:=hs L (by unfold frs;rw[nK,hf];exact dB)
      obtain⟨sl,e⟩:=I.base.slot L o ho (I.ok.oH L hL) hL fun z=>I.ok.qo L z hL
      exact⟨hk,⟨L,_,hf,hn,e,hd⟩,ih (fun b hb=>hs b (by unfold frs;rw[nK,hf];exact dN _ hb)) hr⟩
  exact all X.outer (fun _ hb=>hb) I.ok.jz
theorem Inv.stack(I:Inv X pins σ H s):s.heap.FunFrames X.base X.stack:=by
 rcases I.ok.stk with e|⟨e,hf⟩
 ·rw[e];exact I.jz
 ·rw[e]
  obtain⟨m,hn,_⟩:=I.loc
  refine .cons (by rw[I.ok.kind];decide) hf hn ?_ I.jz
  exact Heap.get?_none_of_le (cL I.ok.nj I.ok.above)
theorem Inv.xB(I:Inv X pins σ H s):∀b∈frs X.stack,b∈X.env.locals::X.fs:=fun b hb=>by
 rcases I.ok.stk with e|⟨e,hf⟩
 ·rw[e] at hb;exact dN _ hb
 ·rw[e] at hb
  unfold frs at hb
  rw[nK,hf] at hb
  exact hb
theorem Inv.BQ(I:Inv X pins σ H s):∀b∈frs X.stack,H b=none:=fun b hb=>by
 rcases bQ.mp (I.xB b hb) with e|hb
 ·rw[e];exact I.free
 ·obtain⟨_,o,ho,_⟩:=I.ok.jz.mem hb
  exact I.base.free b o ho (I.ok.oH b hb) fun z=>I.ok.qo b z hb
theorem Inv.step{g':Array GenState}{t':Nat}{d':Drawn}{ch:List Addr}(I:Inv X pins σ H s)
  (hch:∀b∈ch,(b∈X.ex\/X.s₀.heap.objs.size<=b)/\b≠X.env.locals/\(∀x c,X.env.cells.lookup x=some c->c≠b)/\∀p∈X.pn++pins,p.1≠b)
  (keep:∀b o,b≠X.env.locals->b∉X.fs->b∉ch->s.heap.get? b=some o->H b=none->h'.get? b=some o)
  (slot:∀b o,b≠X.env.locals->b∈X.fs->b∉ch->s.heap.get? b=some o->H b=none->∃sl,h'.get? b=some {o with slots:=sl}) (free:∀b o,b∉ch->s.heap.get? b=some o->H b=none->H' b=none)
  (there:∀b o,b∉ch->s.heap.get? b=some o->∃o',h'.get? b=some o')
  (tups:∀b xs,H b=some (.tup xs)->H' b=some (.tup xs)) (kh:∀b o u,H b=some (.fS o u)->H' b=some (.fS o u)) (lW:∀b ps,H b=some (.nk ps)->∃more,H' b=some (.nk (ps++more)))
  (ns:∀m,s.heap.Ns X.env.locals m->h'.Ns X.env.locals m) (hok:cM X.prog X.w H' h') (hg:AllBare g'):
  Inv X pins σ H' {s with heap:=h',gens:=g',drawn:=d',toks:=t'}:=by
 have BC:∀b o,X.s₀.heap.get? b=some o->b≠X.env.locals:=fun b o e=>bS (cT (aX e) I.ok.above)
 have tE:∀b o,X.s₀.heap.get? b=some o->b∉X.ex->b∉ch:=fun b o e hx hb=>by
  rcases(hch b hb).1 with z|z
  ·exact hx z
  ·exact absurd (cT (aX e) z) (fG _)
 have cellK:∀x c,X.env.cells.lookup x=some c->∀v,s.heap.IsCell c v->h'.IsCell c v:=fun x c e v ⟨o,ho,hd⟩=>by
  have qM:c∉ch:=fun z=>(hch c z).2.2.1 x c e rfl
  by_cases hc:c∈X.fs
  ·obtain⟨sl,q⟩:=slot c o (I.mR x c e) hc qM ho (I.jr x c e)
   exact⟨_,q,hd⟩
  ·exact⟨o,keep c o (I.mR x c e) hc qM ho (I.jr x c e),hd⟩
 refine⟨I.ok,I.os,hg,⟨fun b o e n hb hx=>?_,fun b o e n hb hx=>?_,fun b o e n hx=>?_,fun b o e hx=>?_,fun b xs e=>tups b xs (I.base.tups b xs e),fun b o xs e=>kh b o xs (I.base.kh b o xs e),fun b ps e=>?_⟩,?_,fun x c e=>?_,?_,fun x c e=>?_,fun p hp=>?_,hok,I.len⟩
 ·exact keep b o (BC b o e) hb (tE b o e hx) (I.base.keep b o e n hb hx) (I.base.free b o e n hx)
 ·obtain⟨sl,e1⟩:=I.base.slot b o e n hb hx
  obtain⟨JJ,e2⟩:=slot b _ (BC b o e) hb (tE b o e hx) e1 (I.base.free b o e n hx)
  exact⟨JJ,e2⟩
 ·obtain⟨o',e1⟩:=I.base.there b o e hx
  exact free b o' (tE b o e hx) e1 (I.base.free b o e n hx)
 ·obtain⟨o',e1⟩:=I.base.there b o e hx
  exact there b o' (tE b o e hx) e1
 ·obtain⟨m1,e1⟩:=I.base.lW b ps e
  obtain⟨m2,e2⟩:=lW b _ e1
  exact⟨m1++m2,by rw[e2,Array.append_assoc]⟩
 ·obtain⟨m,hn,hl⟩:=I.loc
  refine⟨m,ns m hn,fun i x v e1 e2 e3=>?_⟩
  obtain⟨u,r,l⟩:=hl i x v e1 e2 e3
  refine⟨u,r,?_⟩
  rcases l with l|⟨k,c,e,z⟩
  ·exact .inl l
  ·exact .inr ⟨k,c,e,cellK x c e _ z⟩
 ·obtain⟨v,z⟩:=I.cell x c e
  exact⟨v,cellK x c e v z⟩
 ·obtain⟨m,⟨o,_,_,ho,_⟩,_⟩:=I.loc
  exact free _ o (fun z=>(hch _ z).2.1 rfl) ho I.free
 ·obtain⟨v,o,ho,hd⟩:=I.cell x c e
  exact free c o (fun z=>(hch c z).2.2.1 x c e rfl) ho (I.jr x c e)
 ·obtain⟨e,n,ne,nf,d⟩:=I.pin p hp
  have qM:p.1∉ch:=fun z=>(hch p.1 z).2.2.2 p hp rfl
  exact⟨keep p.1 p.2 ne nf qM e n,free p.1 p.2 qM e n,ne,nf,d⟩
theorem Inv.un{t':Nat}(I:Inv X pins σ H s)(u:Un X.fs [] H H' s.heap h')(hok:cM X.prog X.w H' h'):Inv X pins σ H' {s with heap:=h',toks:=t'}:=by
 obtain⟨m,⟨o,es,ep,ho,r⟩,_⟩:=id I.loc
 obtain⟨sl,hL⟩:=u.any ho I.free (by simp)
 exact I.step (g':=s.gens) (d':=s.drawn) (ch:=[]) (fun _ z=>nomatch z) (fun b o _ hb _ e n=>u.keep b o e n hb (by simp)) (fun b o _ hb _ e n=>u.slot b o e n hb (by simp)) (fun b o _ e n=>u.free b o e n (by simp)) (fun b o _ e=>u.there b o e (by simp)) u.tups u.kh u.lW (fun m' hm=>by
  obtain⟨o',es',tZ,ho',r'⟩:=hm
  rw[ho] at ho';cases ho'
  exact⟨_,es',tZ,hL,r'⟩) hok I.bare
theorem Inv.call{g':Array GenState}{t':Nat}{d':Drawn}{ch:List Addr}(I:Inv X pins σ H s)(u:Un (frs X.stack) ch H H' s.heap h')(hok:cM X.prog X.w H' h')(hg:AllBare g')
  (hch:∀b∈ch,(b∈X.ex\/X.s₀.heap.objs.size<=b)/\b≠X.env.locals/\(∀x c,X.env.cells.lookup x=some c->c≠b)/\∀p∈X.pn++pins,p.1≠b):
  Inv X pins σ H' {s with heap:=h',gens:=g',drawn:=d',toks:=t'}:=by
 obtain⟨m,⟨o,es,ep,ho,r⟩,_⟩:=id I.loc
 obtain⟨sl,hL⟩:=u.any ho I.free fun z=>(hch _ z).2.1 rfl
 exact I.step (ch:=ch) hch (fun b o hL hb hc e n=>u.keep b o e n (fun z=>(bQ.mp (I.xB b z)).elim hL hb) hc) (fun b o _ _ hc e n=>u.any e n hc) (fun b o hc e n=>u.free b o e n hc) (fun b o hc e=>u.there b o e hc) u.tups u.kh u.lW (fun m' hm=>by
  obtain⟨o',es',tZ,ho',r'⟩:=hm
  rw[ho] at ho';cases ho'
  exact⟨_,es',tZ,hL,r'⟩) hok hg
theorem Inv.turned{t':Nat}{it:Addr}(I:Inv X pins σ H s)(k:∀b o,b≠it->s.heap.get? b=some o->h'.get? b=some o)(hn:H it=none)(hL:it≠X.env.locals)
  (h1:it∈X.ex\/X.s₀.heap.objs.size<=it) (h2:∀x c,X.env.cells.lookup x=some c->c≠it) (h3:∀p∈X.pn++pins,p.1≠it):Inv X pins σ H {s with heap:=h',toks:=t'}:=by
 have Gz:∀b u,H b=some u->b≠it:=fun b u e z=>by rw[z,hn] at e;cases e
 refine I.step (g':=s.gens) (d':=s.drawn) (ch:=[it]) (fun b hb=>?_) (fun b o _ _ hc e _=>k b o (fun z=>hc (by simp[z])) e) (fun b o _ _ hc e _=>⟨o.slots,k b o (fun z=>hc (by simp[z])) e⟩) (fun _ _ _ _ n=>n)
  (fun b o hc e=>⟨o,k b o (fun z=>hc (by simp[z])) e⟩) (fun _ _ e=>e) (fun _ _ _ e=>e) (fun b ps e=>⟨#[],by rw[e];simp⟩) (fun m hm=>?_) (fun b u e=>?_) I.bare
 ·have e:b=it:=by simpa using hb
  subst e
  exact⟨h1,hL,h2,h3⟩
 ·obtain⟨o,es,ep,ho,r⟩:=hm
  exact⟨o,es,ep,k _ o (br hL) ho,r⟩
 ·refine(I.hok b u e).stay (fun c v hc q=>k c v ?_ q) (fun _ q=>q) fun _ _ q=>q
  rcases hc with z|z
  ·rw[z];exact Gz b u e
  ·exact Gz c _ z
theorem Inv.tok(I:Inv X pins σ H s)(t:Nat):Inv X pins σ H {s with toks:=t}:=I.un (h':=s.heap) (t':=t) Un.refl I.hok
theorem Inv.kept{t':Nat}(I:Inv X pins σ H s)(k:∀b u,s.heap.get? b=some u->h'.get? b=some u):Inv X pins σ H {s with heap:=h',toks:=t'}:=I.un (Un.kept k) (I.hok.kept k)
theorem Inv.laid{a:Addr}{o:HO}{t':Nat}(I:Inv X pins σ H s)(k:∀b u,s.heap.get? b=some u->h'.get? b=some u)(hp:s.heap.objs.size<=a)(new:bB X.prog X.w (upd H a o) h' a o):
  Inv X pins σ (upd H a o) {s with heap:=h',toks:=t'}:=I.un (Un.laid k hp (I.hok.fresh hp)) (I.hok.laid k hp new)
theorem Inv.write{x e:Addr}{o:HO}{t':Nat}(I:Inv X pins σ H s)(mu:qk (H x))(he:e=x\/H e=some (.own x))(k:∀b u,b≠e->s.heap.get? b=some u->h'.get? b=some u)(oj:∃u,h'.get? e=some u)
  (new:bB X.prog X.w (upd H x o) h' x o):Inv X pins σ (upd H x o) {s with heap:=h',toks:=t'}:=I.un (Un.write mu he k oj) (I.hok.write mu he k oj new)
theorem Inv.CU{Fi:List (Addr×Obj)}(I:Inv X pins σ H s)(h:∀p∈Fi,s.heap.get? p.1=some p.2/\H p.1=none/\p.1≠X.env.locals/\p.1∉X.fs/\∀v,p.2.data≠ .cell v):Inv X Fi σ H s:=
 ⟨I.ok,I.os,I.bare,I.base,I.loc,I.cell,I.free,I.jr,fun p hp=>(cE.mp hp).elim (fun z=>I.pin p (gj _ z)) (h p),I.hok,I.len⟩
theorem Bc{N:List Str}(hN:N.Nodup){i j:Nat}{x:Str}(a:N[i]?=some x)(b:N[j]?=some x):i=j:=by
 obtain⟨h1,e1⟩:=aJ.mp a
 obtain⟨h2,e2⟩:=aJ.mp b
 exact(wZ hN).mp (e1.trans e2.symm)
theorem Bm{M:Model}{A:Around}{E:Value->Shared->Prop}{i:Nat}{x:Str}{v:V}{u:Value}{Q:Unit->Shared->Prop}(I:Inv X pins σ H s)(hN:X.N.Nodup)(hi:X.N[i]?=some x)(hx:Loc X.env.scope x)(r:RelV v u)
  (h:∀s',Inv X pins (σ.set i (some v)) H s'->(∃a,Heap.SameBut a s.heap s'.heap/\(a=X.env.locals\/X.env.cells.lookup x=some a))->Q () s') (hf:X.fn x=true\/X.env.scope.names.lookup x=some .local:=by first|exact .inl rfl|exact .inr rfl|assumption):wpAny M A (storeName X.env x u) Q E s:=by
 obtain⟨m,hn,hl⟩:=id I.loc
 have hcls:(X.env.scope.kind== .class||(X.env.scope.kind== .module && X.env.locals !=X.env.globals))=false:=by rw[I.ok.kind];rfl
 have Bw:i<σ.length:=by rw[I.len];exact(aJ.mp hi).1
 have mR:=I.mR
 have tracked:∀{a:Addr} {h':Heap},(∃o,s.heap.get? a=some o/\H a=none)->Heap.SameBut a s.heap h'->cM X.prog X.w H h':=fun{a h'} ha hs b ob e=>by
  obtain⟨_,_,hfree⟩:=ha
  refine(I.hok b ob e).stay (fun c w' hc q=>(hs.2 c ?_).trans q) (fun _ q=>q) fun _ _ q=>q
  rintro rfl
  rcases hc with rfl|hc
  ·rw[hfree] at e;cases e
  ·rw[hfree] at hc;cases hc
 rcases hx with hk|hk
 ·refine wpAny_storeName_local hk hn (fun h' hn' hs=>?_) hcls
  obtain⟨oL,_,_,jY,_⟩:=id hn
  refine h _ ⟨I.ok,I.os,I.bare,⟨fun b o e n hb hx=>?_,fun b o e n hb hx=>?_,I.base.free,fun b o e hx=>?_,I.base.tups,I.base.kh,I.base.lW⟩,⟨_,hn',fun j y v' e1 e2 e3=>?_⟩,fun y c e=>?_,I.free,I.jr,fun p hp=>?_,tracked ⟨oL,jY,I.free⟩ hs,by simpa using I.len⟩ ⟨_,hs, .inl rfl⟩
  ·exact(hs.2 b (bS (cT (aX e) I.ok.above))).trans (I.base.keep b o e n hb hx)
  ·obtain⟨sl,e1⟩:=I.base.slot b o e n hb hx
   exact⟨sl,(hs.2 b (bS (cT (aX e) I.ok.above))).trans e1⟩
  ·obtain⟨o',e1⟩:=I.base.there b o e hx
   exact⟨o',(hs.2 b (bS (cT (aX e) I.ok.above))).trans e1⟩
  ·by_cases hj:j=i
   ·subst hj
    rw[hi] at e1;cases e1
    rw[bx Bw] at e2
    cases e2
    exact⟨u,r, .inl ⟨hk,by simp⟩⟩
   ·rw[aT (br hj)] at e2
    obtain⟨u',r',q⟩:=hl j y v' e1 e2 e3
    refine⟨u',r',?_⟩
    rcases q with ⟨k,e⟩|⟨k,c,e,z⟩
    ·refine .inl ⟨k,?_⟩
     have:y≠x:=fun e=>hj (Bc hN e1 (e▸hi))
     simp[this,e]
    ·exact .inr ⟨k,c,e,z.sameBut hs (mR y c e)⟩
  ·obtain⟨w',z⟩:=I.cell y c e
   exact⟨w',z.sameBut hs (mR y c e)⟩
  ·obtain⟨e,n,ne,nf,d⟩:=I.pin p hp
   exact⟨(hs.2 p.1 ne).trans e,n,ne,nf,d⟩
 ·have hfn:X.fn x=true:=by
   rcases hf with z|z
   ·exact z
   ·rw[z] at hk;cases hk
  obtain⟨c,hc⟩:=I.ok.has x (.inl hk)
  obtain⟨w',z⟩:=I.cell x c hc
  refine wpAny_storeName_cell I.ok.kind hk hc z (fun h' hc' hs=>?_)
  obtain⟨oc,hoc,JG⟩:=id z
  refine h {s with heap:=h'} ⟨I.ok,I.os,I.bare,⟨fun b o e n hb hx=>?_,fun b o e n hb hx=>?_,I.base.free,fun b o e hx=>?_,I.base.tups,I.base.kh,I.base.lW⟩,⟨m,hn.sameBut hs (br (mR x c hc)),fun j y v' e1 e2 e3=>?_⟩,fun y c' e=>?_,I.free,I.jr,fun p hp=>?_,tracked ⟨oc,hoc,I.jr x c hc⟩ hs,by simpa using I.len⟩ ⟨c,hs, .inr hc⟩
  ·exact(hs.2 b (bS (cT (aX e) (I.ok.qG x c hfn hc)))).trans (I.base.keep b o e n hb hx)
  ·obtain⟨sl,e1⟩:=I.base.slot b o e n hb hx
   exact⟨sl,(hs.2 b (bS (cT (aX e) (I.ok.qG x c hfn hc)))).trans e1⟩
  ·obtain⟨o',e1⟩:=I.base.there b o e hx
   exact⟨o',(hs.2 b (bS (cT (aX e) (I.ok.qG x c hfn hc)))).trans e1⟩
  ·by_cases hj:j=i
   ·subst hj
    rw[hi] at e1;cases e1
    rw[bx Bw] at e2
    cases e2
    exact⟨u,r, .inr ⟨.inl hk,c,hc,hc'⟩⟩
   ·rw[aT (br hj)] at e2
    obtain⟨u',r',q⟩:=hl j y v' e1 e2 e3
    refine⟨u',r',?_⟩
    rcases q with q|⟨k,c',e,z'⟩
    ·exact .inl q
    ·refine .inr ⟨k,c',e,z'.sameBut hs ?_⟩
     rintro rfl
     exact hj (Bc hN e1 (I.ok.inj _ _ _ e hc▸hi))
  ·by_cases hcc:c'=c
   ·subst hcc;exact⟨_,hc'⟩
   ·obtain⟨w2,z2⟩:=I.cell y c' e
    exact⟨w2,z2.sameBut hs hcc⟩
  ·obtain⟨e,n,ne,nf,d⟩:=I.pin p hp
   refine⟨(hs.2 p.1 ?_).trans e,n,ne,nf,d⟩
   intro q
   rw[q,hoc] at e
   have q':oc=p.2:=eS e
   exact d w' (by rw[<-q'];exact JG)
theorem BN{M:Model}{A:Around}{E:Value->Shared->Prop}{i:Nat}{x:Str}{v:V}{u:Value}{Q:Unit->Shared->Prop}(I:Inv X pins σ H s)(hN:X.N.Nodup)(hi:X.N[i]?=some x)(hx:Loc X.env.scope x)(r:RelV v u)
  (h:∀s',Inv X pins (σ.set i (some v)) H s'->Q () s') (hf:X.fn x=true\/X.env.scope.names.lookup x=some .local:=by first|exact .inl rfl|exact .inr rfl|assumption):wpAny M A (storeName X.env x u) Q E s:=
 Bm I hN hi hx r (fun s' I' _=>h s' I') hf
theorem Inv.Q8{s':Shared}{ch:List Addr}(I:Inv X pins σ H s)(ho:s'.os=s.os)(u:Un (frs X.stack) ch H H' s.heap s'.heap)(hok:cM X.prog X.w H' s'.heap)(hg:AllBare s'.gens)
  (hch:∀b∈ch,(b∈X.ex\/X.s₀.heap.objs.size<=b)/\b≠X.env.locals/\(∀x c,X.env.cells.lookup x=some c->c≠b)/\∀p∈X.pn++pins,p.1≠b):Inv X pins σ H' s':=by
 obtain⟨h',g',d',t',o'⟩:=s'
 have e:o'=s.os:=ho
 subst e
 exact I.call (g':=g') (t':=t') (d':=d') u hok hg hch
end
abbrev XK:=Value->Option Addr->Hp->Prop
abbrev St:=List (Option V)
abbrev VK:=V->Hp->Prop
abbrev TE:=St->Hp->VK->Prop
abbrev TT:=St->Hp->(Bool->Hp->Prop)->Prop
abbrev TA:=St->Hp->(List V->Hp->Prop)->Prop
structure Ends where
 nx:St->Hp->Prop
 rt:VK
 bk:St->Hp->Prop:=fun _ _=>False
 ct:St->Hp->Prop:=fun _ _=>False
abbrev TS:=Ends->St->Hp->Prop
def EP(X:Cx)(pins:List (Addr×Obj))(σ:St)(Q:VK)(u:Value)(s':Shared):Prop:=∃v H',Inv X pins σ H' s'/\RelV v u/\Q v H'
def TP(X:Cx)(pins:List (Addr×Obj))(σ:St)(Q:Bool->Hp->Prop)(b:Bool)(s':Shared):Prop:=∃H',Inv X pins σ H' s'/\Q b H'
def AP(X:Cx)(pins:List (Addr×Obj))(σ:St)(Q:List V->Hp->Prop)(us:List Value)(s':Shared):Prop:=∃vs H',Inv X pins σ H' s'/\Vals vs us/\Q vs H'
def SP(X:Cx)(pins:List (Addr×Obj))(D:Ends)(f:Flow)(s':Shared):Prop:=
 match f with
 | .next=>∃σ' H',Inv X pins σ' H' s'/\D.nx σ' H'
 | .brk=>∃σ' H',Inv X pins σ' H' s'/\D.bk σ' H'
 | .cont=>∃σ' H',Inv X pins σ' H' s'/\D.ct σ' H'
 | .ret u=>∃v σ' H',Inv X pins σ' H' s'/\RelV v u/\D.rt v H'
def PE(X:Cx)(e:Expr)(t:TE):Prop:=
 ∀(pins:List (Addr×Obj)) (s:Shared) (σ:St) (H:Hp) (Q:VK),Inv X pins σ H s->t σ H Q->wpAny (model X.prog X.w) X.A (eval e X.env) (EP X pins σ Q) X.xe s
def PT(X:Cx)(e:Expr)(t:TT):Prop:=
 ∀(pins:List (Addr×Obj)) (s:Shared) (σ:St) (H:Hp) (Q:Bool->Hp->Prop),Inv X pins σ H s->t σ H Q->wpAny (model X.prog X.w) X.A (isTrue e X.env (eval e X.env)) (TP X pins σ Q) X.xe s
def PW(X:Cx)(e:Expr)(t:TT):Prop:=
 ∀(whole:Sem Value) (pins:List (Addr×Obj)) (s:Shared) (σ:St) (H:Hp) (Q:Bool->Hp->Prop),Inv X pins σ H s->t σ H Q->wpAny (model X.prog X.w) X.A (isTrue e X.env whole) (TP X pins σ Q) X.xe s
theorem PW.pt{X:Cx}{e:Expr}{t:TT}(h:PW X e t):PT X e t:=h _
def PA(X:Cx)(es:List Expr)(t:TA):Prop:=
 ∀(pos:Pos) (pins:List (Addr×Obj)) (s:Shared) (σ:St) (H:Hp) (Q:List V->Hp->Prop),Inv X pins σ H s->t σ H Q->wpAny (model X.prog X.w) X.A (spliced (backTo pos (starEach es X.env))) (AP X pins σ Q) X.xe s
def PS(X:Cx)(st:Stmt)(t:TS):Prop:=
 ∀(pins:List (Addr×Obj)) (s:Shared) (σ:St) (H:Hp) (D:Ends),Inv X pins σ H s->t D σ H->wpAny (model X.prog X.w) X.A (exec st X.env) (SP X pins D) X.xe s
def iy(X:Cx)(st:List Stmt)(t:TS):Prop:=
 ∀(pins:List (Addr×Obj)) (s:Shared) (σ:St) (H:Hp) (D:Ends),Inv X pins σ H s->t D σ H->wpAny (model X.prog X.w) X.A (execs st X.env) (SP X pins D) X.xe s
theorem aE{α:Type}{t:Sem α}{Q Q':α->Shared->Prop}{M:Model}{A:Around}{E:Value->Shared->Prop}{s:Shared}(h:wpAny M A t Q E s)(hQ:∀a s,Q a s->Q' a s):wpAny M A t Q' E s:=wpAny_mono h hQ fun _ _ x=>x
section
variable{X:Cx}
theorem bin{a b:Expr}{ta tb:TE}(ha:PE X a ta)(hb:PE X b tb){pins:List (Addr×Obj)}{s:Shared}{σ:St}{H:Hp}{R:V->V->Hp->Prop}(I:Inv X pins σ H s)(h:ta σ H fun x H1=>tb σ H1 fun y H2=>R x y H2)
  {α:Type} {Q:α->Shared->Prop} {f:Value->Value->Sem α}
  (hf:∀v u s2 x y H2,Inv X pins σ H2 s2->RelV x v->RelV y u->R x y H2->wpAny (model X.prog X.w) X.A (f v u) Q X.xe s2):
  wpAny (model X.prog X.w) X.A (eval a X.env) (fun v s₁=>wpAny (model X.prog X.w) X.A (eval b X.env) (fun u s₂=>wpAny (model X.prog X.w) X.A (f v u) Q X.xe s₂) X.xe s₁) X.xe s:=by
 refine aE (ha pins s σ H _ I h) fun v s1 ⟨x,H1,I1,r1,q1⟩=>?_
 refine aE (hb pins s1 σ H1 _ I1 q1) fun u s2 ⟨y,H2,I2,r2,q2⟩=>?_
 exact hf v u s2 x y H2 I2 r1 r2 q2
def bE(i:Nat):TE:=fun σ H Q=>∃v,σ[i]?=some (some v)/\Q v H
def tC(v:V):TE:=fun _ H Q=>Q v H
theorem N3{i:Nat}{x:Str}{pos:Pos}(hN:X.N[i]?=some x)(hv:AN X.env.scope x)(hd:(x==("__debug__":Str))=false:=by decide)(hcd:(x==("__classdict__":Str))=false:=by decide):PE X (.Name x pos) (bE i):=by
 intro pins s σ H Q I h
 obtain⟨v,e,h⟩:=h
 obtain⟨m,hn,hl⟩:=I.loc
 obtain⟨u,r,l⟩:=hl i x v hN e hv
 have fin:EP X pins σ Q u s:=⟨v,H,I,r,h⟩
 rcases l with ⟨hk,hm⟩|⟨hk,c,hc,hcell⟩
 ·exact wpAny_Name (wpAny_loadName_local I.ok.kind hk hn hm fin) hd
 ·rcases hk with hk|hk
  ·exact wpAny_Name (wpAny_loadName_cell I.ok.kind hk hc hcell fin) hd
  ·exact wpAny_Name (wpAny_loadName_free I.ok.kind hk hc hcell fin hcd) hd
theorem ao{i j pos}:PE X (.Constant (.int i) j pos) (tC (.int i)):=fun _ _ _ H _ I h=>wpAny_Constant_int ⟨.int i,H,I.tok _,⟨_,rfl⟩,h⟩
theorem kM{b j pos}:PE X (.Constant (.bool b) j pos) (tC (.bl b)):=fun _ _ _ H _ I h=>Constant_bool ⟨.bl b,H,I,rfl,h⟩
def Gl(X:Cx)(x:Str):Prop:=X.env.kindOf x=some .globalImplicit
theorem Ld{E:Value->Shared->Prop}{pins:List (Addr×Obj)}{s:Shared}{σ:St}{H:Hp}{x:Str}{u:Value}{pos:Pos}{Q:Value->Shared->Prop}(I:Inv X pins σ H s)(hg:Gl X x)(hm:X.mg x=some u)(h:Q u s)
  (hd:(x==("__debug__":Str))=false:=by decide):wpAny (model X.prog X.w) X.A (eval (.Name x pos) X.env) Q E s:=
 G0 I.ok.kind hg (Calls.loadGlobal_global (by rw[I.ok.glob];exact I.mod.glob.keeps I.bk) hm h) hd
theorem nY{E:Value->Shared->Prop}{pins:List (Addr×Obj)}{s:Shared}{σ:St}{H:Hp}{x:Str}{u:Value}{pos:Pos}{Q:Value->Shared->Prop}(I:Inv X pins σ H s)(hg:Gl X x)(hm:X.mg x=none)(hv:bootBuiltins x=some u)(h:Q u s)
  (hn:x≠"__name__":=by decide) (hd:(x==("__debug__":Str))=false:=by decide):wpAny (model X.prog X.w) X.A (eval (.Name x pos) X.env) Q E s:=by
 obtain⟨mb,h1,h2⟩:=I.mod.blt
 exact G0 I.ok.kind hg (Calls.loadGlobal_builtin (by rw[I.ok.glob];exact I.mod.glob.keeps I.bk) hm (by rw[I.ok.blt];exact h1.keeps I.bk) ((h2 x hn).trans hv) h) hd
theorem iY{x:Str}{v:V}{u:Value}{pos:Pos}(hg:Gl X x)(hm:X.mg x=none)(hv:bootBuiltins x=some u)(r:RelV v u)(hn:x≠"__name__":=by decide)(hd:(x==("__debug__":Str))=false:=by decide):PE X (.Name x pos) (tC v):=
 fun _ _ _ H _ I h=>nY I hg hm hv ⟨v,H,I,r,h⟩ hn hd
variable{a b:Expr}{ta tb:TE}{pos:Pos}
def PC(X:Cx)(op:CmpOp)(a b:Expr)(t:TE):Prop:=
 ∀(pins:List (Addr×Obj)) (s:Shared) (σ:St) (H:Hp) (Q:VK),Inv X pins σ H s->t σ H Q->
  wpAny (model X.prog X.w) X.A (eval a X.env) (fun v s₁=>wpAny (model X.prog X.w) X.A (eval b X.env) (fun u s₂=>wpAny (model X.prog X.w) X.A (compareOp op v u) (EP X pins σ Q) X.xe s₂) X.xe s₁) X.xe s
variable{tA sN:TT}{rest:List Expr}
def yt(t u:TT):TT:=fun σ H Q=>t σ H fun c H1=>if c=true then u σ H1 Q else Q false H1
def Er(t u:TT):TT:=fun σ H Q=>t σ H fun c H1=>if c=true then Q true H1 else u σ H1 Q
def Cg(t:TT):TT:=fun σ H Q=>t σ H fun c H1=>Q (!c) H1
theorem rC(ha:PT X a tA):PW X (.BoolOp .And [a] pos) tA:=by
 intro wh pins s σ H Q I h
 refine isTrue_and (aE (ha pins s σ H Q I h) fun c s1 e=>?_)
 cases c with
 |true=>exact isTrue_and_nil e
 |false=>exact e
theorem oW(ha:PT X a tA):PW X (.BoolOp .Or [a] pos) tA:=by
 intro wh pins s σ H Q I h
 refine isTrue_or (aE (ha pins s σ H Q I h) fun c s1 e=>?_)
 cases c with
 |false=>exact isTrue_or_nil e
 |true=>exact e
theorem qP(ha:PT X a tA)(hb:PW X (.BoolOp .And (b::rest) pos) sN):PW X (.BoolOp .And (a::b::rest) pos) (yt tA sN):=by
 intro wh pins s σ H Q I h
 refine isTrue_and (aE (ha pins s σ H _ I h) fun c s1 ⟨H1,I1,q1⟩=>?_)
 cases c with
 |true=>exact hb wh pins s1 σ H1 Q I1 q1
 |false=>exact⟨H1,I1,q1⟩
theorem mG(ha:PT X a tA)(hb:PW X (.BoolOp .Or (b::rest) pos) sN):PW X (.BoolOp .Or (a::b::rest) pos) (Er tA sN):=by
 intro wh pins s σ H Q I h
 refine isTrue_or (aE (ha pins s σ H _ I h) fun c s1 ⟨H1,I1,q1⟩=>?_)
 cases c with
 |true=>exact⟨H1,I1,q1⟩
 |false=>exact hb wh pins s1 σ H1 Q I1 q1
theorem HE(ha:PT X a tA):PT X (.UnaryOp .Not a pos) (Cg tA):=by
 intro pins s σ H Q I h
 exact isTrue_not (ha pins s σ H (fun c H1=>Q (!c) H1) I h)
def Df(ta tb:TE):TE:=fun σ H Q=>ta σ H fun x H1=>∃c,x= .bl c/\if c=true then tb σ H1 Q else Q (.bl false) H1
theorem xV{op}{t:TE}(h:PE X a t):PE X (.BoolOp op [a] pos) t:=fun pins s σ H Q I hw=>BoolOp_one (h pins s σ H Q I hw)
theorem Az(ha:PE X a ta)(hb:PE X (.BoolOp .And (b::rest) pos) tb):PE X (.BoolOp .And (a::b::rest) pos) (Df ta tb):=by
 intro pins s σ H Q I h
 refine BoolOp_and (aE (ha pins s σ H _ I h) fun v s1 ⟨x,H1,I1,r1,q1⟩=>?_)
 obtain⟨c,rfl,q1⟩:=q1
 cases r1
 refine wpAny_truthy_bool ?_
 cases c with
 |true=>exact hb pins s1 σ H1 Q I1 q1
 |false=>exact⟨.bl false,H1,I1,rfl,q1⟩
def GU(t:TT)(ta tb:TE):TE:=fun σ H Q=>t σ H fun c H1=>if c=true then ta σ H1 Q else tb σ H1 Q
theorem KH{c:Expr}(hc:PT X c tA)(ha:PE X a ta)(hb:PE X b tb):PE X (.IfExp c a b pos) (GU tA ta tb):=by
 intro pins s σ H Q I h
 refine wpAny_IfExp (aE (hc pins s σ H _ I h) fun d s1 ⟨H1,I1,q1⟩=>?_)
 cases d with
 |true=>exact ha pins s1 σ H1 Q I1 q1
 |false=>exact hb pins s1 σ H1 Q I1 q1
end
def aF(K:PySem.W.Frag)(H:Hp)(a:Addr)(xs:List V):Prop:=
 Rd H a (.lst xs)\/
  ∃(o:Obj) (its:Array Value) (n:Nat),K.lookup a=some o/\o.cls= .type "list" /\o.dict=none/\o.data= .seq its n/\its.size<=sizeLine/\Vals xs its.toList
def fU(K:PySem.W.Frag)(H:Hp)(a:Addr)(xs:List V):Prop:=
 Rd H a (.tup xs)\/
  ∃(o:Obj) (its:Array Value) (n:Nat),K.lookup a=some o/\o.cls= .type "tuple" /\o.data= .seq its n/\its.size<=sizeLine/\Vals xs its.toList
def QY:Value->Option V
 | .none=>some .aG
 | .bool b=>some (.bl b)
 | .int i _=>some (.int i)
 | .str x _=>some (.str x)
 | .bytes b _=>some (.iE b)
 | .float b _=>some (.j8 b)
 | .ref a=>some (.ref a)
 | .type n=>some (.ty n)
 |_=>none
theorem RelV.abs{x:V}{u:Value}(r:RelV x u):QY u=some x:=by
 cases x with
 |aG=>cases r;rfl
 |bl _=>cases r;rfl
 |int _=>obtain⟨t,rfl⟩:=r;rfl
 |str _=>obtain⟨t,rfl⟩:=r;rfl
 |iE _=>obtain⟨t,rfl⟩:=r;rfl
 |j8 _=>obtain⟨t,rfl⟩:=r;rfl
 |ref _=>cases r;rfl
 |ty _=>cases r;rfl
theorem RelV.inj{x y:V}{u:Value}(r:RelV x u)(q:RelV y u):x=y:=eS (r.abs.symm.trans q.abs)
theorem Vals.inj{xs ys:List V}{us:List Value}(h:Vals xs us)(k:Vals ys us):xs=ys:=by
 induction h generalizing ys with
 |nil=>cases k;rfl
 |cons r t ih=>cases k with|cons r' t'=>rw[r.inj r',ih t']
section
variable{X:Cx}{pins:List (Addr×Obj)}{σ:St}{H:Hp}{s:Shared}{a:Addr}{xs ys:List V}
theorem aF.of{K:PySem.W.Frag}(h:H a=some (.lst xs)):aF K H a xs:= .inl (.inl h)
theorem fU.of{K:PySem.W.Frag}(h:H a=some (.tup xs)):fU K H a xs:= .inl (.inl h)
theorem Inv.list(I:Inv X pins σ H s)(h:aF X.K H a xs):∃its:List Value,Vals xs its/\PlainL s.heap a its.toArray/\xs.length<=sizeLine:=by
 rcases h with h|⟨o,its,n,hk,hc,hd,hs,hz,r⟩
 ·obtain⟨z,its,n,r,e⟩:=h.ok I.hok
  exact⟨its,r,⟨_,n,e,rfl,rfl,rfl⟩,z⟩
 ·refine⟨its.toList,r,⟨o,n,I.dD a o hk,hc,hd,by simpa using hs⟩,?_⟩
  have e:=r.length
  simp only[cF] at e
  omega
theorem Inv.tuple(I:Inv X pins σ H s)(h:fU X.K H a xs):∃its:List Value,Vals xs its/\IsTup s.heap a its.toArray/\xs.length<=sizeLine:=by
 rcases h with h|⟨o,its,n,hk,hc,hs,hz,r⟩
 ·obtain⟨z,its,r,p⟩:=h.ok I.hok
  exact⟨its,r,p,z⟩
 ·refine⟨its.toList,r,⟨o,I.dD a o hk,hc,n,by simpa using hs⟩,?_⟩
  have e:=r.length
  simp only[cF] at e
  omega
theorem Inv.Cb(I:Inv X pins σ H s)(h:aF X.K H a xs)(h':aF X.K H a ys):xs=ys:=by
 obtain⟨its,r,⟨o,n,e,_,_,d⟩,_⟩:=I.list h
 obtain⟨its',r',⟨o',n',e',_,_,d'⟩,_⟩:=I.list h'
 rw[e] at e';cases e'
 rw[d] at d'
 injection d' with d1 _
 have:its=its':=by simpa using congrArg Array.toList d1
 subst this
 exact r.inj r'
end
abbrev Cx.jR(X:Cx)(E:Value->Shared->Prop):Cx:={X with xe:=E}
abbrev Cx.uN(X:Cx):Cx:=X.jR fun _ _=>False
theorem Cx.Ok.jR{X:Cx}(ok:X.Ok)(E:Value->Shared->Prop):(X.jR E).Ok:=
 ⟨ok.mod,ok.kind,ok.glob,ok.blt,ok.above,ok.inj,ok.has,ok.qG,ok.hd,ok.frames,ok.stk,ok.tP,ok.bs,ok.nj,ok.rz,ok.qo,ok.jz,ok.oH⟩
theorem Cx.Ok.ly{X:Cx}{E:Value->Shared->Prop}(ok:(X.jR E).Ok):X.Ok:=
 ⟨ok.mod,ok.kind,ok.glob,ok.blt,ok.above,ok.inj,ok.has,ok.qG,ok.hd,ok.frames,ok.stk,ok.tP,ok.bs,ok.nj,ok.rz,ok.qo,ok.jz,ok.oH⟩
section
variable{X:Cx}{pins:List (Addr×Obj)}{σ:St}{H:Hp}{s:Shared}{E:Value->Shared->Prop}
theorem Inv.jR(I:Inv X pins σ H s)(E:Value->Shared->Prop):Inv (X.jR E) pins σ H s:=⟨I.ok.jR E,I.os,I.bare,I.base,I.loc,I.cell,I.free,I.jr,I.pin,I.hok,I.len⟩
theorem Inv.ly(I:Inv (X.jR E) pins σ H s):Inv X pins σ H s:=⟨I.ok.ly,I.os,I.bare,I.base,I.loc,I.cell,I.free,I.jr,I.pin,I.hok,I.len⟩
theorem SP.ly{D:Ends}{f:Flow}{s':Shared}(h:SP (X.jR E) pins D f s'):SP X pins D f s':=by
 cases f with
 |next=>obtain⟨σ',H',I,q⟩:=h;exact⟨σ',H',I.ly,q⟩
 |brk=>obtain⟨σ',H',I,q⟩:=h;exact⟨σ',H',I.ly,q⟩
 |cont=>obtain⟨σ',H',I,q⟩:=h;exact⟨σ',H',I.ly,q⟩
 |ret u=>obtain⟨v,σ',H',I,r,q⟩:=h;exact⟨v,σ',H',I.ly,r,q⟩
theorem iy.uN{st:List Stmt}{t:TS}(h:iy X.uN st t):iy X st t:=fun pins s σ H D I hw=>
 wpAny_mono (h pins s σ H D (I.jR _) hw) (fun _ _ q=>q.ly) fun _ _ z=>False.elim z
end
section
variable{X:Cx}{st:Stmt}{rest:List Stmt}{t u:TS}{e:Expr}{te:TE}{pos:Pos}
def wA:TS:=fun D σ H=>D.nx σ H
def oB(t u:TS):TS:=fun D σ H=>t {D with nx:=u D} σ H
theorem fj:iy X [] wA:=fun _ _ σ H _ I h=>wpAny_execs_nil ⟨σ,H,I,h⟩
theorem aD(h1:PS X st t)(h2:iy X rest u):iy X (st::rest) (oB t u):=by
  intro pins s σ H D I h
  refine wpAny_execs_cons (aE (h1 pins s σ H {D with nx:=u D} I h) fun f s1 q=>?_)
  cases f with
  | next =>
    obtain⟨σ',H',I',q⟩:=q
    exact h2 pins s1 σ' H' D I' q
  |ret v=>exact q
  |brk=>exact q
  |cont=>exact q
theorem aM(h1:PS X st t):iy X [st] t:=by
 intro pins s σ H D I h
 refine wpAny_execs_cons (aE (h1 pins s σ H D I h) fun f s1 q=>?_)
 cases f with
 |next=>exact wpAny_execs_nil q
 |ret v=>exact q
 |brk=>exact q
 |cont=>exact q
def Nr:TS:=fun D σ H=>D.bk σ H
def KC:TS:=fun D σ H=>D.ct σ H
theorem Inv.quiet{pins:List (Addr×Obj)}{σ:St}{H:Hp}{s:Shared}(I:Inv X pins σ H s):interactive X.env=false:=by simp[interactive,I.ok.kind]
def jV(te:TE):TS:=fun D σ H=>te σ H fun _ H1=>D.nx σ H1
theorem jb(he:PE X e te)(hs:swapsWith e none pos.line X.env=pure false:=by rfl):PS X (.Expr e pos) (jV te):=by
 intro pins s σ H D I h
 exact wpAny_Expr_any (aE (he pins s σ H _ I h) fun v s1 ⟨x,H1,I1,r1,q1⟩=>⟨σ,H1,I1,q1⟩) I.quiet hs
def qh(te:TE):TS:=fun D σ H=>te σ H D.rt
theorem cA(he:PE X e te):PS X (.Return (some e) pos) (qh te):=by
 intro pins s σ H D I h
 exact wpAny_Return_some (aE (he pins s σ H _ I h) fun v s1 ⟨x,H1,I1,r1,q1⟩=>⟨x,σ,H1,I1,r1,q1⟩)
def z3(c:TT)(t u:TS):TS:=fun D σ H=>c σ H fun b H1=>if b=true then t D σ H1 else u D σ H1
theorem eE{c:Expr}{a b:List Stmt}{tc:TT}(hc:PT X c tc)(ha:iy X a t)(hb:iy X b u):PS X (.If c a b pos) (z3 tc t u):=by
 intro pins s σ H D I h
 refine wpAny_If (aE (hc pins s σ H _ I h) fun d s1 ⟨H1,I1,q1⟩=>?_)
 cases d with
 |true=>exact ha pins s1 σ H1 D I1 q1
 |false=>exact hb pins s1 σ H1 D I1 q1
end
abbrev TG:=V->St->Hp->(St->Hp->Prop)->Prop
abbrev iJ:=List V->St->Hp->(St->Hp->Prop)->Prop
def PG(X:Cx)(target:Expr)(t:TG):Prop:=
 ∀(pins:List (Addr×Obj)) (s:Shared) (σ:St) (H:Hp) (v:V) (u:Value) (Q:St->Hp->Prop),Inv X pins σ H s->RelV v u->t v σ H Q->
  wpAny (model X.prog X.w) X.A (assign target X.env u) (fun _ s'=>∃σ' H',Inv X pins σ' H' s'/\Q σ' H') X.xe s
def pL(X:Cx)(ts:List Expr)(t:iJ):Prop:=
 ∀(pins:List (Addr×Obj)) (s:Shared) (σ:St) (H:Hp) (vs:List V) (us:List Value) (Q:St->Hp->Prop),Inv X pins σ H s->Vals vs us->t vs σ H Q->
  wpAny (model X.prog X.w) X.A (assignInOrder ((assignEach ts X.env).map (·.2)) us) (fun _ s'=>∃σ' H',Inv X pins σ' H' s'/\Q σ' H') X.xe s
abbrev oE:=V->V->V->Hp->(Hp->Prop)->Prop
def rZ(X:Cx)(t:oE):Prop:=
 ∀(pins:List (Addr×Obj)) (s:Shared) (σ:St) (H:Hp) (o i v:V) (ov iv u:Value) (Q:Hp->Prop),Inv X pins σ H s->RelV o ov->RelV i iv->RelV v u->t o i v H Q->
  wpAny (model X.prog X.w) X.A (setItem ov iv u) (fun _ s'=>∃H',Inv X pins σ H' s'/\Q H') X.xe s
abbrev uS:=V->V->Hp->VK->Prop
def G3(X:Cx)(op:Operator)(t:uS):Prop:=
 ∀(pins:List (Addr×Obj)) (s:Shared) (σ:St) (H:Hp) (x y:V) (v u:Value) (Q:VK),Inv X pins σ H s->RelV x v->RelV y u->t x y H Q->
  wpAny (model X.prog X.w) X.A (inplaceOp op v u) (EP X pins σ Q) X.xe s
section
variable{X:Cx}{pos:Pos}
def ek(i:Nat):TG:=fun v σ H Q=>Q (σ.set i (some v)) H
theorem aY{i:Nat}{x:Str}(hN:X.N.Nodup)(hi:X.N[i]?=some x)(hx:Loc X.env.scope x)(hf:X.fn x=true\/X.env.scope.names.lookup x=some .local:=by first|exact .inl rfl|exact .inr rfl|assumption):PG X (.Name x pos) (ek i):=by
 intro pins s σ H v u Q I r h
 exact wpAny_assign_Name (BN I hN hi hx r (fun s' I'=>⟨_,H,I',h⟩) hf)
def rG:iJ:=fun vs σ H Q=>vs=[]/\Q σ H
def oO(t:TG)(u:iJ):iJ:=fun vs σ H Q=>∃v r,vs=v::r/\t v σ H fun σ' H'=>u r σ' H' Q
theorem oK:pL X [] rG:=by
 intro pins s σ H vs us Q I r h
 obtain⟨e,h⟩:=h
 subst e
 cases r
 exact assignInOrder_nil ⟨σ,H,I,h⟩
theorem iT{e:Expr}{es:List Expr}{t:TG}{u:iJ}(h1:PG X e t)(h2:pL X es u)
    (hs:(assignEach (e::es) X.env).map (·.2)=assign e X.env::(assignEach es X.env).map (·.2):=by rfl):pL X (e::es) (oO t u):=by
  intro pins s σ H vs us Q I r h
  obtain⟨v,vr,e1,h⟩:=h
  subst e1
  cases r with
  | cons r rr =>
    rw[hs]
    refine assignInOrder_cons (aE (h1 pins s σ H _ _ _ I r h) fun _ s1 ⟨σ1,H1,I1,q1⟩=>?_)
    exact h2 pins s1 σ1 H1 _ _ Q I1 rr q1
def pN(K:PySem.W.Frag)(n:Nat)(t:iJ):TG:=fun v σ H Q=>∃a xs,v= .ref a/\fU K H a xs/\xs.length=n/\t xs σ H Q
theorem OZ{es:List Expr}{k:Nat}{t:iJ}{n:Nat}(hc:X.calm=true)(h:pL X es t)
  (hn:(assignEach es X.env).length=n:=by rfl) (hst:(assignEach es X.env).findIdx? (·.1)=none:=by rfl):PG X (.Tuple es k pos) (pN X.K n t):=by
 intro pins s σ H v u Q I r hw
 obtain⟨a,xs,e1,hq,hl,hw⟩:=hw
 subst e1
 cases r
 obtain⟨its,rv,ht,hz⟩:=I.tuple hq
 refine assign_Tuple_tuple (I.ok.hd hc) ht (by simp[hn,<-hl,rv.length]) hst fun h' hx=>?_
 have I1:Inv X pins σ H {s with heap:=h'}:=I.kept (t':=s.toks) fun b o e=>hx b o (bS (aX e)) e
 exact h pins _ σ H xs _ Q I1 (by simpa using rv) hw
def yD(to ti:TE)(t:oE):TG:=fun v σ H Q=>to σ H fun o H1=>ti σ H1 fun i H2=>t o i v H2 fun H3=>Q σ H3
theorem n6{o i:Expr}{to ti:TE}{t:oE}(ho:PE X o to)(hi:PE X i ti)(hs:rZ X t)
  (ha : ∀ v, assign (.Subscript o i pos) X.env v = (do
   let ov<-holding [v] (eval o X.env)
   let iv<-holding [v,ov] (eval i X.env)
   standAt pos
   holding [v,ov,iv] (setItem ov iv v)
   release [v,ov,iv] []):=by intro _;rfl):PG X (.Subscript o i pos) (yD to ti t):=by
 intro pins s σ H v u Q I r h
 rw[ha]
 refine wpAny_bind (wpAny_holding (aE (ho pins s σ H _ I h) fun ov s1 ⟨x,H1,I1,r1,q1⟩=>?_))
 refine wpAny_bind (wpAny_holding (aE (hi pins s1 σ H1 _ I1 q1) fun iv s2 ⟨y,H2,I2,r2,q2⟩=>?_))
 refine wpAny_bind (wpAny_standAt (wpAny_bind (wpAny_holding (aE (hs pins s2 σ H2 x y v ov iv u _ I2 r1 r2 r q2) fun _ s3 ⟨H3,I3,q3⟩=>?_))))
 exact wpAny_release ⟨σ,H3,I3,q3⟩
def jf(te:TE)(g:TG):TS:=fun D σ H=>te σ H fun x H1=>g x σ H1 D.nx
theorem o8{tg e:Expr}{te:TE}{g:TG}(he:PE X e te)(hg:PG X tg g)(hs:swapsWithSole [tg] e pos.line X.env=pure false:=by rfl)(hw:swappedStores [tg] e X.env=pure none:=by rfl)
  (h1:(assignEach [tg] X.env).map (·.2)=[assign tg X.env]:=by rfl):PS X (.Assign [tg] e pos) (jf te g):=by
 intro pins s σ H D I h
 refine wpAny_Assign_stores (aE (he pins s σ H _ I h) fun v s1 ⟨x,H1,I1,r1,q1⟩=>?_) hs hw
 rw[h1]
 exact aE (hg pins s1 σ H1 x v _ I1 r1 q1) fun _ s2 q=>q
theorem bO{i:Nat}{x:Str}{e:Expr}{te:TE}{pos':Pos}(hN:X.N.Nodup)(hi:X.N[i]?=some x)(hx:Loc X.env.scope x)(he:PE X e te)(hs:swapsWith e (some (.Name x pos')) pos.line X.env=pure false:=by rfl)(hf:X.fn x=true\/X.env.scope.names.lookup x=some .local:=by first|exact .inl rfl|exact .inr rfl|assumption):
  PS X (.Assign [.Name x pos'] e pos) (jf te (ek i)):=by
 intro pins s σ H D I h
 refine wpAny_Assign_Name (aE (he pins s σ H _ I h) fun v s1 ⟨y,H1,I1,r1,q1⟩=>?_) hs
 exact BN I1 hN hi hx r1 (fun s2 I2=>⟨_,H1,I2,q1⟩) hf
def GA(to ti te:TE)(sJ:V->V->Hp->VK->Prop)(rO:uS)(rR:oE):TS:=fun D σ H=>to σ H fun o H1=>ti σ H1 fun i H2=>sJ o i H2 fun x H3=>te σ H3 fun y H4=>rO x y H4 fun z H5=>rR o i z H5 fun H6=>D.nx σ H6
def Eo(X:Cx)(t:V->V->Hp->VK->Prop):Prop:=
 ∀(pins:List (Addr×Obj)) (s:Shared) (σ:St) (H:Hp) (o i:V) (ov iv:Value) (Q:VK),Inv X pins σ H s->RelV o ov->RelV i iv->t o i H Q->
  wpAny (model X.prog X.w) X.A (getItem ov iv) (EP X pins σ Q) X.xe s
theorem Pc{o i e:Expr}{to ti te:TE}{sJ:V->V->Hp->VK->Prop}{rO:uS}{rR:oE}{op:Operator}{tpos:Pos}(ho:PE X o to)(hi:PE X i ti)(hg:Eo X sJ)(he:PE X e te)(hp:G3 X op rO)(hs:rZ X rR)
  (ha:∀ov iv new,augStore i ov iv new=(do holding [new,ov,iv] (setItem ov iv new);release [new,ov,iv] [];pure .next):=by intros;rfl):PS X (.AugAssign (.Subscript o i tpos) op e pos) (GA to ti te sJ rO rR):=by
 intro pins s σ H D I h
 refine wpAny_AugAssign_SubscriptAny (aE (ho pins s σ H _ I h) fun ov s1 ⟨x1,H1,I1,r1,q1⟩=>?_) ha
 refine aE (hi pins s1 σ H1 _ I1 q1) fun iv s2 ⟨x2,H2,I2,r2,q2⟩=>?_
 refine aE (hg pins s2 σ H2 x1 x2 ov iv _ I2 r1 r2 q2) fun old s3 ⟨x3,H3,I3,r3,q3⟩=>?_
 refine aE (he pins s3 σ H3 _ I3 q3) fun v s4 ⟨x4,H4,I4,r4,q4⟩=>?_
 refine aE (hp pins s4 σ H4 x3 x4 old v _ I4 r3 r4 q4) fun new s5 ⟨x5,H5,I5,r5,q5⟩=>?_
 exact aE (hs pins s5 σ H5 x1 x2 x5 ov iv new _ I5 r1 r2 r5 q5) fun _ s6 ⟨H6,I6,q6⟩=>⟨σ,H6,I6,q6⟩
def GC(f:Int->Int->Int):uS:=fun x y H Q=>∃i j,x= .int i/\y= .int j/\Q (.int (f i j)) H
theorem Ow:G3 X .Sub (GC fun i j=>i-j):=by
 intro pins s σ H x y v u Q I r1 r2 h
 obtain⟨i,j,e1,e2,q⟩:=h
 subst e1;subst e2
 obtain⟨t,rfl⟩:=r1
 obtain⟨t',rfl⟩:=r2
 exact isub_int ⟨.int _,H,I.tok _,⟨_,rfl⟩,q⟩
end
section
variable{X:Cx}{pos:Pos}
def CA(c:TT)(tb:TS):TS:=fun D σ H=>∃W:Nat->St->Hp->Prop,(∃m,W m σ H)/\∀m σ H,W m σ H->
 c σ H fun b H1=>if b=true then∃N:St->Hp->Prop,(∀σ' H',N σ' H'->∃m',m'<m/\W m' σ' H')/\tb {D with nx:=N,ct:=N,bk:=D.nx} σ H1 else D.nx σ H1
theorem L5{c:Expr}{body:List Stmt}{tc:TT}{tb:TS}(hp:PassesOwn (model X.prog X.w) X.A X.env X.xe)(hc:PT X c tc)(hb:iy X body tb):PS X (.While c body [] pos) (CA tc tb):=by
  intro pins s σ H D I h
  obtain⟨W,⟨m0,w0⟩,turn⟩:=h
  refine wpAny_While (codeAny_whileLoop (fun n s'=>∃σ' H',Inv X pins σ' H' s'/\W n σ' H') ?_ m0 ⟨σ,H,I,w0⟩)
  rintro n s1 ⟨σ1,H1,I1,w1⟩
  refine wpAny_passesOwn hp (aE (hc pins s1 σ1 H1 _ I1 (turn n σ1 H1 w1)) fun b s2 ⟨H2,I2,q2⟩=>?_)
  cases b with
  | true =>
    obtain⟨N,hN,q2⟩:=q2
    rw[if_pos rfl]
    refine wpAny_passesOwn hp (aE (hb pins s2 σ1 H2 _ I2 q2) fun f s3 q3=>?_)
    cases f with
    | next =>
      obtain⟨σ3,H3,I3,n3⟩:=q3
      obtain⟨m',hm,w3⟩:=hN σ3 H3 n3
      exact⟨m',hm,σ3,H3,I3,w3⟩
    | cont =>
      obtain⟨σ3,H3,I3,n3⟩:=q3
      obtain⟨m',hm,w3⟩:=hN σ3 H3 n3
      exact⟨m',hm,σ3,H3,I3,w3⟩
    |brk=>exact q3
    |ret v=>exact q3
  | false =>
    rw[if_neg bz]
    exact wpAny_execs_nil ⟨σ1,H2,I2,q2⟩
end
structure It where
 go:Nat->Hp->Prop
 lG:Nat->Hp->V->Hp->Prop
 stop:Nat->Hp->Prop
def gV(X:Cx)(pins:List (Addr×Obj))(H:Hp)(b:Addr):Prop:=
 H b=none/\b≠X.env.locals/\b∉X.fs/\(b∈X.ex\/X.s₀.heap.objs.size<=b)/\(∀x c,X.env.cells.lookup x=some c->c≠b)/\∀p∈X.pn++pins,p.1≠b
theorem Inv.qU{X:Cx}{pins:List (Addr×Obj)}{σ:St}{H H':Hp}{s:Shared}{b:Addr}(I:Inv X pins σ H s)(hb:s.heap.objs.size<=b)(hn:H' b=none):gV X pins H' b:=by
 refine⟨hn,mW (cT I.lt hb),I.Rw hb, .inr (cL I.sz hb),fun x c e z=>?_,fun p hp z=>?_⟩
 ·obtain⟨v,q⟩:=I.cell x c e
  exact absurd (cT q.lt (by rw[z];exact hb)) (fG _)
 ·exact absurd (cT (aX (I.pin p hp).1) (by rw[z];exact hb)) (fG _)
structure Turn(P:Program)(w:World)(K:PySem.W.Frag)(tg:Expr)(J:It)(fp:List Addr)(it:Addr)(tn:Nat->Heap->Prop):Prop where
 mem:it∈fp
 obj:∀i h,tn i h->∀b∈fp,∃o,h.get? b=some o/\∀v,o.data≠ .cell v
 keep:∀i h h',tn i h->(∀b∈fp,∀o,h.get? b=some o->h'.get? b=some o)->tn i h'
 item:∀(X:Cx),X.prog=P->X.w=w->X.K=K->X.calm=true->∀(i:Nat) (pins:List (Addr×Obj)) (s:Shared) (σ:St) (H:Hp) (E:Value->Shared->Prop),Inv X pins σ H s->(∀b∈fp,gV X pins H b)->tn i s.heap->J.go i H->
  wpAny (model P w) X.A (pyNext (.ref it)) (fun r s1=>∃u,r=some u/\
   wpAny (model P w) X.A (letOwnedTupleGo tg (.ref it) u) (fun _ s2=>∃x H',Inv X pins σ H' s2/\RelV x u/\J.lG i H x H'/\tn (i+1) s2.heap/\∀b∈fp,H' b=none) E s1) E s
 done:∀(X:Cx),X.prog=P->X.w=w->X.K=K->X.calm=true->∀(i:Nat) (pins:List (Addr×Obj)) (s:Shared) (σ:St) (H:Hp) (E:Value->Shared->Prop),Inv X pins σ H s->(∀b∈fp,gV X pins H b)->tn i s.heap->J.stop i H->
  wpAny (model P w) X.A (pyNext (.ref it)) (fun r s1=>r=none/\Inv X pins σ H s1) E s
 self:∀(A:Around) (i:Nat) (s:Shared) (Q:Value->Shared->Prop) (E:Value->Shared->Prop),tn i s.heap->Q (.ref it) s->wpAny (model P w) A (pyIter (.ref it)) Q E s
abbrev TI:=St->Hp->(It->Hp->Prop)->Prop
def BA(X:Cx)(pins:List (Addr×Obj))(σ:St)(tg:Expr)(R:It->Hp->Prop)(itv:Value)(s2:Shared):Prop:=
 ∃(it:Addr) (fp:List Addr) (tn:Nat->Heap->Prop) (J:It) (H':Hp),itv= .ref it/\Inv X pins σ H' s2/\Turn X.prog X.w X.K tg J fp it tn/\tn 0 s2.heap/\(∀b∈fp,gV X pins H' b)/\R J H'
def PI(X:Cx)(tg iter:Expr)(wi:TI):Prop:=
 ∀(pins:List (Addr×Obj)) (s:Shared) (σ:St) (H:Hp) (R:It->Hp->Prop),Inv X pins σ H s->wi σ H R->
  wpAny (model X.prog X.w) X.A (eval iter X.env) (fun v s1=>wpAny (model X.prog X.w) X.A (pyIter v) (BA X pins σ tg R) X.xe s1) X.xe s
theorem Gd{M:Model}{A:Around}{E:Value->Shared->Prop}{s:Shared}{tg:Expr}{it:Addr}{u:Value}{o:Obj}{n:String}{vs:Array Value}{Q:Unit->Shared->Prop}(ho:s.heap.get? it=some o)(hc:o.cls= .type n)(hd:o.data= .fields vs)
    (hn:["enumerate","zip","dict_itemiterator","dict_reverseitemiterator","odict_iterator","itertools.zip_longest","itertools.pairwise"].contains n=false) (hQ:Q () s):wpAny M A (letOwnedTupleGo tg (.ref it) u) Q E s:=by
  unfold letOwnedTupleGo
  cases tg<;>first
    |exact wpAny_pure hQ
    |(cases u<;>first
        |exact wpAny_pure hQ
        | (refine wpAny_bind (wpAny_load ho ?_)
           rw[hc,hd]
           show wpAny M A (if(["enumerate","zip","dict_itemiterator","dict_reverseitemiterator","odict_iterator","itertools.zip_longest","itertools.pairwise"].contains n && vs[0]?==some (rawInt _))=true then _ else _) Q E s
           rw[if_neg (by intro h;rw[hn,Bool.false_and] at h;cases h)]
           exact wpAny_pure hQ))
def mq(K:PySem.W.Frag)(a:Addr):It:=
 ⟨fun i H=>∃xs x,aF K H a xs/\xs[i]?=some x,fun i H x H'=>H'=H/\∀xs,aF K H a xs->xs[i]?=some x,fun i H=>∃xs,aF K H a xs/\xs.length<=i⟩
def ir(lo:Int)(n:Nat):It:=⟨fun i _=>i<n,fun i H x H'=>H'=H/\x= .int (lo+i),fun i _=>n<=i⟩
theorem LU{P:Program}{w:World}{K:PySem.W.Frag}{tg:Expr}(a it:Addr):Turn P w K tg (mq K a) [it] it (fun i h=>h.IsListIter it a i) where
 mem:=by simp
 obj:=fun i h st b hb=>by
  have e:b=it:=by simpa using hb
  subst e
  obtain⟨o,e,c,d⟩:=st
  exact⟨o,e,fun v z=>by rw[d] at z;cases z⟩
 keep:=fun i h h' st k=>st.at fun o e=>k it (by simp) o e
 item:=by
  intro X hP hw hK hc i pins s σ H E I hf st hg
  subst hP hw hK
  obtain⟨xs,x,hq,hx⟩:=hg
  obtain⟨its,rv,p,hz⟩:=I.list hq
  obtain⟨u,hu,ru⟩:=rv.get hx
  obtain⟨f0,f1,f2,f3,f4,f5⟩:=hf it (by simp)
  refine wpAny_pyNext_list_item st p.isList (x:=u) (by simpa using hu) fun h' st' sb=>?_
  have I1:Inv X pins σ H {s with heap:=h'}:=I.turned (t':=s.toks) (fun b o hb e=>(sb.2 b hb).trans e) f0 f1 f3 f4 f5
  obtain⟨o,e,c,d⟩:=id st'
  exact⟨u,rfl,Gd (s:={s with heap:=h'}) e c d (by decide) ⟨x,H,I1,ru,⟨rfl,fun ys hy=>by rw[I.Cb hy hq];exact hx⟩,st',fun b hb=>(hf b hb).1⟩⟩
 done:=by
  intro X hP hw hK hc i pins s σ H E I hf st hg
  subst hP hw hK
  obtain⟨xs,hq,hx⟩:=hg
  obtain⟨its,rv,p,hz⟩:=I.list hq
  obtain⟨f0,f1,f2,f3,f4,f5⟩:=hf it (by simp)
  have hl:=rv.length
  exact wpAny_pyNext_list_end (I.ok.hd hc) st p.isList (by simp;omega) fun h' eb=>⟨rfl,I.turned (t':=s.toks) (fun b o hb e=>eb b o hb e) f0 f1 f3 f4 f5⟩
 self:=fun _ _ _ _ _ st h=>wpAny_pyIter_listiter st h
theorem OX{P:Program}{w:World}{K:PySem.W.Frag}{tg:Expr}(it:Addr)(lo:Int)(n:Nat):Turn P w K tg (ir lo n) [it] it (fun i h=>IsRangeIter h it (lo+(i:Nat)*1) ((n:Int)-(i:Nat)) 1) where
 mem:=by simp
 obj:=fun i h st b hb=>by
  have e:b=it:=by simpa using hb
  subst e
  exact⟨_,st,fun v z=>by
   have z':Data.fields _=Data.cell v:=z
   cases z'⟩
 keep:=fun i h h' st k=>k it (by simp) _ st
 item:=by
  intro X hP hw hK hc i pins s σ H E I hf st hg
  subst hP hw hK
  obtain⟨f0,f1,f2,f3,f4,f5⟩:=hf it (by simp)
  have W:=Walks.range (prog:=X.prog) (w:=X.w) (I.ok.hd hc) it lo 1 n
  refine W.item i s _ _ hg st fun v h' tk hv st' kk=>?_
  obtain⟨t,rfl⟩:=hv
  have I1:Inv X pins σ H {s with heap:=h',toks:=tk}:=I.turned (fun b o hb e=>kk b o (by simpa using hb) e) f0 f1 f3 f4 f5
  refine⟨_,rfl,Gd (s:={s with heap:=h',toks:=tk}) (n:="range_iterator") st' rfl rfl (by decide) ⟨.int (lo+i),H,I1,⟨t,?_⟩,⟨rfl,rfl⟩,st',fun b hb=>(hf b hb).1⟩⟩
  rw[Int.mul_one]
 done:=by
  intro X hP hw hK hc i pins s σ H E I hf st hg
  subst hP hw hK
  obtain⟨f0,f1,f2,f3,f4,f5⟩:=hf it (by simp)
  exact wpAny_pyNext_range_end (I.ok.hd hc) st (by have:n<=i:=hg;omega) fun h' eb=>⟨rfl,I.turned (t':=s.toks) (fun b o hb e=>eb b o hb e) f0 f1 f3 f4 f5⟩
 self:=fun _ _ _ _ _ st h=>wpAny_pyIter_rangeiter st h
section
variable{X:Cx}{tg:Expr}
def oh(K:PySem.W.Frag)(tl:TE):TI:=fun σ H R=>tl σ H fun x H1=>∃a,x= .ref a/\(∃xs,aF K H1 a xs)/\R (mq K a) H1
theorem Q7{l:Expr}{tl:TE}(hl:PE X l tl):PI X tg l (oh X.K tl):=by
 intro pins s σ H R I h
 refine aE (hl pins s σ H _ I h) fun v s1 ⟨x,H1,I1,r1,q1⟩=>?_
 obtain⟨a,e,⟨xs,hq⟩,q⟩:=q1
 subst e
 cases r1
 obtain⟨its,rv,p,hz⟩:=I1.list hq
 refine wpAny_pyIter_list p.isList ?_
 refine⟨s1.heap.objs.size,[s1.heap.objs.size],_,_,H1,rfl,I1.kept (t':=s1.toks) fun b o e=>bC _ e,LU a _,⟨_,dX _ rfl,rfl,rfl⟩,fun b hb=>?_,q⟩
 have e:b=s1.heap.objs.size:=by simpa using hb
 subst e
 exact I1.qU (aA _) (I1.hok.fresh (aA _))
theorem Ff{pins:List (Addr×Obj)}{σ:St}{H:Hp}{s:Shared}{R:It->Hp->Prop}{E:Value->Shared->Prop}{lo hi:Int}{t u v:Tok}{tk:Nat}(I:Inv X pins σ H s)(h1: -(2^62)<=lo)(h2:lo<2^62)(h3: -(2^62)<=hi)(h4:hi<2^62)
  (q:R (ir lo (hi-lo).toNat) H):wpAny (model X.prog X.w) X.A (pyIter (.ref s.heap.objs.size)) (BA X pins σ tg R) E {s with heap:=s.heap.push {cls:= .type "range",data:= .fields #[.int lo t, .int hi u, .int 1 v]},toks:=tk}:=by
 refine wpAny_pyIter_range (IsRange.new ..) (small_one h1 h2 h3 h4) ?_
 have I1:Inv X pins σ H {s with heap:=s.heap.push {cls:= .type "range",data:= .fields #[.int lo t, .int hi u, .int 1 v]},toks:=tk}:=I.kept fun b o e=>bC _ e
 refine⟨(s.heap.push {cls:= .type "range",data:= .fields #[.int lo t, .int hi u, .int 1 v]}).objs.size,[(s.heap.push {cls:= .type "range",data:= .fields #[.int lo t, .int hi u, .int 1 v]}).objs.size],_,_,H,rfl,
  I1.kept (t':=tk) fun b o e=>bC _ e,OX _ lo (hi-lo).toNat,?_,fun b hb=>?_,q⟩
 ·have e1:lo+((0:Nat):Int)*1=lo:=by simp
  have e2:(((hi-lo).toNat:Nat):Int)-((0:Nat):Int)=Builtin.Range.rangeSize lo hi 1:=by rw[rangeSize_one];split<;>omega
  show IsRangeIter _ _ (lo+((0:Nat):Int)*1) ((((hi-lo).toNat:Nat):Int)-((0:Nat):Int)) 1
  rw[e1,e2]
  exact dX _ rfl
 ·have e:b=(s.heap.push {cls:= .type "range",data:= .fields #[.int lo t, .int hi u, .int 1 v]}).objs.size:=by simpa using hb
  subst e
  exact I1.qU (aA _) (I1.hok.fresh (aA _))
def oZ(ta:TA):TI:=fun σ H R=>ta σ H fun vs H1=>∃j:Int,vs=[.int j]/\ -(2^62)<=j/\j<2^62/\R (ir 0 j.toNat) H1
def BJ(ta:TA):TI:=fun σ H R=>ta σ H fun vs H1=>∃i j:Int,vs=[.int i, .int j]/\(-(2^62)<=i/\i<2^62/\ -(2^62)<=j/\j<2^62)/\R (ir i (j-i).toNat) H1
theorem iI{a:Expr}{ta:TA}{p pos:Pos}(hg:Gl X "range")(hm:X.mg "range"=none)(ha:PA X [a] ta)(hs:starEach [a] X.env=[(false,eval a X.env)]:=by rfl):PI X tg (.Call (.Name "range" p) [a] [] pos) (oZ ta):=by
  intro pins s σ H R I h
  refine Call_ (nY I hg hm boot_range (uH (aE (ha pos pins s σ H _ I h) fun us s1 ⟨vs,H1,I1,r1,q1⟩=>?_) hs rfl))
  obtain⟨j,e,q1,q2,q⟩:=q1
  subst e
  cases r1 with
  | cons r rr =>
    cases rr
    obtain⟨t,rfl⟩:=r
    exact call_range_1 (Ff I1 (by omega) (by omega) q1 q2 (by simpa using q))
theorem E3{a b:Expr}{ta:TA}{p pos:Pos}(hg:Gl X "range")(hm:X.mg "range"=none)(ha:PA X [a,b] ta)(hs:starEach [a,b] X.env=[(false,eval a X.env),(false,eval b X.env)]:=by rfl)(hs2:starEach [b] X.env=[(false,eval b X.env)]:=by rfl):
    PI X tg (.Call (.Name "range" p) [a,b] [] pos) (BJ ta):=by
  intro pins s σ H R I h
  refine Call_ (nY I hg hm boot_range (uH (aE (ha pos pins s σ H _ I h) fun us s1 ⟨vs,H1,I1,r1,q1⟩=>?_) (by rw[hs,hs2]) (by rw[hs2];rfl)))
  obtain⟨i,j,e,⟨q1,q2,q3,q4⟩,q⟩:=q1
  subst e
  cases r1 with
  | cons r rr =>
    cases rr with
    | cons r' rr =>
      cases rr
      obtain⟨t,rfl⟩:=r
      obtain⟨t',rfl⟩:=r'
      exact call_range_2 (Ff I1 q1 q2 q3 q4 q)
def nP(wi:TI)(g:TG)(tb:TS):TS:=fun D σ H=>wi σ H fun J H1=>∃W:Nat->Nat->St->Hp->Prop,(∃m,W 0 m σ H1)/\∀i m σ H,W i m σ H->
 (J.stop i H/\D.nx σ H)\/(J.go i H/\∃N:St->Hp->Prop,(∀σ' H',N σ' H'->∃m',m'<m/\W (i+1) m' σ' H')/\∀x H',J.lG i H x H'->g x σ H' fun σ2 H2=>tb {D with nx:=N,ct:=N,bk:=D.nx} σ2 H2)
def pZ(fp:List Addr)(h:Heap):List (Addr×Obj):=fp.filterMap fun b=>(h.get? b).map fun o=>(b,o)
theorem uY{fp:List Addr}{h:Heap}{b:Addr}{o:Obj}(hb:b∈fp)(e:h.get? b=some o):(b,o)∈pZ fp h:=yE.mpr ⟨b,hb,by rw[e];rfl⟩
theorem IV{fp:List Addr}{h:Heap}{p:Addr×Obj}(hp:p∈pZ fp h):p.1∈fp/\h.get? p.1=some p.2:=by
  obtain⟨b,hb,e⟩:=yE.mp hp
  cases q:h.get? b with
  |none=>rw[q] at e;cases e
  | some o =>
    rw[q] at e
    have e':(b,o)=p:=eS e
    subst e'
    exact⟨hb,q⟩
theorem Inv.pinned{pins:List (Addr×Obj)}{σ:St}{H:Hp}{s:Shared}{fp:List Addr}(I:Inv X pins σ H s)(hf:∀b∈fp,gV X pins H b)(ho:∀b∈fp,∃o,s.heap.get? b=some o/\∀v,o.data≠ .cell v):Inv X (pins++pZ fp s.heap) σ H s:=
 I.CU fun p hp=>(cE.mp hp).elim (fun z=>I.pin p (dY _ z)) fun z=>by
  obtain⟨hb,e⟩:=IV z
  obtain⟨f0,f1,f2,_⟩:=hf p.1 hb
  obtain⟨o,e',d⟩:=ho p.1 hb
  rw[e] at e';cases e'
  exact⟨e,f0,f1,f2,d⟩
theorem Inv.uM{pins pl:List (Addr×Obj)}{σ:St}{H:Hp}{s:Shared}(I:Inv X (pins++pl) σ H s):Inv X pins σ H s:=I.CU fun p hp=>I.pin p (dY _ (gj _ hp))
theorem gZ{iter:Expr}{body:List Stmt}{wi:TI}{g:TG}{tb:TS}{pos:Pos}(hp:PassesOwn (model X.prog X.w) X.A X.env X.xe)(hc:X.calm=true)(hi:PI X tg iter wi)(hg:PG X tg g)(hb:iy X body tb)
  (hs:∀x,foldedSetIterable iter X.env x=pure x:=by intro _;rfl):PS X (.For tg iter body [] pos) (nP wi g tb):=by
 intro pins s σ H D I h
 refine wpAny_For (aE (hi pins s σ H _ I h) fun v s1 h1=>aE h1 fun itv s2 h2=>?_) hs
 obtain⟨it,fp,tn,J,H2,e,I2,T,st2,f2,W,⟨m0,w0⟩,turn⟩:=h2
 subst e
 have lD:∀{H':Hp},(∀b∈fp,H' b=none)->∀b∈fp,gV X pins H' b:=fun hn b hb=>⟨hn b hb,(f2 b hb).2⟩
 refine codeAny_forLoop_any (fun n s'=>∃i σ' H',Inv X pins σ' H' s'/\tn i s'.heap/\(∀b∈fp,H' b=none)/\W i n σ' H') ?_ m0 ⟨0,σ,H2,I2,st2,fun b hb=>(f2 b hb).1,w0⟩
 rintro n s3 ⟨i,σ3,H3,I3,st3,fr3,w3⟩
 rcases turn i n σ3 H3 w3 with ⟨stop,qn⟩|⟨go,N,hN,step⟩
 ·refine wpAny_passesOwn hp (aE (T.done X rfl rfl rfl hc i pins s3 σ3 H3 X.xe I3 (lD fr3) st3 stop) fun r s4 ⟨hr,I4⟩=>?_)
  subst hr
  exact wpAny_execs_nil ⟨σ3,H3,I4,qn⟩
 ·refine wpAny_passesOwn hp (aE (T.item X rfl rfl rfl hc i pins s3 σ3 H3 X.xe I3 (lD fr3) st3 go) fun r s4 ⟨u,hr,h4⟩=>?_)
  subst hr
  refine wpAny_passesOwn hp (aE h4 fun _ s5 ⟨x,H5,I5,r5,y5,m8,xu⟩=>?_)
  have wK:=I5.pinned (lD xu) (T.obj _ _ m8)
  refine wpAny_passesOwn hp (aE (hg _ s5 σ3 H5 x u _ wK r5 (step x H5 y5)) fun _ s6 ⟨qB,H6,I6,q6⟩=>?_)
  refine wpAny_passesOwn hp (aE (hb _ s6 qB H6 _ I6 q6) fun f s7 q7=>?_)
  have again:∀{jG:St} {H7:Hp},Inv X (pins++pZ fp s5.heap) jG H7 s7->N jG H7->∃m,m<n/\∃i σ' H',Inv X pins σ' H' s7/\tn i s7.heap/\(∀b∈fp,H' b=none)/\W i m σ' H':=fun{jG H7} I7 n7=>by
   obtain⟨m',hm,w7⟩:=hN jG H7 n7
   refine⟨m',hm,i+1,jG,H7,I7.uM,T.keep _ _ _ m8 fun b hb o e=>(I7.pin (b,o) (dY _ (dY _ (uY hb e)))).1,fun b hb=>?_,w7⟩
   obtain⟨o,e,d⟩:=T.obj _ _ m8 b hb
   exact(I7.pin (b,o) (dY _ (dY _ (uY hb e)))).2.1
  cases f with
  |next=>obtain⟨jG,H7,I7,n7⟩:=q7;exact again I7 n7
  |cont=>obtain⟨jG,H7,I7,n7⟩:=q7;exact again I7 n7
  |brk=>obtain⟨jG,H7,I7,q7⟩:=q7;exact⟨jG,H7,I7.uM,q7⟩
  |ret v=>obtain⟨x7,jG,H7,I7,r7,q7⟩:=q7;exact⟨x7,jG,H7,I7.uM,r7,q7⟩
end
theorem Fj{K:PySem.W.Frag}{a:Addr}{xs:List V}{g:TG}{tb:TS}{D:Ends}{σ:St}{H:Hp}(Pv:Nat->St->Hp->Prop)(h0:Pv 0 σ H)(hl:∀i σ H,i<=xs.length->Pv i σ H->aF K H a xs)
  (hs:∀i x σ H,xs[i]?=some x->Pv i σ H->g x σ H fun σ2 H2=>tb {D with nx:=Pv (i+1),ct:=Pv (i+1),bk:=D.nx} σ2 H2) (hd:∀σ H,Pv xs.length σ H->D.nx σ H):
  ∃W:Nat->Nat->St->Hp->Prop,(∃m,W 0 m σ H)/\∀i m σ H,W i m σ H->
   ((mq K a).stop i H/\D.nx σ H)\/((mq K a).go i H/\∃N:St->Hp->Prop,(∀σ' H',N σ' H'->∃m',m'<m/\W (i+1) m' σ' H')/\∀x H',(mq K a).lG i H x H'->g x σ H' fun σ2 H2=>tb {D with nx:=N,ct:=N,bk:=D.nx} σ2 H2):=by
 refine⟨fun i m σ H=>m=xs.length-i/\i<=xs.length/\Pv i σ H,⟨xs.length,by simp,eg _,h0⟩,?_⟩
 rintro i m σ H ⟨rfl,hi,p⟩
 have q:=hl i σ H hi p
 by_cases hlt:i<xs.length
 ·refine .inr ⟨⟨xs,xs[i],q,by simp[hlt]⟩,Pv (i+1),fun σ' H' p'=>⟨xs.length-(i+1),by omega,rfl,hlt,p'⟩,fun x H' y=>?_⟩
  obtain⟨e,y⟩:=y
  subst e
  exact hs i x σ _ (y xs q) p
 ·have e:i=xs.length:=by omega
  subst e
  exact .inl ⟨⟨xs,q,aA _⟩,hd σ H p⟩
theorem B0{lo:Int}{n:Nat}{g:TG}{tb:TS}{D:Ends}{σ:St}{H:Hp}(Pv:Nat->St->Hp->Prop)(h0:Pv 0 σ H)
  (hs:∀i σ H,i<n->Pv i σ H->g (.int (lo+i)) σ H fun σ2 H2=>tb {D with nx:=Pv (i+1),ct:=Pv (i+1),bk:=D.nx} σ2 H2) (hd:∀σ H,Pv n σ H->D.nx σ H):
  ∃W:Nat->Nat->St->Hp->Prop,(∃m,W 0 m σ H)/\∀i m σ H,W i m σ H->
   ((ir lo n).stop i H/\D.nx σ H)\/((ir lo n).go i H/\∃N:St->Hp->Prop,(∀σ' H',N σ' H'->∃m',m'<m/\W (i+1) m' σ' H')/\∀x H',(ir lo n).lG i H x H'->g x σ H' fun σ2 H2=>tb {D with nx:=N,ct:=N,bk:=D.nx} σ2 H2):=by
 refine⟨fun i m σ H=>m=n-i/\i<=n/\Pv i σ H,⟨n,by simp,eg _,h0⟩,?_⟩
 rintro i m σ H ⟨rfl,hi,p⟩
 by_cases hlt:i<n
 ·refine .inr ⟨hlt,Pv (i+1),fun σ' H' p'=>⟨n-(i+1),by omega,rfl,hlt,p'⟩,fun x H' y=>?_⟩
  obtain⟨e,y⟩:=y
  subst e y
  exact hs i σ _ hlt p
 ·have e:i=n:=by omega
  subst e
  exact .inl ⟨aA _,hd σ H p⟩
abbrev R2:=V->V->Hp->VK->Prop
def dz(X:Cx)(f:Value->Value->Sem Value)(r:R2):Prop:=
 ∀(pins:List (Addr×Obj)) (s:Shared) (σ:St) (H:Hp) (x y:V) (v u:Value) (Q:VK),Inv X pins σ H s->RelV x v->RelV y u->r x y H Q->
  wpAny (model X.prog X.w) X.A (f v u) (EP X pins σ Q) X.xe s
def yj(X:Cx)(f:Value->Sem Value)(r:V->Hp->VK->Prop):Prop:=
 ∀(pins:List (Addr×Obj)) (s:Shared) (σ:St) (H:Hp) (x:V) (v:Value) (Q:VK),Inv X pins σ H s->RelV x v->r x H Q->
  wpAny (model X.prog X.w) X.A (f v) (EP X pins σ Q) X.xe s
def eF(X:Cx)(f:Value)(r:List V->Hp->VK->Prop):Prop:=
 ∀(pins:List (Addr×Obj)) (s:Shared) (σ:St) (H:Hp) (xs:List V) (us:List Value) (Q:VK),Inv X pins σ H s->Vals xs us->r xs H Q->
  wpAny (model X.prog X.w) X.A (call f us) (EP X pins σ Q) X.xe s
def L0(X:Cx)(r:V->Hp->(Bool->Hp->Prop)->Prop):Prop:=
 ∀(pins:List (Addr×Obj)) (s:Shared) (σ:St) (H:Hp) (x:V) (v:Value) (Q:Bool->Hp->Prop),Inv X pins σ H s->RelV x v->r x H Q->
  wpAny (model X.prog X.w) X.A (truthy v) (TP X pins σ Q) X.xe s
def bW(r:R2)(ta tb:TE):TE:=fun σ H Q=>ta σ H fun x H1=>tb σ H1 fun y H2=>r x y H2 Q
def vV(r:V->Hp->VK->Prop)(ta:TE):TE:=fun σ H Q=>ta σ H fun x H1=>r x H1 Q
def rI(C:Int->Int->Prop)(g:Int->Int->V):R2:=fun x y H Q=>∃i j,x= .int i/\y= .int j/\C i j/\Q (g i j) H
def gE(g:Int->Int->V):R2:=fun x y H Q=>∃i j,x= .int i/\y= .int j/\Q (g i j) H
def rU(g:Int->V):V->Hp->VK->Prop:=fun x H Q=>∃i,x= .int i/\Q (g i) H
section
variable{X:Cx}{a b c:Expr}{ta tb tc:TE}{pos:Pos}
theorem x9(ha:PE X a ta)(hb:PE X b tb){pins:List (Addr×Obj)}{s:Shared}{σ:St}{H:Hp}{R:V->V->Hp->Prop}(I:Inv X pins σ H s)
  (h:ta σ H fun x H1=>tb σ H1 fun y H2=>R x y H2) {Q:Value->Shared->Prop} {f:Value->Value->Sem Value}
  (hf:∀v u s2 x y H2,Inv X pins σ H2 s2->RelV x v->RelV y u->R x y H2->wpAny (model X.prog X.w) X.A (f v u) Q X.xe s2):
  wpAny (model X.prog X.w) X.A (eval a X.env) (fun v s₁=>wpAny (model X.prog X.w) X.A (eval b X.env) (fun u s₂=>wpAny (model X.prog X.w) X.A (f v u) Q X.xe s₂) X.xe s₁) X.xe s:=by
 refine aE (ha pins s σ H _ I h) fun v s1 ⟨x,H1,I1,r1,q1⟩=>?_
 refine aE (hb pins s1 σ H1 _ I1 q1) fun u s2 ⟨y,H2,I2,r2,q2⟩=>?_
 exact hf v u s2 x y H2 I2 r1 r2 q2
theorem aV{op:Operator}{r:R2}(ho:dz X (binaryOp op) r)(ha:PE X a ta)(hb:PE X b tb):PE X (.BinOp a op b pos) (bW r ta tb):=by
 intro pins s σ H Q I h
 exact wpAny_BinOp (x9 ha hb I h fun v u s2 x y H2 I2 rx ry q=>ho pins s2 σ H2 x y v u Q I2 rx ry q)
theorem Rj{op:UnaryOp}{r:V->Hp->VK->Prop}(ho:yj X (unaryOp op) r)(ha:PE X a ta):PE X (.UnaryOp op a pos) (vV r ta):=by
 intro pins s σ H Q I h
 exact UnaryOp_ (aE (ha pins s σ H _ I h) fun v s1 ⟨x,H1,I1,r1,q1⟩=>ho pins s1 σ H1 x v Q I1 r1 q1)
theorem se{f:Value->Value->Sem Value}{C:Int->Int->Prop}{g:Int->Int->Int}
  (rule:∀(i j:Int) (t u:Tok) (s:Shared) (Q:Value->Shared->Prop) (E:Value->Shared->Prop),C i j->Q (.int (g i j) s.toks) {s with toks:=s.toks+1}->wpAny (model X.prog X.w) X.A (f (.int i t) (.int j u)) Q E s):
  dz X f (rI C fun i j=> .int (g i j)):=by
 intro pins s σ H x y v u Q I rx ry h
 obtain⟨i,j,rfl,rfl,hc,q⟩:=h
 obtain⟨t,rfl⟩:=rx
 obtain⟨t',rfl⟩:=ry
 exact rule i j t t' s _ _ hc ⟨.int (g i j),H,I.tok _,⟨_,rfl⟩,q⟩
theorem Gq{f:Value->Value->Sem Value}{g:Int->Int->Int}
  (rule:∀(i j:Int) (t u:Tok) (s:Shared) (Q:Value->Shared->Prop) (E:Value->Shared->Prop),Q (.int (g i j) s.toks) {s with toks:=s.toks+1}->wpAny (model X.prog X.w) X.A (f (.int i t) (.int j u)) Q E s):
  dz X f (gE fun i j=> .int (g i j)):=by
 intro pins s σ H x y v u Q I rx ry h
 obtain⟨i,j,rfl,rfl,q⟩:=h
 obtain⟨t,rfl⟩:=rx
 obtain⟨t',rfl⟩:=ry
 exact rule i j t t' s _ _ ⟨.int (g i j),H,I.tok _,⟨_,rfl⟩,q⟩
theorem vU{f:Value->Value->Sem Value}{g:Int->Int->Bool}
  (rule:∀(i j:Int) (t u:Tok) (s:Shared) (Q:Value->Shared->Prop) (E:Value->Shared->Prop),Q (.bool (g i j)) s->wpAny (model X.prog X.w) X.A (f (.int i t) (.int j u)) Q E s):
  dz X f (gE fun i j=> .bl (g i j)):=by
 intro pins s σ H x y v u Q I rx ry h
 obtain⟨i,j,rfl,rfl,q⟩:=h
 obtain⟨t,rfl⟩:=rx
 obtain⟨t',rfl⟩:=ry
 exact rule i j t t' s _ _ ⟨.bl (g i j),H,I,rfl,q⟩
def AX(i j:Int):Prop:=0<=j/\j<=1000000/\i.natAbs<2^64
def u6(i j:Int):Prop:=(-(2^64)<i/\i<2^64)\/(-(2^64)<j/\j<2^64)
theorem u6.ok{i j:Int}(h:u6 i j):IntMulOk i j:=by
 rcases h with ⟨h1,h2⟩|⟨h1,h2⟩
 ·exact .of_left (intBits_le_64 h1 h2)
 ·exact .of_right (intBits_le_64 h1 h2)
theorem eK:dz X (binaryOp .Add) (gE fun i j=> .int (i+j)):=Gq fun _ _ _ _ _ _ _ q=>add_int q
theorem pI:dz X (binaryOp .Sub) (gE fun i j=> .int (i-j)):=Gq fun _ _ _ _ _ _ _ q=>sub_int q
theorem kW:dz X (binaryOp .Mod) (rI (fun _ j=>0<j) fun i j=> .int (i%j)):=se fun i j _ _ _ _ _ hc q=>by
 have h1:(0:Int)<j:=hc
 exact mod_int' (by omega) (by rw[Int.fmod_eq_emod_of_nonneg i (by omega)];exact q)
theorem tK:dz X (binaryOp .Pow) (rI AX fun i j=> .int (i^j.toNat)):=se fun _ _ _ _ _ _ _ hc q=>pow_int_small hc.1 hc.2.1 hc.2.2 q
theorem QJ{f:Value->Sem Value}{g:Int->Int}
  (rule:∀(i:Int) (t:Tok) (s:Shared) (Q:Value->Shared->Prop) (E:Value->Shared->Prop),Q (.int (g i) s.toks) {s with toks:=s.toks+1}->wpAny (model X.prog X.w) X.A (f (.int i t)) Q E s):
  yj X f (rU fun i=> .int (g i)):=by
 intro pins s σ H x v Q I rx h
 obtain⟨i,rfl,q⟩:=h
 obtain⟨t,rfl⟩:=rx
 exact rule i t s _ _ ⟨.int (g i),H,I.tok _,⟨_,rfl⟩,q⟩
theorem Qo:yj X (unaryOp .USub) (rU fun i=> .int (-i)):=QJ fun _ _ _ _ _ q=>neg_int q
end
def vO:V->V->Bool
 | .aG, .aG=>true| .aG, .int _=>true| .int _, .aG=>true| .aG, .bl _=>true| .bl _, .aG=>true| .aG, .str _=>true| .str _, .aG=>true
 | .int _, .int _=>true| .bl _, .bl _=>true| .str _, .str _=>true| .iE _, .iE _=>true
 | .int _, .str _=>true| .str _, .int _=>true| .bl _, .str _=>true| .str _, .bl _=>true
 |_,_=>false
def AD:R2:=fun x y H Q=>vO x y=true/\Q (.bl (decide (x=y))) H
def Ct:R2:=fun x y H Q=>vO x y=true/\Q (.bl (!decide (x=y))) H
theorem BR{i j:Int}:decide (V.int i=V.int j)=(i==j):=by
 rw[iZ]
 simp
theorem E9{i j:Bool}:decide (V.bl i=V.bl j)=(i==j):=by
 rw[iZ]
 simp
theorem Cp{i j:Str}:decide (V.str i=V.str j)=(i==j):=by
 rw[iZ]
 simp
theorem GX{i j:Array UInt8}:decide (V.iE i=V.iE j)=(i.toList==j.toList):=by
 rw[iZ]
 cases i
 cases j
 simp
section
variable{X:Cx}{a b c:Expr}{ta tb tc:TE}{pos:Pos}
theorem cJ{pins:List (Addr×Obj)}{σ:St}{H:Hp}{s:Shared}{Q:VK}{k k':Bool}(I:Inv X pins σ H s)(q:Q (.bl k) H)(e:k=k'):EP X pins σ Q (.bool k') s:=by
 subst e
 exact⟨.bl k,H,I,rfl,q⟩
theorem fW:dz X (compareOp .Eq) AD:=by
  intro pins s σ H x y v u Q I rx ry h
  obtain⟨hs,q⟩:=h
  cases x with
  | aG =>
    cases rx
    cases y with
    |aG=>cases ry;exact PySem.EqNone.eq_none_none (cJ I q (by simp))
    |bl j=>cases ry;exact PySem.EqNone.eq_none_bool (cJ I q (by simp))
    |int j=>obtain⟨t',rfl⟩:=ry;exact PySem.EqNone.eq_none_int (cJ I q (by simp))
    |str j=>obtain⟨t',rfl⟩:=ry;exact PySem.EqNone.eq_none_str (cJ I q (by simp))
    |_=>exact absurd (show false=true from hs) bz
  | bl i =>
    cases rx
    cases y with
    |aG=>cases ry;exact PySem.EqNone.eq_bool_none (cJ I q (by simp))
    |bl j=>cases ry;exact eq_bool (cJ I q E9)
    |str j=>obtain⟨t',rfl⟩:=ry;exact PySem.EqMixed.eq_bool_str (cJ I q (by simp))
    |_=>exact absurd (show false=true from hs) bz
  | int i =>
    obtain⟨t,rfl⟩:=rx
    cases y with
    |aG=>cases ry;exact PySem.EqNone.eq_int_none (cJ I q (by simp))
    |int j=>obtain⟨t',rfl⟩:=ry;exact eq_int (cJ I q BR)
    |str j=>obtain⟨t',rfl⟩:=ry;exact PySem.EqMixed.eq_int_str (cJ I q (by simp))
    |_=>exact absurd (show false=true from hs) bz
  | str i =>
    obtain⟨t,rfl⟩:=rx
    cases y with
    |aG=>cases ry;exact PySem.EqNone.eq_str_none (cJ I q (by simp))
    |bl j=>cases ry;exact PySem.EqMixed.eq_str_bool (cJ I q (by simp))
    |int j=>obtain⟨t',rfl⟩:=ry;exact PySem.EqMixed.eq_str_int (cJ I q (by simp))
    |str j=>obtain⟨t',rfl⟩:=ry;exact eq_str (cJ I q Cp)
    |_=>exact absurd (show false=true from hs) bz
  | iE i =>
    obtain⟨t,rfl⟩:=rx
    cases y with
    |iE j=>obtain⟨t',rfl⟩:=ry;exact PySem.W.eq_bytes (cJ I q GX)
    |_=>exact absurd (show false=true from hs) bz
  |_=>cases y<;>exact absurd (show false=true from hs) bz
theorem tW:dz X (compareOp .NotEq) Ct:=by
  intro pins s σ H x y v u Q I rx ry h
  obtain⟨hs,q⟩:=h
  cases x with
  | aG =>
    cases rx
    cases y with
    |aG=>cases ry;exact PySem.EqNone.ne_none_none (cJ I q (by simp))
    |bl j=>cases ry;exact PySem.EqNone.ne_none_bool (cJ I q (by simp))
    |int j=>obtain⟨t',rfl⟩:=ry;exact PySem.EqNone.ne_none_int (cJ I q (by simp))
    |str j=>obtain⟨t',rfl⟩:=ry;exact PySem.EqNone.ne_none_str (cJ I q (by simp))
    |_=>exact absurd (show false=true from hs) bz
  | bl i =>
    cases rx
    cases y with
    |aG=>cases ry;exact PySem.EqNone.ne_bool_none (cJ I q (by simp))
    |bl j=>cases ry;exact ne_bool (cJ I q (congrArg not E9))
    |str j=>obtain⟨t',rfl⟩:=ry;exact PySem.EqMixed.ne_bool_str (cJ I q (by simp))
    |_=>exact absurd (show false=true from hs) bz
  | int i =>
    obtain⟨t,rfl⟩:=rx
    cases y with
    |aG=>cases ry;exact PySem.EqNone.ne_int_none (cJ I q (by simp))
    |int j=>obtain⟨t',rfl⟩:=ry;exact ne_int (cJ I q (congrArg not BR))
    |str j=>obtain⟨t',rfl⟩:=ry;exact PySem.EqMixed.ne_int_str (cJ I q (by simp))
    |_=>exact absurd (show false=true from hs) bz
  | str i =>
    obtain⟨t,rfl⟩:=rx
    cases y with
    |aG=>cases ry;exact PySem.EqNone.ne_str_none (cJ I q (by simp))
    |bl j=>cases ry;exact PySem.EqMixed.ne_str_bool (cJ I q (by simp))
    |int j=>obtain⟨t',rfl⟩:=ry;exact PySem.EqMixed.ne_str_int (cJ I q (by simp))
    |str j=>obtain⟨t',rfl⟩:=ry;exact ne_str (cJ I q (congrArg not Cp))
    |_=>exact absurd (show false=true from hs) bz
  | iE i =>
    obtain⟨t,rfl⟩:=rx
    cases y with
    |iE j=>obtain⟨t',rfl⟩:=ry;exact PySem.W.ne_bytes (cJ I q (congrArg not GX))
    |_=>exact absurd (show false=true from hs) bz
  |_=>cases y<;>exact absurd (show false=true from hs) bz
theorem BH:dz X (compareOp .Lt) (gE fun i j=> .bl (decide (i<j))):=vU fun _ _ _ _ _ _ _ q=>lt_int q
theorem Gu:dz X (compareOp .LtE) (gE fun i j=> .bl (decide (i<=j))):=vU fun _ _ _ _ _ _ _ q=>le_int q
theorem EW:dz X (compareOp .Gt) (gE fun i j=> .bl (decide (j<i))):=vU fun _ _ _ _ _ _ _ q=>gt_int q
theorem bX(b:Expr){op:CmpOp}(h:op≠ .In:=by decide)(h2:op≠ .NotIn:=by decide):behindInMarks op b=false:=by
 have e1:(op==CmpOp.In)=false:=by cases op<;>first|rfl|exact absurd rfl h
 have e2:(op==CmpOp.NotIn)=false:=by cases op<;>first|rfl|exact absurd rfl h2
 cases b<;>simp[behindInMarks,e1,e2]
theorem xq{op:CmpOp}{r:R2}(ho:dz X (compareOp op) r)(ha:PE X a ta)(hb:PE X b tb)(hm:behindInMarks op b=false):PE X (.Compare a [op] [b] pos) (bW r ta tb):=by
 intro pins s σ H Q I h
 exact wpAny_Compare1 (x9 ha hb I h fun v u s2 x y H2 I2 rx ry q=>ho pins s2 σ H2 x y v u Q I2 rx ry q) hm
def sP(t:TE):TT:=fun σ H Q=>t σ H fun x H'=>∃k,x= .bl k/\Q k H'
theorem bA{op:CmpOp}{r:R2}(ho:dz X (compareOp op) r)(ha:PE X a ta)(hb:PE X b tb)(hm:behindInMarks op b=false):PT X (.Compare a [op] [b] pos) (sP (bW r ta tb)):=by
 intro pins s σ H Q I h
 refine wpAny_isTrue_Compare1 (aE (ha pins s σ H _ I h) fun v s1 ⟨x,H1,I1,r1,q1⟩=>aE (hb pins s1 σ H1 _ I1 q1) fun u s2 ⟨y,H2,I2,r2,q2⟩=>
  aE (ho pins s2 σ H2 x y v u _ I2 r1 r2 q2) fun c s3 ⟨z,H3,I3,r3,k,e,q3⟩=>?_) hm
 subst e
 cases r3
 exact wpAny_truthy_bool ⟨H3,I3,q3⟩
def zL(K:PySem.W.Frag)(x:V)(H:Hp)(k:Bool):Prop:=
 match x with
 | .aG=>k=false
 | .bl b=>k=b
 | .int i=>k=(i !=0)
 | .str y=>y.length<=sizeLine/\k=((y.length:Int) !=0)
 | .iE y=>y.size<=sizeLine/\k=((y.size:Int) !=0)
 | .ref p=>(∃xs,aF K H p xs/\k=!xs.isEmpty)\/(∃xs,fU K H p xs/\k=!xs.isEmpty)\/∃kvs,H p=some (.dK kvs)/\k=!kvs.isEmpty
 |_=>False
theorem JT{κ:Type}{kvs:List (κ×V)}{vs:List (κ×Value)}(r:KV kvs vs):(!vs.isEmpty)=!kvs.isEmpty:=by
 cases r<;>rfl
theorem EU{xs:List V}{its:List Value}(r:Vals xs its):(!its.toArray.isEmpty)=!xs.isEmpty:=by
 cases r<;>simp
theorem m9:(sizeLine:Nat)<2^63:=by rw[sizeLine_eq];decide
theorem Iu:L0 X (fun x H Q=>∃k,zL X.K x H k/\Q k H):=by
  intro pins s σ H x v Q I rx h
  obtain⟨k,e,q⟩:=h
  have hl:=m9
  have hs:sizeLine=16777216:=sizeLine_eq
  cases x with
  | aG =>
    cases rx
    have e':k=false:=e
    subst e'
    exact truthy_none ⟨H,I,q⟩
  | bl b =>
    cases rx
    have e':k=b:=e
    subst e'
    exact wpAny_truthy_bool ⟨H,I,q⟩
  | int i =>
    obtain⟨t,rfl⟩:=rx
    have e':k=(i !=0):=e
    subst e'
    exact PySem.P.truthy_int ⟨H,I,q⟩
  | str y =>
    obtain⟨t,rfl⟩:=rx
    obtain⟨hy,e'⟩:y.length<=sizeLine/\k=((y.length:Int) !=0):=e
    subst e'
    exact PySem.P.truthy_str (by omega) ⟨H,I.tok _,q⟩
  | iE y =>
    obtain⟨t,rfl⟩:=rx
    obtain⟨hy,e'⟩:y.size<=sizeLine/\k=((y.size:Int) !=0):=e
    subst e'
    exact PySem.W.truthy_bytes (by omega) ⟨H,I.tok _,q⟩
  | ref p =>
    cases rx
    have e':(∃xs,aF X.K H p xs/\k=!xs.isEmpty)\/(∃xs,fU X.K H p xs/\k=!xs.isEmpty)\/∃kvs,H p=some (.dK kvs)/\k=!kvs.isEmpty:=e
    rcases e' with ⟨xs,hx,e'⟩|⟨xs,hx,e'⟩|⟨kvs,hx,e'⟩
    · subst e'
      obtain⟨its,r,pl,hz⟩:=I.list hx
      have hlen:=r.length
      exact wpAny_truthy_list pl.isList (by simp only[bT];omega) ⟨H,I.tok _,by rw[EU r];exact q⟩
    · subst e'
      obtain⟨its,r,pl,hz⟩:=I.tuple hx
      have hlen:=r.length
      exact truthy_tuple pl (by simp only[bT];omega) ⟨H,I.tok _,by rw[EU r];exact q⟩
    · subst e'
      obtain⟨hz,hS,vs,r,m⟩:kvs.length<=sizeLine/\(p==sysModules)=false/\∃vs,KV kvs vs/\s.heap.DictOf (dQ X.prog X.w) p vs:=I.hok p _ hx
      have hlen:kvs.length=vs.length:=Paired.length r
      exact wpAny_truthy_dict hS m (by omega) ⟨H,I.tok _,by rw[JT r];exact q⟩
  |_=>exact(show False from e).elim
theorem HW(ha:PE X a ta)(he:∀whole,isTrue a X.env whole=(do let v<-whole;standAt a.pos;holding [v] (truthy v))):
  PT X a (fun σ H Q=>ta σ H fun x H'=>∃k,zL X.K x H' k/\Q k H'):=by
 intro pins s σ H Q I h
 exact isTrue_plain (aE (ha pins s σ H _ I h) fun v s1 ⟨x,H1,I1,r1,q1⟩=>Iu pins s1 σ H1 x v Q I1 r1 q1) (he _)
theorem vals1{x:V}{us:List Value}(r:Vals [x] us):∃u,us=[u]/\RelV x u:=by
 cases r with
 |cons r1 r2=>cases r2;exact⟨_,rfl,r1⟩
theorem Js:eF X (.builtin "abs") (fun xs H Q=>∃i,xs=[.int i]/\Q (.int (if i<0 then-i else i)) H):=by
 intro pins s σ H xs us Q I r h
 obtain⟨i,rfl,q⟩:=h
 obtain⟨u,rfl,t,rfl⟩:=vals1 r
 exact call_abs_int fun u tk=>⟨.int (if i<0 then-i else i),H,I.tok _,⟨_,rfl⟩,q⟩
end
structure A8(h:Heap)(x dx C:Addr)(mA:Str->Option Value):Prop where
 obj:h.get? x=some (PySem.W.instObj C dx)
 ns:h.Ns1 dx mA
 ne:dx≠x
theorem Ji{h:Heap}{dx:Addr}{mA:Str->Option Value}(n:h.Ns1 dx mA):∃od,h.get? dx=some od/\∀name,PySem.W.lookIn name od=some (mA name):=by
 obtain⟨o,es,ep,ho,hd,hk,_,hm⟩:=n
 refine⟨o,ho,fun name=>?_⟩
 have e:=hm name
 unfold nsFind findBy at e
 rw[<-Array.find?_toList] at e
 unfold PySem.W.lookIn
 rw[hd]
 dsimp only
 split
 ·rename_i y q
  rw[q] at e
  exact congrArg some e
 ·rename_i q
  rw[q] at e
  have a:es.toList.any (·.refKey)=false:=by
   rw[List.any_eq_false]
   intro y hy
   obtain⟨z,t,hkey⟩:=hk y (uT.mp hy)
   simp[DictEntry.refKey,hkey]
  have a':¬es.toList.any (·.refKey)=true:=by rw[a];exact bz
  rw[if_neg a']
  exact congrArg some e
theorem A8.look{h:Heap}{x dx C:Addr}{mA:Str->Option Value}(I:A8 h x dx C mA):∃od,PySem.W.InstAt h x (PySem.W.instObj C dx) C (some od)/\∀name,PySem.W.lookIn name od=some (mA name):=
 let ⟨od,ho,hl⟩:=Ji I.ns
 ⟨od,⟨I.obj,rfl,rfl,ho⟩,hl⟩
theorem jM.some_of{v:V}{o:Option Value}(r:jM (some v) o):∃u,o=some u/\RelV v u:=by
 cases o with
 |none=>exact(show False from r).elim
 |some u=>exact⟨u,rfl,r⟩
section
variable{P:Program}{w:World}{H H':Hp}{h h':Heap}{a C dx:Addr}{fs fs':List (Str×V)}
theorem IS(hok:cM P w H h)(e:H a=some (.ins C dx fs)):∃mA,A8 h a dx C mA/\(∀f,jM (fs.lookup f) (mA f))/\PySem.Within mA (fs.map (·.1))/\fs.length<=1000/\H dx=some (.own a):=by
 obtain⟨d,z,ne,ob,mA,n,r,q⟩:=(show bB P w H h a (.ins C dx fs) from hok a _ e)
 exact⟨mA,⟨ob,n,ne⟩,r,q,z,d⟩
end
structure xH(K:PySem.W.Frag)(C:Addr):Prop where
 pg:PySem.W.plainGet K C Str.empty=true
 hd:PySem.W.hasDictIn K C=true
 po:PySem.W.plainOver K C=true
 sa:PySem.W.findIn K (.ref C) "__setattr__"=some (some (.builtin "object.__setattr__"))
theorem xH.get{K:PySem.W.Frag}{C:Addr}(c:xH K C)(f:Str):PySem.W.plainGet K C f=true:=c.pg
section
variable{X:Cx}{pins:List (Addr×Obj)}{σ:St}{H:Hp}{s:Shared}{A:Around}{E:Value->Shared->Prop}{Q:Value->Shared->Prop}{c:Value}{b:Bool}
inductive gK(K:PySem.W.Frag)(H:Hp):V->Value->Prop where
 |aG:gK K H .aG (.type "NoneType")
 |bl (x:Bool):gK K H (.bl x) (.type "bool")
 |int (i:Int):gK K H (.int i) (.type "int")
 |str (x:Str):gK K H (.str x) (.type "str")
 |j8 (x:UInt64):gK K H (.j8 x) (.type "float")
 |lst {a:Addr} {xs:List V} (e:H a=some (.lst xs)):gK K H (.ref a) (.type "list")
 |fS {a:Addr} {o:Obj} {xs:List V} (e:H a=some (.fS o (.lst xs))):gK K H (.ref a) (.type "list")
 |tup {a:Addr} {xs:List V} (e:H a=some (.tup xs)):gK K H (.ref a) (.type "tuple")
 |dK {a:Addr} {kvs:List (Key×V)} (e:H a=some (.dK kvs)):gK K H (.ref a) (.type "dict")
 |dT {a:Addr} {kvs:List (List Key×V)} (e:H a=some (.dT kvs)):gK K H (.ref a) (.type "dict")
 |Hq {a:Addr} {o:Obj} {kvs:List (Key×V)} (e:H a=some (.fS o (.dK kvs))):gK K H (.ref a) (.type "dict")
 | ins {a C dx : Addr} {fs : List (Str × V)} (e : H a = some (.ins C dx fs)) (cl : xH K C) (ha : PySem.W.findIn K (.ref C) "__class__" = some (some (.builtin "object.__class__")))
   (hn:PySem.W.specialIn K (.builtin "object.__class__") "__get__"=some (some (.builtin "getset_descriptor.__get__"))) (htk:PySem.W.takesIn K (.builtin "object.__class__")=some true)
   (hm:PySem.W.mroIn K C (.type "object")=some true):gK K H (.ref a) (.ref C)
theorem Po{x:V}{u t:Value}(I:Inv X pins σ H s)(rx:RelV x u)(ty:gK X.K H x t)(e:PySem.W.kitOne X.K t c=some b)(h:∀tk,Q (.bool b) {s with toks:=tk}):
    wpAny (model X.prog X.w) A (call (.builtin "isinstance") [u,c]) Q E s:=by
  cases ty with
  |aG=>cases (show u=Value.none from rx);exact ji PySem.W.kitx_none I.dD True.intro e (fun z=>nomatch z) h
  |bl y=>cases (show u=Value.bool y from rx);exact ji PySem.W.kitx_bool I.dD True.intro e (fun z=>nomatch z) h
  |int i=>obtain⟨t,q⟩:=(show∃t,u=Value.int i t from rx);cases q;exact ji PySem.W.kitx_int I.dD True.intro e (fun z=>nomatch z) h
  |str y=>obtain⟨t,q⟩:=(show∃t,u=Value.str y t from rx);cases q;exact ji PySem.W.kitx_str I.dD True.intro e (fun z=>nomatch z) h
  |j8 y=>obtain⟨t,q⟩:=(show∃t,u=Value.float y t from rx);cases q;exact ji PySem.W.kitx_float I.dD True.intro e (fun z=>nomatch z) h
  | @lst a xs ea =>
    cases (show u=Value.ref a from rx)
    obtain⟨_,_,n,_,h1⟩:=(show bB X.prog X.w H s.heap a (.lst xs) from I.hok a _ ea)
    exact ji wu I.dD ⟨_,h1,rfl⟩ e (fun z=>nomatch z) h
  | @fS a ob xs ea =>
    cases (show u=Value.ref a from rx)
    obtain⟨_,_,_,n,_,h1⟩:=(show bB X.prog X.w H s.heap a (.fS ob (.lst xs)) from I.hok a _ ea)
    exact ji wu I.dD ⟨_,h1,rfl⟩ e (fun z=>nomatch z) h
  | @tup a xs ea =>
    cases (show u=Value.ref a from rx)
    obtain⟨_,_,_,p⟩:=(show bB X.prog X.w H s.heap a (.tup xs) from I.hok a _ ea)
    obtain⟨o,h1,h2,_⟩:=p
    exact ji PySem.W.kitx_tuple I.dD ⟨o,h1,h2⟩ e (fun z=>nomatch z) h
  | @dK a kvs ea =>
    cases (show u=Value.ref a from rx)
    obtain⟨_,_,vs,_,p⟩:=(show bB X.prog X.w H s.heap a (.dK kvs) from I.hok a _ ea)
    obtain⟨o,es,ep,h1,h2,_⟩:=p
    exact ji t8 I.dD ⟨o,h1,h2.1⟩ e (fun z=>nomatch z) h
  | @dT a kvs ea =>
    cases (show u=Value.ref a from rx)
    obtain⟨_,_,xs,_,o,es,ep,h1,h2,_⟩:=(show bB X.prog X.w H s.heap a (.dT kvs) from I.hok a _ ea)
    exact ji t8 I.dD ⟨o,h1,h2.1⟩ e (fun z=>nomatch z) h
  | @Hq a ob kvs ea =>
    cases (show u=Value.ref a from rx)
    obtain⟨_,_,_,vs,_,o,es,ep,h1,h2,_⟩:=I.hok a _ ea
    exact ji t8 I.dD ⟨o,h1,h2.1⟩ e (fun z=>nomatch z) h
  | @ins a C dx fs ea cl ha hn htk hm =>
    cases (show u=Value.ref a from rx)
    obtain⟨mA,O,_⟩:=IS I.hok ea
    obtain⟨od,J,_⟩:=O.look
    exact ji (PySem.W.kitx_own (cl.get _) cl.hd ha hn htk hm) I.dD J e (fun z=>nomatch z) h
end
structure fE(k:Nat)(A:Around):Prop where
 hd:A.handled=none
 dp:A.depth+3*k+5<recursionLimit
 un:A.units+16*k+200<cLine
theorem fE.mono{j k:Nat}{A:Around}(r:fE k A)(h:j<=k):fE j A:=⟨r.hd,by have:=r.dp;omega,by have:=r.un;omega⟩
theorem fE.deeper{k:Nat}{A:Around}(r:fE (k+1) A)(env:Env):fE k (A.deeper env):=
 ⟨r.hd,by have:=r.dp;show A.depth+1+3*k+5<_;omega,by have:=r.un;show A.units+3+16*k+200<_;omega⟩
theorem fE.depth{k:Nat}{A:Around}(r:fE k A):A.depth<recursionLimit:=by have:=r.dp;omega
theorem fE.units{k:Nat}{A:Around}(r:fE k A):A.units+64<cLine:=by have:=r.un;omega
def aQ:TA:=fun _ H Q=>Q [] H
def aK(ta:TE)(tr:TA):TA:=fun σ H Q=>ta σ H fun x H1=>tr σ H1 fun xs H2=>Q (x::xs) H2
section
variable{X:Cx}{e:Expr}{es:List Expr}{te:TE}{t:TA}{pos:Pos}
theorem aj:PA X [] aQ:=fun _ _ _ _ H Q I h=>Calls.spliced_nil ⟨[],H,I, .nil,h⟩
theorem aa(ha:PE X e te)(hr:PA X es t)(hs:starEach (e::es) X.env=(false,eval e X.env)::starEach es X.env:=by rfl):PA X (e::es) (aK te t):=by
 intro pos pins s σ H Q I h
 rw[hs]
 show wpAny _ _ (spliced ((false,eval e X.env)::backTo pos (starEach es X.env))) _ _ s
 refine Calls.spliced_cons (aE (ha pins s σ H _ I h) fun u s1 ⟨x,H1,I1,r1,q1⟩=>?_)
 exact aE (hr pos pins s1 σ H1 _ I1 q1) fun us s2 ⟨xs,H2,I2,r2,q2⟩=>⟨x::xs,H2,I2, .cons r1 r2,q2⟩
def tL(t:TA):TE:=fun σ H Q=>t σ H fun xs H1=>xs.length<=sizeLine/\∀p,H1 p=none->Q (.ref p) (upd H1 p (.tup xs))
def l8(t:TA):TE:=fun σ H Q=>t σ H fun xs H1=>xs.length<=sizeLine/\∀p,H1 p=none->Q (.ref p) (upd H1 p (.lst xs))
theorem jl{x1}(h:PA X es t):PE X (.Tuple es x1 pos) (tL t):=by
 intro pins s σ H Q I hq
 refine wpAny_Tuple_spliced (aE (h pos pins s σ H _ I hq) fun us s1 ⟨xs,H1,I1,r,z,q⟩=>⟨by rw[<-r.length];exact z,?_⟩)
 have hf:H1 s1.heap.objs.size=none:=I1.hok.fresh (aA _)
 refine⟨.ref s1.heap.objs.size,upd H1 s1.heap.objs.size (.tup xs),I1.laid (t':=s1.toks) (fun b u e=>bC _ e) (aA _) ?_,rfl,q _ hf⟩
 exact⟨z,us,r,⟨_,dX _ rfl,rfl,_,rfl⟩⟩
theorem dS(h:PA X es t):PE X (.List es pos) (l8 t):=by
 intro pins s σ H Q I hq
 refine wpAny_List_spliced (aE (h pos pins s σ H _ I hq) fun us s1 ⟨xs,H1,I1,r,z,q⟩=>⟨by rw[<-r.length];exact z,?_⟩)
 have hf:H1 s1.heap.objs.size=none:=I1.hok.fresh (aA _)
 refine⟨.ref s1.heap.objs.size,upd H1 s1.heap.objs.size (.lst xs),I1.laid (t':=s1.toks) (fun b u e=>bC _ e) (aA _) ?_,rfl,q _ hf⟩
 exact⟨z,us,0,r,dX _ rfl⟩
end
abbrev Sp:=List V->Hp->VK->XK->Prop
abbrev jZ:=List Env->Hp->Shared->XK->Value->Shared->Prop
structure sR(P:Program)(w:World)(K:PySem.W.Frag)(mg:Str->Option Value)(base:Heap)(A:Around)(outer:List Env)(s:Shared)(H:Hp):Prop where
 frames:A.frames=some outer
 mod:Mod K mg base
 bs:∀b o,base.get? b=some o->s.heap.get? b=some o/\H b=none
 nj:base.objs.size<=s.heap.objs.size
 jz:s.heap.FunFrames base outer
 oH:∀b∈frs outer,H b=none
 hok:cM P w H s.heap
 bare:AllBare s.gens
def CE(outer:List Env)(P:Program)(w:World)(H:Hp)(s:Shared)(Q:VK)(u:Value)(s':Shared):Prop:=
 ∃v H',s'.os=s.os/\AllBare s'.gens/\Un (frs outer) [] H H' s.heap s'.heap/\cM P w H' s'.heap/\RelV v u/\Q v H'
def CR(CX:jZ)(outer:List Env)(P:Program)(w:World)(H:Hp)(s:Shared)(Q:VK)(E:XK)(r:Result)(s':Shared):Prop:=
 match r with
 | .ok (.ret u)=>CE outer P w H s Q u s'
 | .ok _=>False
 | .error e=>CX outer H s E e s'
structure cI(P:Program)(w:World)(K:PySem.W.Frag)(mg:Str->Option Value)(base:Heap)(CX:jZ)(k:Nat)(f:Addr)(fd:FuncData)(ps:List Str)(sp:Sp):Prop where
 len:∀vs H Q E,sp vs H Q E->vs.length=ps.length
 run:∀(A:Around) (outer:List Env) (s:Shared) (H:Hp) (args:Args) (us:List Value) (vs:List V) (Q:VK) (E:XK),fE k A->sR P w K mg base A outer s H->BindsTo s fd args (ps.zip us)->Vals vs us->sp vs H Q E->
  codeAny (model P w) A (.call (.ref f) args) (CR CX outer P w H s Q E) s
section
variable{X:Cx}{pins:List (Addr×Obj)}{σ:St}{H:Hp}{s s':Shared}
theorem Inv.Rb(I:Inv X pins σ H s):sR X.prog X.w X.K X.mg X.base X.A X.stack s H:=
 ⟨I.ok.frames,I.ok.mod,I.bs,cL I.ok.nj I.sz,I.stack,I.BQ,I.hok,I.bare⟩
theorem Inv.after{Q:VK}{u:Value}(I:Inv X pins σ H s)(h:CE X.stack X.prog X.w H s Q u s'):EP X pins σ Q u s':=by
 obtain⟨v,H',os,bare,un,hok,r,q⟩:=h
 obtain⟨hh,g,d,t,os'⟩:=s'
 obtain rfl:os'=s.os:=os
 exact⟨v,H',I.call (h':=hh) (g':=g) (d':=d) (t':=t) (ch:=[]) un hok bare (fun b z=>absurd z (by simp)),r,q⟩
end
def gb(sp:Sp)(lJ:List V)(E:XK)(t:TA):TE:=fun σ H Q=>t σ H fun vs H1=>sp (vs++lJ) H1 Q E
def Binds(K:PySem.W.Frag)(fd:FuncData)(ps:List Str)(ds:List Value):Prop:=
 ∀(s:Shared) (us:List Value),K.In s.heap->(us++ds).length=ps.length->BindsTo s fd ⟨us,[]⟩ (ps.zip (us++ds))
theorem Binds.all{K:PySem.W.Frag}{fd:FuncData}{ps:List Str}(h:∀us:List Value,us.length=ps.length->bindArgs fd ⟨us,[]⟩=pure (ps.zip us)):Binds K fd ps []:=fun s us _ hl=>by
 rw[iC] at hl⊢
 exact .of_eq (h us hl)
def Passes(CX:jZ)(X:Cx)(E:XK):Prop:=∀(pins:List (Addr×Obj)) (σ:St) (H:Hp) (s:Shared) (e:Value) (s':Shared),Inv X pins σ H s->CX X.stack H s E e s'->X.xe e s'
section
variable{X:Cx}{CX:jZ}{k:Nat}{f C:Addr}{fd:FuncData}{ps:List Str}{sp:Sp}{lJ:List V}{ds:List Value}{E:XK}{x m:Str}{p pos apos:Pos}{e o:Expr}{es:List Expr}{ta:TE}{t:TA}
theorem JH{pins:List (Addr×Obj)}{σ:St}{H:Hp}{s:Shared}{Q:VK}{us:List Value}{vs:List V}(F:cI X.prog X.w X.K X.mg X.base CX k f fd ps sp)(hr:fE k X.A)(hb:Binds X.K fd ps ds)(hd:Vals lJ ds)(hx:Passes CX X E)
    (I:Inv X pins σ H s) (r:Vals vs us) (h:sp (vs++lJ) H Q E):wpAny (model X.prog X.w) X.A (call (.ref f) us) (EP X pins σ Q) X.xe s:=by
  have r2:Vals (vs++lJ) (us++ds):=r.append hd
  have hl:(us++ds).length=ps.length:=by rw[<-r2.length];exact F.len _ _ _ _ h
  refine wpAny_call (codeAny_mono (F.run X.A X.stack s H ⟨us,[]⟩ (us++ds) (vs++lJ) Q E hr I.Rb (hb s us I.dD hl) r2 h) fun r s' hq=>?_)
  cases r with
  |error e=>exact hx pins σ H s e s' I hq
  | ok fl =>
    cases fl with
    |ret u=>exact I.after hq
    |next=>exact False.elim hq
    |brk=>exact False.elim hq
    |cont=>exact False.elim hq
theorem LP(F:cI X.prog X.w X.K X.mg X.base CX k f fd ps sp)(hr:fE k X.A)(hg:Gl X x)(hm:X.mg x=some (.ref f))(hk:PySem.W.keepIn X.K (.ref f)=true)(hb:Binds X.K fd ps ds)(hd:Vals lJ ds)(hx:Passes CX X E)
  (ha:PA X (e::es) t) (hdb:(x==("__debug__":Str))=false:=by decide) (he:starEach (e::es) X.env=(false,eval e X.env)::starEach es X.env:=by rfl) (hpl:(backTo pos (starEach es X.env)).any (·.1)=false:=by rfl):
  PE X (.Call (.Name x p) (e::es) [] pos) (gb sp lJ E t):=by
 intro pins s σ H Q I h
 refine wpAny_Call_Name_kw (Ld I hg hm ?_ hdb)
 refine PySem.W.callWith_K (h₀:=X.base) I.ok.mod.AU hk (aE (ha pos pins s σ H _ I h) fun us s1 ⟨vs,H1,I1,r,q⟩=>⟨I1.dD,?_⟩) he hpl
 exact JH F hr hb hd hx I1 r q
end
structure dR(N P:List Str)(sc:Scope):Prop where
 kind:sc.kind= .function
 co:sc.isCoroutine=false
 gen:sc.isGenerator=false
 nd:N.Nodup
 pre:N.take P.length=P
 par:∀x∈P,sc.names.lookup x=some .local\/sc.names.lookup x=some .cell
 NW:∀y∈sc.names,y.2≠ .free
theorem C3{kindOf:Str->Option NameKind}{x:Str}:∀{binds:List (Str×Value)} {m:Str->Option Value},(∀v,(x,v)∉binds)->bindL kindOf binds m x=m x
  |[],_,_=>rfl
  | (n, v) :: r, m, h => by
    unfold bindL
    rw[C3 fun w hw=>h w (dN _ hw)]
    split
    · have:x≠n:=by rintro rfl;exact h v dB
      simp[this]
    · rfl
theorem E7{kindOf:Str->Option NameKind}{x:Str}:∀{binds:List (Str×Value)} {m:Str->Option Value},(∀v,(x,v)∉binds)->bindC kindOf binds m x=m x
  |[],_,_=>rfl
  | (n, v) :: r, m, h => by
    unfold bindC
    rw[E7 fun w hw=>h w (dN _ hw)]
    split
    · rfl
    · have:x≠n:=by rintro rfl;exact h v dB
      simp[this]
theorem BP{kindOf:Str->Option NameKind}{x:Str}{v:Value}:∀{P:List Str} {vs:List Value} {i:Nat} {m:Str->Option Value},P.Nodup->P[i]?=some x->vs[i]?=some v->kindOf x=some .local->
    bindL kindOf (P.zip vs) m x=some v
  |[],_,_,_,_,h,_,_=>by simp at h
  |_::_,[],_,_,_,_,h,_=>by simp at h
  | p :: P, w :: vs, 0, m, nd, h1, h2, hk => by
    simp at h1 h2;subst h1;subst h2
    show bindL kindOf ((p,w)::P.zip vs) m p=_
    unfold bindL
    rw[C3 fun v hv=>(kQ.mp nd).1 (yq hv).1,if_pos hk]
    simp
  | p :: P, w :: vs, i + 1, m, nd, h1, h2, hk => by
    show bindL kindOf ((p,w)::P.zip vs) m x=_
    unfold bindL
    exact BP (i:=i) (kQ.mp nd).2 (by simpa using h1) (by simpa using h2) hk
theorem Gn{kindOf:Str->Option NameKind}{x:Str}{v:Value}:∀{P:List Str} {vs:List Value} {i:Nat} {m:Str->Option Value},P.Nodup->P[i]?=some x->vs[i]?=some v->kindOf x≠some .local->
    bindC kindOf (P.zip vs) m x=some v
  |[],_,_,_,_,h,_,_=>by simp at h
  |_::_,[],_,_,_,_,h,_=>by simp at h
  | p :: P, w :: vs, 0, m, nd, h1, h2, hk => by
    simp at h1 h2;subst h1;subst h2
    show bindC kindOf ((p,w)::P.zip vs) m p=_
    unfold bindC
    rw[E7 fun v hv=>(kQ.mp nd).1 (yq hv).1,if_neg hk]
    simp
  | p :: P, w :: vs, i + 1, m, nd, h1, h2, hk => by
    show bindC kindOf ((p,w)::P.zip vs) m x=_
    unfold bindC
    exact Gn (i:=i) (kQ.mp nd).2 (by simpa using h1) (by simpa using h2) hk
def start(N:List Str)(vs:List V):St:=vs.map some++List.replicate (N.length-vs.length) none
def nG(CX:jZ)(P:Program)(w:World)(K:PySem.W.Frag)(mg:Str->Option Value)(base:Heap)(N:List Str)(qual:Str)(scope:Scope)(f:Addr)(cd:Value)(A:Around)(outer:List Env)(s:Shared)(H:Hp)(E:XK):Cx where
 prog:=P
 w:=w
 K:=K
 mg:=mg
 base:=base
 A:=A.deeper (envOfC qual scope s.heap.objs.size f cd)
 N:=N
 s₀:=s
 H₀:=H
 env:=envOfC qual scope s.heap.objs.size f cd
 outer:=outer
 stack:=envOfC qual scope s.heap.objs.size f cd::outer
 ex:=[]
 calm:=true
 fn:=fun _=>true
 pn:=[]
 xe:=fun e s'=>wpAny (model P w) (A.deeper (envOfC qual scope s.heap.objs.size f cd)) (leaving (envOfC qual scope s.heap.objs.size f cd) e) (fun _ s''=>CX outer H s E e s'') (fun e' s''=>CX outer H s E e' s'') s'
theorem Fq{sc:Scope}{n:Nat}{x:Str}(h:sc.names.lookup x=some .cell):∃c,(cellsFrom n sc.names []).lookup x=some c:=by
 have q:=AL sc.names n [] (.inl h)
 exact sZ.mp q
theorem Kz{CX:jZ}{P:Program}{w:World}{K:PySem.W.Frag}{mg:Str->Option Value}{base:Heap}{N ps:List Str}{qual:Str}{scope:Scope}{f:Addr}{cd:Value}{A:Around}{outer:List Env}{s s1:Shared}{H:Hp}{E:XK}{us:List Value}{vs:List V}
  (S:dR N ps scope) (hd:A.handled=none) (e0:sR P w K mg base A outer s H) (hl:vs.length=ps.length) (r:Vals vs us)
  (x:InCallC s s.heap.objs.size (bindL (envOfC qual scope s.heap.objs.size f cd).kindOf (ps.zip us) fun _=>none) (cellsFrom (s.heap.objs.size+1) scope.names []) (bindC (envOfC qual scope s.heap.objs.size f cd).kindOf (ps.zip us) fun _=>none) s1):
  Inv (nG CX P w K mg base N qual scope f cd A outer s H E) [] (start N vs) H s1:=by
 have hpl:ps.length<=N.length:=by have:=congrArg List.length S.pre;rw[gG] at this;omega
 obtain⟨h1,tk,rfl,hk⟩:=x.done
 have qS:∀b:Addr,b∉(nG CX P w K mg base N qual scope f cd A outer s H E).ex:=fun b z=>absurd (show b∈([]:List Addr) from z) (by simp)
 refine⟨⟨e0.mod,S.kind,rfl,rfl,aA _,fun y z c h1 h2=>?_,fun y hy=>?_,fun y c _ h=>?_,fun _=>hd,Around.frames_deeper e0.frames, .inr ⟨rfl,rfl⟩,fun b z=>absurd z (qS b),e0.bs,e0.nj,fun b _ _=>qS b,fun b z=>absurd z (qS b),e0.jz,e0.oH⟩,
  rfl,e0.bare,Un.kept hk,⟨_,x.toInCall.ns,fun i y v h1 h2 h3=>?_⟩,fun y c h=>⟨_,x.cell y c h⟩,e0.hok.fresh (aA _),fun y c h=>?_,fun p hp=>absurd (show p∈([]:List (Addr×Obj)) from hp) (by simp),e0.hok.kept hk,?_⟩
 ·exact name_of_addr x.apart (lK h1) (lK h2)
 ·have hy:scope.names.lookup y=some .cell\/scope.names.lookup y=some .free:=hy
  rcases hy with hy|hy
  ·exact Fq hy
  ·exact absurd rfl (S.NW _ (lK hy))
 ·exact gH (x.above y c (lK h))
 ·have hi:i<vs.length:=by
   unfold start at h2
   by_cases hi:i<vs.length
   ·exact hi
   ·rw[ff (by simpa using hi)] at h2
    rw[fh] at h2
    split at h2<;>cases h2
  have ha:vs[i]?=some v:=by
   unfold start at h2
   rw[eZ (by simpa using hi),bY] at h2
   cases e:vs[i]? with
   |none=>rw[e] at h2;cases h2
   |some a=>rw[e] at h2;cases h2;rfl
  obtain⟨u,hu,rv⟩:=r.get ha
  have hp:ps[i]?=some y:=by
   rw[<-S.pre,zM (by omega)];exact h1
  have Fo:ps.Nodup:=by rw[<-S.pre];exact S.nd.sublist (List.take_sublist _ _)
  refine⟨u,rv,?_⟩
  rcases S.par y (bZ hp) with k|k
  ·exact .inl ⟨k,BP Fo hp hu k⟩
  ·obtain⟨c,e⟩:=Fq (n:=s.heap.objs.size+1) k
   refine .inr ⟨.inl k,c,e,?_⟩
   have q:=x.cell y c e
   rw[Gn Fo hp hu (by show scope.names.lookup y≠_;rw[k];decide)] at q
   exact q
 ·exact e0.hok.fresh (gH (x.above y c (lK h)))
 ·unfold start
  show _=N.length
  rw[bR,ak,List.length_replicate]
  omega
theorem MW{CX:jZ}{P:Program}{w:World}{K:PySem.W.Frag}{mg:Str->Option Value}{base:Heap}{k:Nat}{f:Addr}{name qual:Str}{params:Arguments}{body:List Stmt}{scope:Scope}{dV kV doc pm cdv ct oc:Value}{an od:Option Addr}
    {osl:Array (Option Value)} {N ps:List Str} {sp:Sp} (lk:K.lookup f=some ⟨oc,od, .func (PySem.W.fnOf name qual params body scope dV kV doc pm an cdv ct),osl⟩) (hcd:PySem.W.codeIn K cdv qual=true) (S:dR N ps scope)
    (len:∀vs H Q E,sp vs H Q E->vs.length=ps.length)
    (hbody:∀(A:Around) (outer:List Env) (s:Shared) (H:Hp) (vs:List V) (Q:VK) (E:XK),fE k (A.deeper (envOfC qual scope s.heap.objs.size f cdv))->sp vs H Q E->
      ∃t,iy (nG CX P w K mg base N qual scope f cdv A outer s H E) body t/\t {nx:=fun _ H'=>Q .aG H',rt:=Q} (start N vs) H):
    cI P w K mg base CX (k+1) f (PySem.W.fnOf name qual params body scope dV kV doc pm an cdv ct) ps sp:=by
  refine⟨len,fun A outer s H args us vs Q E hr e0 hb r lq=>?_⟩
  have hl:=len _ _ _ _ lq
  have KX:K.In s.heap:=e0.mod.AU.keeps fun b o e=>(e0.bs b o e).1
  have lim:s.heap.NoLimit:=e0.mod.nolimit.keeps fun b o e=>(e0.bs b o e).1
  have hkind:∀y∈ps.zip us,scope.names.lookup y.1=some .local\/(scope.names.lookup y.1=some .cell/\((cellsFrom (s.heap.objs.size+1) scope.names []).lookup y.1).isSome=true):=fun⟨n,v⟩ hy=>by
    rcases S.par n (yq hy).1 with q|q
    · exact .inl q
    · exact .inr ⟨q,AL _ _ _ (.inl q)⟩
  refine codeAny_call_function hr.depth (KX _ _ lk) rfl S.co S.gen rfl (PySem.W.codeRec_of KX hcd) (hb _ _ _ _ ?_)
  refine wpAny_newFunctionEnv_cells S.kind hkind fun env he s1 x=>?_
  subst he
  refine⟨lim.keeps x.toInCall.keep,codeAny_func ?_⟩
  obtain⟨t,ht,hq⟩:=hbody A outer s H vs Q E (hr.deeper _) lq
  have I:Inv (nG CX P w K mg base N qual scope f cdv A outer s H E) [] (start N vs) H s1:=Kz S hr.hd e0 hl r x
  refine wpAny_mono (ht [] s1 (start N vs) H _ I hq) (fun fl s' hs=>?_) fun e s' hs=>hs
  have fin:∀{σ':St} {H':Hp} {v:V} {u:Value},Inv (nG CX P w K mg base N qual scope f cdv A outer s H E) [] σ' H' s'->RelV v u->Q v H'->CE outer P w H s Q u s':=
    fun{σ' H' v u} J rv q=>⟨v,H',J.os,J.bare,J.base,J.hok,rv,q⟩
  cases fl with
  | ret u =>
    obtain⟨v,σ',H',J,rv,q⟩:=hs
    exact fin J rv q
  | next =>
    obtain⟨σ',H',J,q⟩:=hs
    exact fin (v:=V.aG) (u:=Value.none) J rfl q
  | brk =>
    obtain⟨_,_,_,q⟩:=hs
    exact False.elim q
  | cont =>
    obtain⟨_,_,_,q⟩:=hs
    exact False.elim q
section
variable{X:Cx}{x:Str}{p pos:Pos}{e:Expr}{es:List Expr}{t:TA}{id T:String}{r:List V->Hp->VK->Prop}
def dw(r:List V->Hp->VK->Prop)(t:TA):TE:=fun σ H Q=>t σ H fun vs H1=>r vs H1 Q
theorem bN(hc:eF X (.builtin id) r)(hg:Gl X x)(hm:X.mg x=none)(hv:bootBuiltins x=some (.builtin id))(ha:PA X (e::es) t)(hn:x≠"__name__":=by decide)(hdb:(x==("__debug__":Str))=false:=by decide)
  (he:starEach (e::es) X.env=(false,eval e X.env)::starEach es X.env:=by rfl) (hpl:(backTo pos (starEach es X.env)).any (·.1)=false:=by rfl):PE X (.Call (.Name x p) (e::es) [] pos) (dw r t):=by
 intro pins s σ H Q I h
 refine wpAny_Call_Name_kw (nY I hg hm hv ?_ hn hdb)
 exact PyProof.Rows.callWith_builtin1 (aE (ha pos pins s σ H _ I h) fun us s1 ⟨vs,H1,I1,r1,q1⟩=>hc pins s1 σ H1 vs us Q I1 r1 q1) he hpl
theorem iU(hc:eF X (.type T) r)(hg:Gl X x)(hm:X.mg x=none)(hv:bootBuiltins x=some (.type T))(ha:PA X (e::es) t)(hn:x≠"__name__":=by decide)(hdb:(x==("__debug__":Str))=false:=by decide)
  (he:starEach (e::es) X.env=(false,eval e X.env)::starEach es X.env:=by rfl) (hpl:(backTo pos (starEach es X.env)).any (·.1)=false:=by rfl):PE X (.Call (.Name x p) (e::es) [] pos) (dw r t):=by
 intro pins s σ H Q I h
 refine wpAny_Call_Name_kw (nY I hg hm hv ?_ hn hdb)
 exact uH (aE (ha pos pins s σ H _ I h) fun us s1 ⟨vs,H1,I1,r1,q1⟩=>hc pins s1 σ H1 vs us Q I1 r1 q1) he hpl
end
end L2
namespace HT
open PySem PyProof.Rows
section
open PySem.SeqAt
open PySem.AutoSeq1 (wpAny_loadPart')
open PySem.MeetsSeq PySem.MeetsSeq2 PySem.MeetsSeq3
end
section
variable{prog:Program}{w:World}{A:Around}{E:Value->Shared->Prop}{s:Shared}
def dJ(n d:Nat):Option Int->Nat
 |none=>d
 |some v=>if v<0 then(v+(n:Int)).toNat else min v.toNat n
end
end HT
namespace L2
open PySem PySem.Spec PyProof.Rows
abbrev TO:=St->Hp->(Option Int->Hp->Prop)->Prop
def PO(X:Cx)(e:Option Expr)(t:TO):Prop:=
 ∀(pins:List (Addr×Obj)) (s:Shared) (σ:St) (H:Hp) (Q:Option Int->Hp->Prop),Inv X pins σ H s->t σ H Q->
  wpAny (model X.prog X.w) X.A (evalPart e X.env) (fun u s'=>∃o H',Inv X pins σ H' s'/\IsPart u o/\Q o H') X.xe s
def w9:TO:=fun _ H Q=>Q none H
def zE(t:TE):TO:=fun σ H Q=>t σ H fun x H1=>∃i,x= .int i/\Q (some i) H1
section
variable{X:Cx}{e:Expr}{te:TE}{lo hi:Option Expr}{tl th:TO}{pos p2:Pos}
theorem vq:PO X none w9:=by
 intro pins s σ H Q I h
 rw[evalPart_none]
 exact wpAny_pure ⟨none,H,I, .none,h⟩
theorem AV(h:PE X e te):PO X (some e) (zE te):=by
 intro pins s σ H Q I hw
 rw[evalPart_some]
 refine aE (h pins s σ H _ I hw) fun u s1 ⟨x,H1,I1,r1,q1⟩=>?_
 obtain⟨i,rfl,q⟩:=q1
 obtain⟨t,rfl⟩:=r1
 exact⟨some i,H1,I1, .int i t,q⟩
def B6(X:Cx)(r:V->Option Int->Option Int->Hp->VK->Prop):Prop:=
 ∀(pins:List (Addr×Obj)) (s:Shared) (σ:St) (H:Hp) (x:V) (v vl vu:Value) (lo hi:Option Int) (sl:Addr) (Q:VK),Inv X pins σ H s->RelV x v->s.heap.IsSliceOf sl vl vu .none->IsPart vl lo->IsPart vu hi->r x lo hi H Q->
  ∃T id,typeLookup (.type T) "__getitem__"=pure (some (.builtin id))/\s.TypeIs v T/\wpAny (model X.prog X.w) X.A (getItem v (.ref sl)) (EP X pins σ Q) X.xe s
def qZ(r:V->Option Int->Option Int->Hp->VK->Prop)(te:TE)(tl th:TO):TE:=fun σ H Q=>te σ H fun x H1=>tl σ H1 fun l H2=>th σ H2 fun u H3=>r x l u H3 Q
theorem zG{r:V->Option Int->Option Int->Hp->VK->Prop}(hr:B6 X r)(he:PE X e te)(hl:PO X lo tl)(hu:PO X hi th):PE X (.Subscript e (.Slice lo hi none p2) pos) (qZ r te tl th):=by
 intro pins s σ H Q I h
 refine Subscript_ (aE (he pins s σ H _ I h) fun v s1 ⟨x,H1,I1,r1,q1⟩=>?_)
 refine wpAny_Slice (aE (hl pins s1 σ H1 _ I1 q1) fun vl s2 ⟨l,H2,I2,pl,q2⟩=>aE (hu pins s2 σ H2 _ I2 q2) fun vu s3 ⟨u,H3,I3,pu,q3⟩=>?_)
 rw[evalPart_none]
 refine wpAny_pure ?_
 have I4:Inv X pins σ H3 {s3 with heap:=s3.heap.push {cls:= .type "slice",data:= .fields #[vl,vu, .none]}}:=I3.kept (t':=s3.toks) fun b ob q=>bC _ q
 obtain⟨T,id,hT,ht,hg⟩:=hr pins {s3 with heap:=s3.heap.push {cls:= .type "slice",data:= .fields #[vl,vu, .none]}} σ H3 x v vl vu l u s3.heap.objs.size Q I4 r1 (Heap.IsSliceOf.new ..) pl pu q3
 show wpAny (model X.prog X.w) X.A (subscriptTail e (.Slice lo hi none p2) v (.ref s3.heap.objs.size)) (EP X pins σ Q) X.xe {s3 with heap:=s3.heap.push {cls:= .type "slice",data:= .fields #[vl,vu, .none]}}
 exact tail_any (ops:=[.ref s3.heap.objs.size,v]) ht hT hg (by with_unfolding_all rfl)
def kF(xs:List V)(lo hi:Option Int):List V:=(xs.drop (HT.dJ xs.length 0 lo)).take (HT.dJ xs.length xs.length hi-HT.dJ xs.length 0 lo)
theorem Nf(xs:List V)(lo hi:Option Int):(kF xs lo hi).length<=xs.length:=by
 unfold kF
 rw[gG,uq]
 omega
def RY(K:PySem.W.Frag):V->Option Int->Option Int->Hp->VK->Prop:=fun x lo hi H Q=>∃a xs,x= .ref a/\fU K H a xs/\
 ¬(HT.dJ xs.length 0 lo=0/\HT.dJ xs.length xs.length hi=xs.length)/\∀p,H p=none->Q (.ref p) (upd H p (.tup (kF xs lo hi)))
def NO(K:PySem.W.Frag):R2:=fun x y H Q=>∃a b xs ys,x= .ref a/\y= .ref b/\fU K H a xs/\fU K H b ys/\xs≠[]/\xs.length+ys.length<=sizeLine/\
 (ys=[]->Q (.ref a) H)/\(ys≠[]->∀p,H p=none->Q (.ref p) (upd H p (.tup (xs++ys))))
end
def fQ(n:Nat)(i:Int):Option Nat:=if 0<=i then(if i<n then some i.toNat else none) else if-(n:Int)<=i then some (i+n).toNat else none
def bh{α:Type}(xs:List α)(i:Int):Option α:=(fQ xs.length i).bind fun j=>xs[j]?
theorem zm{n:Nat}{i:Int}{j:Nat}(h:fQ n i=some j):seqIndex? i n=some j/\j<n/\ -(n:Int)<=i/\i<n:=by
 unfold fQ at h
 by_cases h0:0<=i
 ·rw[if_pos h0] at h
  by_cases h1:i<n
  ·rw[if_pos h1] at h
   have e:i.toNat=j:=eS h
   exact⟨by rw[seqIndex_of h0 h1,e],by omega,by omega,h1⟩
  ·rw[if_neg h1] at h;cases h
 ·rw[if_neg h0] at h
  by_cases h1: -(n:Int)<=i
  ·rw[if_pos h1] at h
   have e:(i+n).toNat=j:=eS h
   exact⟨by rw[seqIndex_neg (by omega) h1,e],by omega,h1,by omega⟩
  ·rw[if_neg h1] at h;cases h
theorem uU{α:Type}{xs:List α}{i:Int}{v:α}(h:bh xs i=some v):∃j,seqIndex? i xs.length=some j/\xs[j]?=some v/\j<xs.length/\ -(xs.length:Int)<=i/\i<xs.length:=by
  unfold bh at h
  cases e:fQ xs.length i with
  |none=>rw[e] at h;cases h
  | some j =>
    rw[e] at h
    obtain⟨h1,h2,h3,h4⟩:=zm e
    exact⟨j,h1,h,h2,h3,h4⟩
theorem Nz{α:Type}{xs:List α}{j:Nat}{v:α}(h:xs[j]?=some v):bh xs (j:Int)=some v:=by
 have hj:j<xs.length:=(aJ.mp h).1
 have e:fQ xs.length (j:Int)=some j:=by
  unfold fQ
  rw[if_pos (by omega),if_pos (by omega)];simp
 unfold bh;rw[e];exact h
def M6(b:Expr):Prop:=∀o i,subscripted b false o i=operate [o,i] (getItem o i)
def kR(X:Cx)(r:R2):Prop:=
 ∀(value slice:Expr) (pins:List (Addr×Obj)) (s:Shared) (σ:St) (H:Hp) (x y:V) (v u:Value) (Q:VK),Inv X pins σ H s->RelV x v->RelV y u->r x y H Q->
  subscripted slice false v u=operate [v,u] (getItem v u)->wpAny (model X.prog X.w) X.A (subscriptTail value slice v u) (EP X pins σ Q) X.xe s
def wM(X:Cx)(id:String)(r:V->List V->Hp->VK->Prop):Prop:=
 ∀(pins:List (Addr×Obj)) (s:Shared) (σ:St) (H:Hp) (x:V) (xs:List V) (v:Value) (us:List Value) (Q:VK),Inv X pins σ H s->RelV x v->Vals xs us->r x xs H Q->
  wpAny (model X.prog X.w) X.A (call (.builtin id) (v::us)) (EP X pins σ Q) X.xe s
section
variable{X:Cx}{a b:Expr}{ta tb:TE}{pos:Pos}
theorem kR.or{r r':R2}(h:kR X r)(h':kR X r'):kR X (fun x y H Q=>r x y H Q\/r' x y H Q):=by
 intro value slice pins s σ H x y v u Q I rx ry q hs
 rcases q with q|q
 ·exact h value slice pins s σ H x y v u Q I rx ry q hs
 ·exact h' value slice pins s σ H x y v u Q I rx ry q hs
theorem aP{r:R2}(hr:kR X r)(ha:PE X a ta)(hb:PE X b tb)(hs:M6 b):PE X (.Subscript a b pos) (bW r ta tb):=by
 intro pins s σ H Q I h
 exact Subscript_ (x9 ha hb I h fun v u s2 x y H2 I2 rx ry q=>hr a b pins s2 σ H2 x y v u Q I2 rx ry q (hs _ _))
def cO(K:PySem.W.Frag):R2:=fun x y H Q=>∃p xs i v,x= .ref p/\y= .int i/\aF K H p xs/\bh xs i=some v/\Q v H
def dZ(K:PySem.W.Frag):R2:=fun x y H Q=>∃p xs i v,x= .ref p/\y= .int i/\fU K H p xs/\bh xs i=some v/\Q v H
def EZ:R2:=fun x y H Q=>∃z i c,x= .str z/\y= .int i/\z.length<=sizeLine/\bh z.cps.toList i=some c/\Q (.str ⟨#[c]⟩) H
theorem bP:kR X (cO X.K):=by
 intro value slice pins s σ H x y v u Q I rx ry h hs
 obtain⟨p,xs,i,z,rfl,rfl,hq,he,q⟩:=h
 cases rx
 obtain⟨t,rfl⟩:=ry
 obtain⟨its,r,pl,hz⟩:=I.list hq
 obtain⟨j,h1,h2,h3,h4,h5⟩:=uU he
 obtain⟨w,ew,rw'⟩:=r.get h2
 have hl:=r.length
 have hn:=m9
 have fin:EP X pins σ Q w s:=⟨z,H,I,rw',q⟩
 by_cases h0:0<=i
 ·have hj:i.toNat=j:=by
   rw[seqIndex_of h0 h5] at h1
   exact eS h1
  exact item_listR pl.isList h0 (by omega) (by rw[hj];simpa using ew) fin hs
 ·have hj:(i+(its.toArray.size:Int)).toNat=j:=by
   rw[seqIndex_neg (by omega) h4] at h1
   rw[bT,<-hl]
   exact eS h1
  exact subscriptTail_builtinR (x:=w) pl.isList.typeIs slot_list_getitem.lookup
   (wpAny_getItem_list_neg (Q:=fun r s'=>r=w/\EP X pins σ Q r s') pl.isList (by omega) (by rw[bT]<;>omega) (by omega) (by rw[hj];simpa using ew) ⟨rfl,fin⟩) hs
theorem fX:kR X (dZ X.K):=by
 intro value slice pins s σ H x y v u Q I rx ry h hs
 obtain⟨p,xs,i,z,rfl,rfl,hq,he,q⟩:=h
 cases rx
 obtain⟨t,rfl⟩:=ry
 obtain⟨its,r,pl,hz⟩:=I.tuple hq
 obtain⟨j,h1,h2,h3,h4,h5⟩:=uU he
 obtain⟨w,ew,rw'⟩:=r.get h2
 have hl:=r.length
 have hn:=m9
 have fin:EP X pins σ Q w s:=⟨z,H,I,rw',q⟩
 exact subscriptTail_builtinR (x:=w) pl.typeIs slot_tuple_getitem.lookup
  (getItem_tuple (j:=j) (Q:=fun r s'=>r=w/\EP X pins σ Q r s') pl (by omega) (by omega) (by rw[bT,<-hl];exact h1) (by simpa using ew) ⟨rfl,fin⟩) hs
theorem Nl:kR X EZ:=by
 intro value slice pins s σ H x y v u Q I rx ry h hs
 obtain⟨z,i,c,rfl,rfl,hz,he,q⟩:=h
 obtain⟨t,rfl⟩:=rx
 obtain⟨t',rfl⟩:=ry
 obtain⟨j,h1,h2,h3,h4,h5⟩:=uU he
 have hl:z.cps.toList.length=z.length:=by simp[Str.length]
 rw[hl] at h1 h4 h5
 have hn:=m9
 exact tail_any (typeIs_str s z t) slot_str_getitem.lookup (getItem_str (c:=c) (by
  have e1:decide (i< -(2^63:Int))=false:=decide_eq_false (by omega)
  have e2:decide (i≥2^63)=false:=decide_eq_false (by omega)
  rw[e1,e2,mH]) (by rw[h1];simpa using h2) ⟨.str ⟨#[c]⟩,H,I.tok _,⟨_,rfl⟩,q⟩) hs
def tS(K:PySem.W.Frag):R2:=fun x y H Q=>cO K x y H Q\/dZ K x y H Q\/EZ x y H Q
theorem E5:kR X (tS X.K):=bP.or (fX.or Nl)
theorem QX(its:List Value)(n j:Nat)(u:Value):Obj.mapSeq (·.setIfInBounds j u) {cls:= .type "list",data:= .seq its.toArray n}={cls:= .type "list",data:= .seq (its.set j u).toArray n}:=by
 simp[Obj.mapSeq]
theorem Inv.lst{pins:List (Addr×Obj)}{σ:St}{H:Hp}{s:Shared}{p:Addr}{xs:List V}(I:Inv X pins σ H s)(h:H p=some (.lst xs)):
  ∃(its:List Value) (n:Nat),Vals xs its/\s.heap.get? p=some {cls:= .type "list",data:= .seq its.toArray n}/\xs.length<=sizeLine:=by
 obtain⟨z,its,n,r,e⟩:=I.hok p _ h
 exact⟨its,n,r,e,z⟩
theorem Inv.PX{pins:List (Addr×Obj)}{σ:St}{H:Hp}{s:Shared}{p:Addr}{xs ys:List V}{its its':List Value}{n n':Nat}{f:Obj->Obj}(I:Inv X pins σ H s)(h:H p=some (.lst xs))
  (ho:s.heap.get? p=some {cls:= .type "list",data:= .seq its.toArray n}) (hf:f {cls:= .type "list",data:= .seq its.toArray n}={cls:= .type "list",data:= .seq its'.toArray n'}) (r:Vals ys its') (hz:ys.length<=sizeLine) (t:Nat):
  Inv X pins σ (upd H p (.lst ys)) {s with heap:=s.heap.update p f,toks:=t}:=by
 have e:(s.heap.update p f).get? p=some {cls:= .type "list",data:= .seq its'.toArray n'}:=by
  rw[sy f ho (by rw[hf]<;>rfl),hf]
 refine I.write (x:=p) (e:=p) (by rw[h];trivial) (.inl rfl) (fun b u hb q=>(jK _ _ (br hb)).trans q) ⟨_,e⟩ ?_
 exact⟨hz,its',n',r,e⟩
def rM:V->V->V->Hp->(Hp->Prop)->Prop:=fun o i v H Q=>∃p xs k j,o= .ref p/\i= .int k/\H p=some (.lst xs)/\fQ xs.length k=some j/\Q (upd H p (.lst (xs.set j v)))
theorem set_list:rZ X rM:=by
 intro pins s σ H o i v ov iv u Q I ro ri rv h
 obtain⟨p,xs,k,j,rfl,rfl,hp,hj,q⟩:=h
 cases ro
 obtain⟨t,rfl⟩:=ri
 obtain⟨its,n,r,ho,hz⟩:=I.lst hp
 obtain⟨h1,h2,h3,h4⟩:=zm hj
 have hl:=r.length
 have hn:=m9
 have I':Inv X pins σ (upd H p (.lst (xs.set j v))) {s with heap:=s.heap.update p (Obj.mapSeq (·.setIfInBounds j u))}:=
  I.PX hp ho (QX its n j u) (r.set rv j) (by rw[fM];exact hz) s.toks
 by_cases h0:0<=k
 ·have hk:k.toNat=j:=by
   rw[seqIndex_of h0 h4] at h1
   exact eS h1
  exact PySem.W.ki_setAt ho h0 (by omega) (by rw[bT,<-hl];exact h4) (by rw[hk];exact⟨_,I',q⟩)
 ·have hk:(k+(its.toArray.size:Int)).toNat=j:=by
   rw[seqIndex_neg (by omega) h3] at h1
   rw[bT,<-hl]
   exact eS h1
  exact PySem.W.ki_setBack ho (by omega) (by rw[bT,<-hl];exact h3) (by omega) (by rw[hk];exact⟨_,I',q⟩)
theorem Kw(lo hi:Option Int)(n:Nat):(sliceBounds lo hi none n).1=((HT.dJ n 0 lo:Nat):Int)/\(sliceBounds lo hi none n).2.1=((HT.dJ n n hi:Nat):Int)/\(sliceBounds lo hi none n).2.2=1:=by
  refine⟨?_,?_,rfl⟩
  · cases lo with
    |none=>simp[sliceBounds,HT.dJ]
    | some i =>
      simp only[sliceBounds,HT.dJ,Option.getD_none,show(1:Int)>0 by decide,if_true]
      by_cases h:i<0
      · simp only[h,if_true]<;>omega
      · simp only[h,if_false]<;>omega
  · cases hi with
    |none=>simp[sliceBounds,HT.dJ]
    | some i =>
      simp only[sliceBounds,HT.dJ,Option.getD_none,show(1:Int)>0 by decide,if_true]
      by_cases h:i<0
      · simp only[h,if_true]<;>omega
      · simp only[h,if_false]<;>omega
theorem PJ(its:List Value)(lo hi:Option Int):slicePick its.toArray lo hi none=((its.drop (HT.dJ its.length 0 lo)).take (HT.dJ its.length its.length hi-HT.dJ its.length 0 lo)).toArray:=by
 obtain⟨h1,h2,h3⟩:=Kw lo hi its.toArray.size
 unfold slicePick
 rw[h1,h2,h3]
 simp only[sliceRange_one,pick_run,bT]<;>rfl
def qv(K:PySem.W.Frag):V->Option Int->Option Int->Hp->VK->Prop:=fun x lo hi H Q=>∃a xs,x= .ref a/\aF K H a xs/\∀p,H p=none->Q (.ref p) (upd H p (.lst (kF xs lo hi)))
theorem vB:B6 X (qv X.K):=by
 intro pins s σ H x v vl vu lo hi sl Q I rx hs pl pu h
 obtain⟨a,xs,rfl,hx,q⟩:=h
 cases rx
 obtain⟨its,r,ht,hz⟩:=I.list hx
 have hlen:=r.length
 refine⟨"list",_,slot_list_getitem.lookup,ht.isList.typeIs,?_⟩
 refine wpAny_getItem_list_slice ht.isList hs pl pu .none (by simp) ?_ (by rw[bT]<;>omega)
 rw[PJ,<-hlen]
 refine⟨.ref s.heap.objs.size,_,I.laid (t':=s.toks) (o:= .lst (kF xs lo hi)) (fun b ob q=>bC _ q) (aA _) ?_,rfl,q _ (I.hok.fresh (aA _))⟩
 exact⟨cL (Nf xs lo hi) hz,_,0,(r.drop (HT.dJ xs.length 0 lo)).take (HT.dJ xs.length xs.length hi-HT.dJ xs.length 0 lo),dX _ rfl⟩
def lB:V->Bool
 | .aG=>true
 | .bl _=>true
 | .int _=>true
 | .str _=>true
 |_=>false
def mj:V->V->Bool
 | .aG, .aG=>true
 | .bl a, .bl b=>a==b
 | .bl a, .int b=>(if a then 1 else 0)==b
 | .int a, .bl b=>a==(if b then 1 else 0)
 | .int a, .int b=>a==b
 | .str a, .str b=>a==b
 |_,_=>false
theorem HX{A:Around}{s:Shared}{y x:V}{u v:Value}(ry:RelV y u)(rx:RelV x v)(fy:lB y=true)(fx:lB x=true):SeqAt.EqAt A s u v (mj y x):=by
  cases y with
  | aG =>
    cases ry
    cases x with
    |aG=>cases rx;exact SeqAt.EqAt.same _
    |bl b=>cases rx;exact SeqAt.EqAt.none_bool b
    |int b=>obtain⟨t,rfl⟩:=rx;exact SeqAt.EqAt.none_int b t
    |str b=>obtain⟨t,rfl⟩:=rx;exact SeqAt.EqAt.none_str b t
    |_=>exact absurd (show false=true from fx) bz
  | bl a =>
    cases ry
    cases x with
    |aG=>cases rx;exact SeqAt.EqAt.bool_none a
    |bl b=>cases rx;exact SeqAt.EqAt.bool_bool a b
    |int b=>obtain⟨t,rfl⟩:=rx;exact SeqAt.EqAt.bool_int a b t
    |str b=>obtain⟨t,rfl⟩:=rx;exact SeqAt.EqAt.bool_str a b t
    |_=>exact absurd (show false=true from fx) bz
  | int a =>
    obtain⟨t',rfl⟩:=ry
    cases x with
    |aG=>cases rx;exact SeqAt.EqAt.int_none a t'
    |bl b=>cases rx;exact SeqAt.EqAt.int_bool a t' b
    |int b=>obtain⟨t,rfl⟩:=rx;exact SeqAt.EqAt.int_int a t' b t
    |str b=>obtain⟨t,rfl⟩:=rx;exact SeqAt.EqAt.int_str a t' b t
    |_=>exact absurd (show false=true from fx) bz
  | str a =>
    obtain⟨t',rfl⟩:=ry
    cases x with
    |aG=>cases rx;exact SeqAt.EqAt.str_none a t'
    |bl b=>cases rx;exact SeqAt.EqAt.str_bool a t' b
    |int b=>obtain⟨t,rfl⟩:=rx;exact SeqAt.EqAt.str_int a t' b t
    |str b=>obtain⟨t,rfl⟩:=rx;exact SeqAt.EqAt.str_str a t' b t
    |_=>exact absurd (show false=true from fx) bz
  |_=>exact absurd (show false=true from fy) bz
def gD(x:V)(u:Value):Bool:=match u with
 | .none=>mj .aG x
 | .bool b=>mj (.bl b) x
 | .int i _=>mj (.int i) x
 | .str z _=>mj (.str z) x
 |_=>false
theorem BK{x y:V}{u:Value}(r:RelV y u)(f:lB y=true):gD x u=mj y x:=by
 cases y with
 |aG=>cases r;rfl
 |bl b=>cases r;rfl
 |int i=>obtain⟨t,rfl⟩:=r;rfl
 |str z=>obtain⟨t,rfl⟩:=r;rfl
 |_=>exact absurd (show false=true from f) bz
theorem qN{x:V}:∀{xs:List V} {us:List Value},Vals xs us->xs.all lB=true->us.any (gD x)=xs.any fun y=>mj y x
  |_,_, .nil,_=>rfl
  | y :: xs, u :: us, .cons r t, f => by
    rw[lU,cV] at f
    rw[kg,kg,BK r f.1,qN t f.2]
theorem pB{A:Around}{s:Shared}{x:V}{v:Value}(rx:RelV x v)(fx:lB x=true):∀{xs:List V} {us:List Value},Vals xs us->xs.all lB=true->∀u∈us,SeqAt.EqAt A s u v (gD x u)
  |_,_, .nil,_=>fun u hu=>by cases hu
  | y :: xs, u :: us, .cons r t, f => fun u' hu => by
    rw[lU,cV] at f
    rcases bQ.mp hu with rfl|hu
    · rw[BK r f.1];exact HX r rx f.1 fx
    · exact pB rx fx t f.2 u' hu
def jQ(x:V)(xs:List V):Bool:=xs.any fun y=>mj y x
def ow(K:PySem.W.Frag)(neg:Bool):R2:=fun x y H Q=>∃p xs,y= .ref p/\(aF K H p xs\/fU K H p xs)/\lB x=true/\xs.all lB=true/\Q (.bl (if neg then !jQ x xs else jQ x xs)) H
theorem Ot:dz X (compareOp .In) (ow X.K false):=by
 intro pins s σ H x y v u Q I rx ry h
 obtain⟨p,xs,rfl,hq,fx,fs,q⟩:=h
 cases ry
 rcases hq with hq|hq
 ·obtain⟨its,r,pl,hz⟩:=I.list hq
  refine SeqAt.in_listAt (gD x) pl.isList (fun w hw=>pB rx fx r fs w (by simpa using hw)) ⟨.bl _,H,I,rfl,?_⟩
  rw[show its.toArray.any (gD x)=its.any (gD x) by simp,qN r fs]
  exact q
 ·obtain⟨its,r,pl,hz⟩:=I.tuple hq
  refine SeqAt.in_tupleAt (gD x) pl (fun w hw=>pB rx fx r fs w (by simpa using hw)) ⟨.bl _,H,I,rfl,?_⟩
  rw[show its.toArray.any (gD x)=its.any (gD x) by simp,qN r fs]
  exact q
theorem NI:dz X (compareOp .NotIn) (ow X.K true):=by
 intro pins s σ H x y v u Q I rx ry h
 obtain⟨p,xs,rfl,hq,fx,fs,q⟩:=h
 cases ry
 rcases hq with hq|hq
 ·obtain⟨its,r,pl,hz⟩:=I.list hq
  refine SeqAt.notIn_listAt (gD x) pl.isList (fun w hw=>pB rx fx r fs w (by simpa using hw)) ⟨.bl _,H,I,rfl,?_⟩
  rw[show its.toArray.any (gD x)=its.any (gD x) by simp,qN r fs]
  exact q
 ·obtain⟨its,r,pl,hz⟩:=I.tuple hq
  refine SeqAt.notIn_tupleAt (gD x) pl (fun w hw=>pB rx fx r fs w (by simpa using hw)) ⟨.bl _,H,I,rfl,?_⟩
  rw[show its.toArray.any (gD x)=its.any (gD x) by simp,qN r fs]
  exact q
theorem Cw:eF X (.builtin "len") (fun xs H Q=>∃p ys,xs=[.ref p]/\(aF X.K H p ys\/fU X.K H p ys)/\Q (.int ys.length) H):=by
 intro pins s σ H xs us Q I r h
 obtain⟨p,ys,rfl,hq,q⟩:=h
 obtain⟨u,rfl,rx⟩:=vals1 r
 cases rx
 have hn:=m9
 rcases hq with hq|hq
 ·obtain⟨its,r',pl,hz⟩:=I.list hq
  have hlen:=r'.length
  exact Calls.call_len_list pl.isList (by simp only[bT]<;>omega) ⟨.int ys.length,H,I.tok _,⟨s.toks+1,by rw[bT,hlen]⟩,q⟩
 ·obtain⟨its,r',pl,hz⟩:=I.tuple hq
  have hlen:=r'.length
  exact len_tuple pl (by simp only[bT]<;>omega) ⟨.int ys.length,H,I.tok _,⟨s.toks+1,by rw[bT,hlen]⟩,q⟩
theorem RB:eF X (.type "list") (fun xs H Q=>∃p ys,xs=[.ref p]/\(aF X.K H p ys\/fU X.K H p ys)/\∀l,H l=none->Q (.ref l) (upd H l (.lst ys))):=by
 intro pins s σ H xs us Q I r h
 obtain⟨p,ys,rfl,hq,q⟩:=h
 obtain⟨u,rfl,rx⟩:=vals1 r
 cases rx
 have fin:∀(its:List Value),Vals ys its->ys.length<=sizeLine->∀(h':Heap) (c':Nat),(∀b o',s.heap.get? b=some o'->h'.get? b=some o')->
   h'.get? s.heap.objs.size=some {cls:= .type "list",dict:=none,data:= .seq its.toArray c',slots:= #[]}->EP X pins σ Q (.ref s.heap.objs.size) {s with heap:=h'}:=fun its r' hz h' c' kp e=>
  ⟨.ref s.heap.objs.size,_,I.laid (t':=s.toks) kp (aA _) (show bB X.prog X.w _ h' _ (.lst ys) from⟨hz,its,c',r',e⟩),rfl,q _ (I.hok.fresh (aA _))⟩
 rcases hq with hq|hq
 ·obtain⟨its,r',pl,hz⟩:=I.list hq
  have hlen:=r'.length
  obtain⟨o,ho,hc,n,hd⟩:=pl.isList
  exact call_list_seq p (.inl rfl) ho hc hd (fun h' c' kp e=>fin its r' hz h' c' kp e) (by simp only[bT]<;>omega)
 ·obtain⟨its,r',pl,hz⟩:=I.tuple hq
  have hlen:=r'.length
  obtain⟨o,ho,hc,n,hd⟩:=pl
  exact call_list_seq p (.inr rfl) ho hc hd (fun h' c' kp e=>fin its r' hz h' c' kp e) (by simp only[bT]<;>omega)
def vW(K:PySem.W.Frag)(T:String)(x:V)(H:Hp):Prop:=match x with
 | .str _=>T="str"
 | .int _=>T="int"
 | .ref p => (T = "list" /\ ∃ xs, aF K H p xs) \/ (T = "tuple" /\ ∃ o, K.lookup p = some o /\ o.cls = .type "tuple" /\ o.dict = none) \/
   (T="dict" /\((∃kvs,H p=some (.dK kvs))\/(∃kvs,H p=some (.dT kvs))\/∃o kvs,H p=some (.fS o (.dK kvs))))\/(T="set" /\∃S n,H p=some (.set S n))
 |_=>False
theorem Dt{pins:List (Addr×Obj)}{σ:St}{H:Hp}{s:Shared}{T:String}{x:V}{v:Value}(I:Inv X pins σ H s)(r:RelV x v)(ty:vW X.K T x H):
    s.TypeIs v T/\∀a,v= .ref a->∃ob,s.heap.get? a=some ob/\ob.dict=none:=by
  cases x with
  | str z =>
    obtain⟨t,rfl⟩:=r
    cases (show T="str" from ty)
    exact⟨typeIs_str s z t,fun _ e=>nomatch e⟩
  | int i =>
    obtain⟨t,rfl⟩:=r
    cases (show T="int" from ty)
    exact⟨typeIs_int s i t,fun _ e=>nomatch e⟩
  | ref p =>
    cases r
    rcases ty with ⟨rfl,xs,hq⟩|⟨rfl,o,hk,hc,hd⟩|⟨rfl,hk⟩|⟨rfl,S,n,hk⟩
    · obtain⟨its,_,pl,_⟩:=I.list hq
      refine⟨pl.isList.typeIs,fun a e=>?_⟩
      cases e
      obtain⟨o,n,e,c,hd,_⟩:=pl
      exact⟨o,e,hd⟩
    · refine⟨⟨o,I.dD p o hk,hc⟩,fun a e=>?_⟩
      cases e
      exact⟨o,I.dD _ o hk,hd⟩
    · have z:∃o,s.heap.get? p=some o/\o.ExactDict:=by
        rcases hk with ⟨kvs,hk⟩|⟨kvs,hk⟩|⟨ob,kvs,hk⟩
        · obtain⟨_,_,_,_,o,_,_,e,ex,_⟩:=I.hok p _ hk
          exact⟨o,e,ex⟩
        · obtain⟨_,_,_,_,o,_,_,e,ex,_⟩:=I.hok p _ hk
          exact⟨o,e,ex⟩
        · obtain⟨_,_,_,_,_,o,_,_,e,ex,_⟩:=I.hok p _ hk
          exact⟨o,e,ex⟩
      obtain⟨o,e,ex⟩:=z
      refine⟨⟨o,e,ex.1⟩,fun a e2=>?_⟩
      cases e2
      exact⟨o,e,ex.2.1⟩
    · obtain⟨o,_,_,_,e,ex,_⟩:=I.hok p _ hk
      refine⟨⟨o,e,ex.1⟩,fun a e2=>?_⟩
      cases e2
      exact⟨o,e,ex.2.1⟩
  |_=>exact False.elim ty
def Mr(K:PySem.W.Frag)(T:String)(r:V->List V->Hp->VK->Prop)(to:TE):TE:=fun σ H Q=>to σ H fun x H1=>vW K T x H1/\r x [] H1 Q
def jc(K:PySem.W.Frag)(T:String)(r:V->List V->Hp->VK->Prop)(to:TE)(t:TA):TE:=fun σ H Q=>to σ H fun x H1=>vW K T x H1/\t σ H1 fun xs H2=>r x xs H2 Q
variable{o e:Expr}{es:List Expr}{to:TE}{t:TA}{name:Str}{apos cpos:Pos}{T id:String}{r:V->List V->Hp->VK->Prop}
theorem MR(pa:PlainAttrs T)(slot:Slot T name id)(hty:typeOf (.builtin id)=pure (.type "method_descriptor"))(hm:wM X id r)(ho:PE X o to)
  (hbase:attributeBase o name X.env (eval o X.env)=eval o X.env:=by rfl) (hline:(apos.endLine==cpos.line)=true:=by rfl):PE X (.Call (.Attribute o name apos) [] [] cpos) (Mr X.K T r to):=by
 intro pins s σ H Q I h
 refine wpAny_Call_method0_late hbase hline (aE (ho pins s σ H _ I h) fun v s1 ⟨x,H1,I1,r1,ty,q1⟩=>?_)
 obtain⟨h1,h2⟩:=Dt I1 r1 ty
 exact⟨T,id,pa,slot,hty,h1,h2,Calls.callWith_builtin rfl (PySem.evalArgs_none (hm pins s1 σ H1 x [] v [] Q I1 r1 .nil q1))⟩
theorem iK(pa:PlainAttrs T)(slot:Slot T name id)(hty:typeOf (.builtin id)=pure (.type "method_descriptor"))(hm:wM X id r)(ho:PE X o to)(ha:PA X (e::es) t)
  (hbase:attributeBase o name X.env (eval o X.env)=eval o X.env:=by rfl)
  (hfew : ((backTo cpos (starEach (e :: es) X.env)).all (fun x => !x.1) && (backToKw cpos (keywordEach [] X.env)).all (fun x => x.1.isSome)
   && decide ((e::es).length+([]:List Keyword).length+(if([]:List Keyword).isEmpty then 0 else 1)<30))=true:=by rfl)
  (hline:(apos.endLine==cpos.line)=true:=by rfl) (hs:starEach (e::es) X.env=(false,eval e X.env)::starEach es X.env:=by rfl) (hplain:(backTo cpos (starEach es X.env)).any (·.1)=false:=by rfl):
  PE X (.Call (.Attribute o name apos) (e::es) [] cpos) (jc X.K T r to t):=by
 intro pins s σ H Q I h
 refine wpAny_Call_method_late hbase hfew hline rfl (aE (ho pins s σ H _ I h) fun v s1 ⟨x,H1,I1,r1,ty,q1⟩=>?_)
 obtain⟨h1,h2⟩:=Dt I1 r1 ty
 refine⟨T,id,pa,slot,hty,h1,h2,?_⟩
 have hA:=ha cpos pins s1 σ H1 _ I1 q1
 rw[hs] at hA⊢
 refine Calls.callWith_builtin (by show(false||(backTo cpos (starEach es X.env)).any (·.1))=false;rw[hplain]<;>rfl) (Calls.evalArgs_plain ?_)
 exact aE hA fun us s2 ⟨vs,H2,I2,r2,q2⟩=>hm pins s2 σ H2 x vs v us Q I2 r1 r2 q2
/-xs.append(e),list.index on a module's tuple .. are wM facts of 06m-/
end
def oN(X:Cx)(id:String)(r:V->List V->Hp->VK->Prop):Prop:=
 ∀(pins:List (Addr×Obj)) (s:Shared) (σ:St) (H:Hp) (x:V) (xs:List V) (v:Value) (us:List Value) (Q:VK),Inv X pins σ H s->RelV x v->Vals xs us->r x xs H Q->
  wpAny (model X.prog X.w) X.A (call (.builtin id) (v::us)) (EP X pins σ Q) X.xe s
theorem Vals.one{x:V}{us:List Value}(h:Vals [x] us):∃u,us=[u]/\RelV x u:=by
 cases h with
 |cons r t=>cases t;exact⟨_,rfl,r⟩
theorem Vals.two{x y:V}{us:List Value}(h:Vals [x,y] us):∃u v,us=[u,v]/\RelV x u/\RelV y v:=by
  cases h with
  | cons r t =>
    obtain⟨v,e,q⟩:=Vals.one t
    exact⟨_,v,by rw[e],r,q⟩
theorem Vals.zero:∀{us:List Value},Vals [] us->us=[]
 |_, .nil=>rfl
theorem Vals.dropLast{xs:List V}{us:List Value}(h:Vals xs us):Vals xs.dropLast us.dropLast:=by
  induction h with
  |nil=>exact .nil
  | cons r t ih =>
    cases t with
    |nil=>exact .nil
    |cons q t'=>exact .cons r ih
theorem Vals.eraseIdx:∀{xs:List V} {us:List Value} (i:Nat),Vals xs us->Vals (xs.eraseIdx i) (us.eraseIdx i)
 |_,_,_, .nil=> .nil
 |_,_,0, .cons _ t=>t
 |_,_,i+1, .cons r t=> .cons r (Vals.eraseIdx i t)
theorem Lh{α:Type}(l:List α):l.eraseIdx (l.length-1)=l.dropLast:=by
  induction l with
  |nil=>rfl
  | cons a r ih =>
    cases r with
    |nil=>rfl
    | cons b r =>
      have e:(a::b::r).length-1=((b::r).length-1)+1:=by
        have h1:(a::b::r).length=r.length+2:=rfl
        have h2:(b::r).length=r.length+1:=rfl
        omega
      rw[e,Ed,ih]
      all_goals rfl
theorem FL{α:Type}:∀(l:List α) (i:Nat),(l.eraseIdx i).length<=l.length
 |[],_=>aA _
 |_::_,0=>iD _
 |_::r,i+1=>Nat.succ_le_succ (FL r i)
section
variable{X:Cx}{pins:List (Addr×Obj)}{σ:St}{H:Hp}{s:Shared}{l b:Addr}{xs ys zs:List V}
theorem Inv.qO{its its':List Value}{n:Nat}{f:Array Value->Array Value}{t':Nat}(I:Inv X pins σ H s)(hH:H l=some (.lst xs))
  (e:s.heap.get? l=some {cls:= .type "list",data:= .seq its.toArray n}) (hf:f its.toArray=its'.toArray) (hv:Vals ys its') (hz:ys.length<=sizeLine):
  Inv X pins σ (upd H l (.lst ys)) {s with heap:=s.heap.update l (Obj.mapSeq f),toks:=t'}:=by
 have q:=PySem.IsL.update e f
 rw[hf] at q
 refine I.write (x:=l) (e:=l) (by rw[hH];exact trivial) (.inl rfl) (fun b' u hb hu=>(jK s.heap (Obj.mapSeq f) (br hb)).trans hu) ⟨_,q⟩ ?_
 exact⟨hz,its',_,hv,q⟩
theorem Inv.Ex{its:List Value}{t':Nat}(I:Inv X pins σ H s)(hv:Vals ys its)(hz:ys.length<=sizeLine):
  Inv X pins σ (upd H s.heap.objs.size (.lst ys)) {s with heap:=s.heap.push {cls:= .type "list",data:= .seq its.toArray},toks:=t'}:=
 I.laid (fun _ _ q=>bC _ q) (aA _) ⟨hz,its,0,hv,dX _ rfl⟩
theorem Inv.fresh(I:Inv X pins σ H s):H s.heap.objs.size=none:=I.hok.fresh (aA _)
theorem Inv.k9(I:Inv X pins σ H s)(hH:H l=some (.lst xs)):xs.length<=sizeLine/\∃(its:List Value) (n:Nat),Vals xs its/\xs.length=its.length/\s.heap.get? l=some {cls:= .type "list",data:= .seq its.toArray n}:=by
 obtain⟨z,its,n,r,e⟩:=I.hok l _ hH
 exact⟨z,its,n,r,r.length,e⟩
theorem Kr{n:Nat}(h:n<=sizeLine):Builtin.List.listTooLong n=false:=by
 unfold Builtin.List.listTooLong
 exact decide_eq_false (by omega)
end
section
variable{X:Cx}
def pS:V->List V->Hp->VK->Prop:=fun x vs H Q=>∃l xs y,x= .ref l/\vs=[y]/\H l=some (.lst xs)/\xs.length<sizeLine/\Q .aG (upd H l (.lst (xs++[y])))
theorem kG:oN X "list.append" pS:=by
 intro pins s σ H x vs v us Q I rx rv h
 obtain⟨l,xs,y,rfl,rfl,hH,hz,q⟩:=h
 cases rx
 obtain⟨u,rfl,ru⟩:=rv.one
 obtain⟨z,its,n,r,hl,e⟩:=I.k9 hH
 refine call_meets F.slot_list_append ⟨_,e,rfl⟩ F.entry_list_append (F.args_list_append_2 _ _) (PySem.list_append l its.toArray n u (by rw[bT];omega)) ⟨e,?_⟩
 refine⟨.aG,_,I.qO (its':=its++[u]) hH e (by simp) (r.append (.cons ru .nil)) ?_,rfl,q⟩
 rw[bR,jT]
 omega
def Cm:V->List V->Hp->VK->Prop:=fun x vs H Q=>∃l b xs zs,x= .ref l/\vs=[.ref b]/\H l=some (.lst xs)/\H b=some (.lst zs)/\xs.length+zs.length<=sizeLine/\Q .aG (upd H l (.lst (xs++zs)))
theorem L1:oN X "list.extend" Cm:=by
 intro pins s σ H x vs v us Q I rx rv h
 obtain⟨l,b,xs,zs,rfl,rfl,hH,hB,hz,q⟩:=h
 cases rx
 obtain⟨u,rfl,ru⟩:=rv.one
 cases ru
 obtain⟨z,its,n,r,hl,e⟩:=I.k9 hH
 obtain⟨z2,its2,n2,r2,hl2,e2⟩:=I.k9 hB
 have hsz:its.toArray.size+its2.toArray.size<=sizeLine:=by rw[bT,bT];omega
 have Jc:¬(!its.toArray.isEmpty && Builtin.List.listTooLong (its.toArray.size+its2.toArray.size))=true:=by
  rw[Kr hsz,Bool.and_false]
  exact bz
 refine call_meets F.slot_list_extend ⟨_,e,rfl⟩ F.entry_list_extend (F.args_list_extend_2 _ _)
  (AutoSeq1.list_extend_list_list_0 l its.toArray n b its2.toArray n2 Jc (by rw[bT];omega) (by omega)) ⟨e,e2,?_⟩
 refine⟨.aG,_,I.qO (its':=its++its2) hH e (by simp) (r.append r2) ?_,rfl,q⟩
 rw[bR]
 omega
def CC:V->List V->Hp->VK->Prop:=fun x vs H Q=>∃l xs y,x= .ref l/\vs=[]/\H l=some (.lst xs)/\xs[xs.length-1]?=some y/\Q y (upd H l (.lst xs.dropLast))
theorem OA:oN X "list.pop" CC:=by
 intro pins s σ H x vs v us Q I rx rv h
 obtain⟨l,xs,y,rfl,rfl,hH,hy,q⟩:=h
 cases rx
 have NF:=rv.zero
 subst NF
 obtain⟨z,its,n,r,hl,e⟩:=I.k9 hH
 obtain⟨u,hu,ru⟩:=r.get hy
 have hy':its.toArray[its.toArray.size-1]?=some u:=by
  show its.toArray[its.length-1]?=some u
  rw[<-gz,<-hl]
  exact hu
 refine call_meets F.slot_list_pop ⟨_,e,rfl⟩ F.entry_list_pop (F.args_list_pop_1 _) (MeetsSeq.list_pop_last l its.toArray n u hy' (by rw[bT];omega)) ⟨e,?_⟩
 refine⟨y,_,I.qO (its':=its.dropLast) hH e ?_ r.dropLast ?_,ru,q⟩
 ·show its.toArray.eraseIdxIfInBounds (its.toArray.size-1)=its.dropLast.toArray
  rw[bT,Af,Lh]
 ·rw[List.length_dropLast]
  omega
def Bl:V->List V->Hp->VK->Prop:=fun x vs H Q=>∃l xs i k y,x= .ref l/\vs=[.int i]/\H l=some (.lst xs)/\ -(2^63)<=i/\i<2^63/\seqIndex? i xs.length=some k/\xs[k]?=some y/\Q y (upd H l (.lst (xs.eraseIdx k)))
theorem LX:oN X "list.pop" Bl:=by
 intro pins s σ H x vs v us Q I rx rv h
 obtain⟨l,xs,i,k,y,rfl,rfl,hH,h1,h2,hk,hy,q⟩:=h
 cases rx
 obtain⟨u,rfl,ru⟩:=rv.one
 obtain⟨t,rfl⟩:=ru
 obtain⟨z,its,n,r,hl,e⟩:=I.k9 hH
 obtain⟨w,hw,rw'⟩:=r.get hy
 refine call_meets F.slot_list_pop ⟨_,e,rfl⟩ F.entry_list_pop (F.args_list_pop_2 _ _)
  (MeetsSeq.list_pop_at l its.toArray n i t k w (fitsIndex_both h1 h2) (by rw[bT,<-hl];exact hk) (by rw[<-gz];exact hw) (by rw[bT];omega)) ⟨e,?_⟩
 refine⟨y,_,I.qO (its':=its.eraseIdx k) hH e ?_ (r.eraseIdx k) ?_,rw',q⟩
 ·show its.toArray.eraseIdxIfInBounds k=(its.eraseIdx k).toArray
  rw[Af]
 ·have:=FL xs k
  omega
def uD:R2:=fun x y H Q=>∃l b xs zs,x= .ref l/\y= .ref b/\H l=some (.lst xs)/\H b=some (.lst zs)/\xs.length+zs.length<=sizeLine/\∀p,H p=none->Q (.ref p) (upd H p (.lst (xs++zs)))
theorem uR:dz X (binaryOp .Add) uD:=by
 intro pins s σ H x y v u Q I rx ry h
 obtain⟨l,b,xs,zs,rfl,rfl,hH,hB,hz,q⟩:=h
 cases rx
 cases ry
 obtain⟨z,its,n,r,hl,e⟩:=I.k9 hH
 obtain⟨z2,its2,n2,r2,hl2,e2⟩:=I.k9 hB
 refine PySem.P.add_list e e2 ?_ (by rw[bT,bT];omega)
 have ea:its.toArray++its2.toArray=(its++its2).toArray:=by simp
 rw[ea]
 exact⟨.ref _,_,I.Ex (t':=s.toks) (r.append r2) (by rw[bR];omega),rfl,q _ I.fresh⟩
end
end L2
namespace Att
open PySem PySem.W PySem.Calls PyProof.Rows
theorem Rk{P:Params}{h:Heap}:∀(ns:List Int) (vs:List Value),WellAll P h vs (ns.map WData.int)->IntsAre vs ns:=by
  intro ns
  induction ns with
  | nil =>
    intro vs w
    rw[k7] at w
    cases w
    exact .nil
  | cons n ns ih =>
    intro vs w
    rw[aZ] at w
    cases w with
    | cons a b =>
      cases a
      exact .cons _ _ (ih _ b)
theorem IT{l:OpenLaw}{n:Nat}(hn:l.most=some n){P:Params}{h:Heap}{args:List WData}{vals:List Value}
    (hpre:l.row.toRowW.claim.pre args=true) (hwl:WellAll P h vals args):
    ∃a vs ns,vals=[Value.ref a]/\args=[WData.list (ns.map WData.int)]/\h.get? a=some {cls:= .type "list",data:= .seq vs.toArray}/\IntsAre vs ns/\ns.length<=n:=by
  have hsh:WShape.hasAll [] args [.list .int]=true:=(pre_splitW hpre).1
  have hc:l.pre.holds [] {args:=args}=true:=(pre_splitW hpre).2
  obtain⟨d,r,rfl,h1,h2⟩:=hasAllW_cons hsh
  obtain rfl:=hasAllW_nil h2
  obtain⟨xs,rfl,h3⟩:=hasW_list h1
  obtain⟨ns,rfl⟩:=items_int h3
  have hlen:ns.length<=n:=by
    unfold OpenLaw.pre at hc
    have h4:(WTm.not (.lt (.lit (.int (n:Int))) (.len (.arg 0)))).holds [] {args:=[.list (ns.map .int)]}=true:=by
      have h4:=(holds_andW hc).1
      rw[hn] at h4
      exact h4
    have h5:=condW_of h4 (w_not (w_lt w_lit (w_len_list (w_arg rfl))))
    rw[ak] at h5
    refine zq fun q=>?_
    have q':(n:Int)<((ns.length:Nat):Int):=by omega
    first
      |(rw[decide_eq_true q'] at h5;exact absurd h5 (by decide))
      |(simp at h5;omega)
  cases hwl with
  | cons w1 w2 =>
    cases w2
    cases w1 with
    |list ho hall=>exact⟨_,_,ns,rfl,rfl,ho,Rk ns _ hall,hlen⟩
theorem Qg(l:OpenLaw)(args:List WData):l.row.toRowW.claim.post args (.bool true) args=true:=
 postW_of (r:=l.row.toRowW) (X:=(true==true))
  (show WShape.has [] (.bool true) .bool=true by first|rfl|decide|simp[WShape.has,WShape.arms,WShape.armsAll])
  (show(WTm.eq .res (.lit (.bool true))).value [] {args:=args,res:=some (.bool true),after:=args}=some (.bool (true==true)) from w_eq_bool (w_res rfl) w_lit) rfl
theorem Lz{l:OpenLaw}{n:Nat}{q:Program}{loose:List Str}{XP:(Str->Option Value)->Heap->Prop}{YP:World->Heap->Prop}{d:DefRec}
  (hn:l.most=some n) (hdf:d.params.defaults=[])
  (call : ∀ (w : World) (s₀ s₁ : Shared) (mg mb : Str -> Option Value) (fa : Addr) (o : Obj) (pm cd doc : Value) (a : Addr) (vs : List Value) (ns : List Int),
   Ground q loose [] XP w s₀ mg mb s₁.heap->YP w s₁.heap->
   s₁.heap.get? fa=some o->o.data= .func (docDef d.name d.params d.body d.scope pm cd doc)->s₁.heap.CodeRec cd d.name->mg d.name=some (.ref fa)->
   s₁.heap.get? a=some {cls:= .type "list",data:= .seq vs.toArray}->IntsAre vs ns->ns.length<=n->s₁.gens= #[]->
   codeAny (model l.prog w) callerA (.call (.ref fa) ⟨[.ref a],[]⟩) (fun r s'=>r= .ok (.ret (.bool true))/\OldK s₁.heap s'.heap/\s'.os=s₁.os/\AllBare s'.gens) s₁):
  WalkO q loose XP YP l.row.toRowW d [] (fun f vs=>PySem.call f vs):=by
 intro w s₀ s₁ mg mb G Y fa o pm cd doc dV kV ho hd hcd hD hmg hg args vals as hpre hlay hrd hwl hlo
 obtain rfl:dV= .none:=Dflts.none hD hdf
 obtain rfl:kV= .none:=Dflts.noKw hD
 obtain⟨a,vs,ns,rfl,rfl,hobj,hints,hlen⟩:=IT hn hpre hwl
 refine enter_call (codeAny_mono (call w s₀ s₁ mg mb fa o pm cd doc a vs ns G Y ho (fd_plain hd) hcd hmg hobj hints hlen hg) fun r s' hq=>?_)
 obtain⟨rfl,h2,h3,h4⟩:=hq
 exact⟨.inl ⟨.bool true, .bool true,[],rfl,fun _=>rfl, .bool true,Qg l _,fun _=>⟨List.Pairwise.nil,fun _ hm=>(nomatch hm)⟩⟩,h2,h3,h4⟩
section
variable{prog:Program}{w:World}{A:Around}{E:Value->Shared->Prop}{s:Shared}{K:Frag}
def ledger(h:Heap)(L d:Addr):List (Addr×Obj):=(List.range h.objs.size).filterMap fun a=>if a=L\/a=d then none else(h.get? a).map fun o=>(a,o)
end
end Att
namespace L2
open PySem PySem.Spec PyProof.Rows
theorem Ht:∀{vs:List Value} {ns:List Int},IntsAre vs ns->Vals (ns.map V.int) vs
 |_,_, .nil=> .nil
 |_,_, .cons n t h=> .cons ⟨t,rfl⟩ (Ht h)
def xP(H:Hp):Prop:=∀b,H b=none\/∃o xs,H b=some (.fS o (.lst xs))
theorem J2{P:Program}{w:World}{K:PySem.W.Frag}{mg mb:Str->Option Value}{CX:jZ}{k:Nat}{fa a:Addr}{fd:FuncData}{x:Str}{sp:Sp}{s₁:Shared}{vs:List Value}{ns:List Int}
    (KX:K.In s₁.heap) (hns:s₁.heap.Ns mainGlobals mg) (hb:s₁.heap.Ns builtinsNs mb) (nu:∀x:Str,x≠"__name__" ->mb x=bootBuiltins x) (hlim:s₁.heap.NoLimit) (hg:s₁.gens= #[])
    (ha:s₁.heap.get? a=some {cls:= .type "list",data:= .seq vs.toArray}) (hi:IntsAre vs ns) (hl:ns.length<=sizeLine) (hr:fE k callerA)
    (F:∀base:Heap,K.In base->base.Ns mainGlobals mg->cI P w K mg base CX k fa fd [x] sp) (hbind:∀(s:Shared) (u:Value),BindsTo s fd ⟨[u],[]⟩ [(x,u)])
    (lq:∀H:Hp,xP H->aF K H a (ns.map V.int)->sp [.ref a] H (fun v _=>v= .bl true) fun _ _ _=>False)
    (yo:∀H e s',CX [] H s₁ (fun _ _ _=>False) e s'->False):
    codeAny (model P w) callerA (.call (.ref fa) ⟨[.ref a],[]⟩) (fun r s'=>r= .ok (.ret (.bool true))/\OldK s₁.heap s'.heap/\s'.os=s₁.os/\AllBare s'.gens) s₁:=by
  have rv:=Ht hi
  have IW:=hi.length
  have core:∀H:Hp,xP H->aF K H a (ns.map V.int)->cM P w H s₁.heap->(∀b,H b≠none->b=a)->(H a≠none->K.lookup a=none)->
      codeAny (model P w) callerA (.call (.ref fa) ⟨[.ref a],[]⟩) (fun r s'=>r= .ok (.ret (.bool true))/\OldK s₁.heap s'.heap/\s'.os=s₁.os/\AllBare s'.gens) s₁:=by
    intro H hO hS hok hA hK
    have DS:∀{b:Addr} {o:Obj},s₁.heap.get? b=some o->H b=none->(ki s₁.heap H).get? b=some o:=fun e n=>MF e n
    have qS:∀{b:Addr} {o:Obj} {es:Array DictEntry} {ep:Nat},s₁.heap.get? b=some o->o.data= .dict es ep->H b=none:=fun{b o es ep} e d=>by
      cases q:H b with
      |none=>rfl
      | some u =>
        have e':b=a:=hA b (by rw[q];simp)
        subst e'
        rw[ha] at e;cases e
        have d':Data.seq vs.toArray _=Data.dict es ep:=d
        cases d'
    have tF:∀{b:Addr} {m:Str->Option Value},s₁.heap.Ns b m->(ki s₁.heap H).Ns b m:=fun{b m} ⟨o,es,ep,e,d,r⟩=>⟨o,es,ep,DS e (qS e d),d,r⟩
    have Eh:K.In (ki s₁.heap H):=fun b o e=>DS (KX b o e) (by
      cases q:H b with
      |none=>rfl
      | some u =>
        have e':b=a:=hA b (by rw[q];simp)
        subst e'
        rw[hK (by rw[q];simp)] at e;cases e)
    have hM:Mod K mg (ki s₁.heap H):=⟨Eh,tF hns,⟨mb,tF hb,nu⟩,let ⟨mc,h1,h2⟩:=hlim;⟨mc,tF h1,h2⟩⟩
    have e0:sR P w K mg (ki s₁.heap H) callerA [] s₁ H:=⟨rfl,hM,fun b o e=>Ma e,mQ (LM _ _),trivial,fun b hb=>absurd (show b∈([]:List Addr) from hb) (by simp),hok, .of_eq hg⟩
    refine codeAny_mono ((F _ Eh (tF hns)).run callerA [] s₁ H ⟨[.ref a],[]⟩ [.ref a] [.ref a] _ _ hr e0 (hbind s₁ (.ref a)) (.cons rfl .nil) (lq H hO hS)) fun r s' h=>?_
    cases r with
    |error e=>exact(yo H e s' h).elim
    | ok fl =>
      cases fl with
      |next=>exact False.elim h
      |brk=>exact False.elim h
      |cont=>exact False.elim h
      | ret u =>
        obtain⟨v,H',os,bare,un,OU,r',q⟩:=h
        have q':v= .bl true:=q
        subst q'
        obtain rfl:u=Value.bool true:=r'
        refine⟨rfl,OldK.of_keep fun b o e=>?_,os,bare⟩
        cases q:H b with
        |none=>exact un.keep b o e q (by intro z;exact absurd (show b∈([]:List Addr) from z) (by simp)) (by simp)
        | some u =>
          rcases hO b with z|⟨ob,xs,z⟩
          · rw[q] at z;cases z
          · have z2:=un.kh b ob _ z
            obtain⟨e1,_⟩:=hok b _ z
            obtain⟨e2,_⟩:=OU b _ z2
            rw[e] at e1;cases e1
            exact e2
  cases hk:K.lookup a with
  | some o =>
    have e:=KX a o hk
    rw[ha] at e
    cases e
    refine core (fun _=>none) (fun _=> .inl rfl) (.inr ⟨_,vs.toArray,_,hk,rfl,rfl,rfl,by rw[bT,IW];exact hl,by simpa using rv⟩) (fun b u z=>by have z':(none:Option HO)=some u:=z;cases z') (fun b z=>absurd rfl z) fun z=>absurd rfl z
  | none =>
    refine core (fun b=>if b=a then some (.fS {cls:= .type "list",data:= .seq vs.toArray} (.lst (ns.map V.int))) else none) (fun b=>?_) (.inl (.inr ⟨{cls:= .type "list",data:= .seq vs.toArray},if_pos rfl⟩)) (fun b u z=>?_) (fun b z=>?_) fun _=>hk
    · by_cases hb:b=a
      · exact .inr ⟨_,_,if_pos hb⟩
      · exact .inl (if_neg hb)
    · by_cases hb:b=a
      · have z':=(if_pos hb).symm.trans z
        cases z'
        subst hb
        exact⟨ha,by rw[ak];exact hl,vs,_,rv,ha⟩
      · have z':=(if_neg hb).symm.trans z
        cases z'
    · by_cases hb:b=a
      · exact hb
      · exact absurd (if_neg hb) z
theorem ND{l:PySem.W.OpenLaw}{n k:Nat}{q:Program}{loose:List Str}{XP:(Str->Option Value)->Heap->Prop}{YP:World->Heap->Prop}{d:DefRec}{K:Params->PySem.W.Frag}{CX:World->jZ}{sp:World->Sp}{x:Str}
  (hn:l.most=some n) (hn2:n<=sizeLine) (hdf:d.params.defaults=[]) (hr:fE k callerA)
  (hY:∀(w:World) (h:Heap),YP w h->(K w.params).In h)
  (F : ∀ (w : World) (mg : Str -> Option Value) (fa : Addr) (h : Heap), (K w.params).In h -> h.Ns mainGlobals mg -> mg d.name = some (.ref fa) ->
   ∃fd:FuncData,(∀(s:Shared) (u:Value),BindsTo s fd ⟨[u],[]⟩ [(x,u)])/\
    ∀base:Heap,(K w.params).In base->base.Ns mainGlobals mg->cI l.prog w (K w.params) mg base (CX w) k fa fd [x] (sp w))
  (lq:∀(w:World) (H:Hp) (a:Addr) (ns:List Int),ns.length<=n->xP H->aF (K w.params) H a (ns.map V.int)->sp w [.ref a] H (fun v _=>v= .bl true) fun _ _ _=>False)
  (yo:∀(w:World) (H:Hp) (s:Shared) (e:Value) (s':Shared),CX w [] H s (fun _ _ _=>False) e s'->False):
  PySem.W.WalkO q loose XP YP l.row.toRowW d [] (fun f vs=>PySem.call f vs):=by
 refine Att.Lz hn hdf fun w s₀ s₁ mg mb fa o pm cd doc a vs ns G Y ho hd hcd hmg hobj hints hlen hg=>?_
 have KX:=hY w _ Y
 obtain⟨fd,hb,hF⟩:=F w mg fa _ KX G.T.g hmg
 exact J2 KX G.T.g G.T.b G.T.builtins G.T.nolimit hg hobj hints (cL hlen hn2) hr hF hb (fun H hO hS=>lq w H a ns hlen hO hS) fun H e s'=>yo w H s₁ e s'
end L2
/-THE LAST THEOREM (shape;LID,My.*are yours):
   My.Adr:a structure of the addresses that your layer names (classes,functions);My.Txt K t:a structure (Prop) of the equations over K;
   My.txt_mk:{K} {implicit addresses ..} (e1:nsIn K mainGlobals "law"=some (some (.ref f))) (e2:K.lookup f=some ⟨oc,od, .func (fnOf "law" "law" params body scope dV kV doc pm an cdv ct),sl⟩) (e3:codeIn K cdv "law"=true) .. :∃t,My.Txt K t
set_option maxRecDepth 100000 in
set_option maxHeartbeats 0 in
(the tactic k_is has no namespace:write k_is)-/
namespace L2
open PySem PySem.Spec PyProof.Rows
def nB(s:Stmt):Arguments:=match s with
 | .FunctionDef _ a _ _ _ _ _ _ _ _=>a
 |_=>{posonlyargs:=[],args:=[],vararg:=none,kwonlyargs:=[],kw_defaults:=[],kwarg:=none,defaults:=[]}
def lP(s:Stmt):List Stmt:=match s with
 | .FunctionDef _ _ b _ _ _ _ _ _ _=>b
 |_=>[]
def aO(s:Stmt):Scope:=match s with
 | .FunctionDef _ _ _ _ _ _ sc _ _ _=>sc
 |_=>{kind:= .function,names:=[],isGenerator:=false,isCoroutine:=false}
abbrev cP:jZ:=fun _ _ _ _ _ _=>False
abbrev E0:XK:=fun _ _ _=>False
theorem MU{X:Cx}:Passes cP X E0:=fun _ _ _ _ _ _ _ h=>h.elim
structure cQ(K:PySem.W.Frag)(x qual:Str)(st:Stmt)(f:Addr)(fd:FuncData):Prop where
 ex:∃(oc:Value) (od:Option Addr) (kV doc pm:Value) (an:Option Addr) (cdv ct:Value) (osl:Array (Option Value)),
  fd=PySem.W.fnOf x qual (nB st) (lP st) (aO st) .none kV doc pm an cdv ct/\K.lookup f=some ⟨oc,od, .func fd,osl⟩/\PySem.W.codeIn K cdv qual=true
 kp:PySem.W.keepIn K (.ref f)=true
section
variable{P:Program}{w:World}{K:PySem.W.Frag}{mg:Str->Option Value}{base:Heap}
theorem cQ.ok{x qual:Str}{st:Stmt}{f:Addr}{fd:FuncData}{N ps:List Str}{k:Nat}{sp:Sp}(F:cQ K x qual st f fd)(S:dR N ps (aO st))(len:∀vs H Q E,sp vs H Q E->vs.length=ps.length)
  (hbody : ∀ (cdv : Value) (A : Around) (outer : List Env) (s : Shared) (H : Hp) (vs : List V) (Q : VK) (E : XK), fE k (A.deeper (envOfC qual (aO st) s.heap.objs.size f cdv)) -> sp vs H Q E ->
   ∃t,iy (nG cP P w K mg base N qual (aO st) f cdv A outer s H E).uN (lP st) t/\t {nx:=fun _ H'=>Q .aG H',rt:=Q} (start N vs) H):cI P w K mg base cP (k+1) f fd ps sp:=by
 obtain⟨oc,od,kV,doc,pm,an,cdv,ct,osl,rfl,lk,hcd⟩:=F.ex
 refine MW lk hcd S len fun A outer s H vs Q E hr lq=>?_
 obtain⟨t,h,q⟩:=hbody cdv A outer s H vs Q E hr lq
 exact⟨t,h.uN,q⟩
theorem cQ.binds{x qual:Str}{st:Stmt}{f:Addr}{fd:FuncData}{ps:List Str}(F:cQ K x qual st f fd)
  (h:∀(kV doc pm:Value) (an:Option Addr) (cdv ct:Value) (us:List Value),us.length=ps.length->bindArgs (PySem.W.fnOf x qual (nB st) (lP st) (aO st) .none kV doc pm an cdv ct) ⟨us,[]⟩=pure (ps.zip us)):Binds K fd ps []:=by
 obtain⟨oc,od,kV,doc,pm,an,cdv,ct,osl,rfl,lk,hcd⟩:=F.ex
 exact .all (h kV doc pm an cdv ct)
theorem Cs{x qual:Str}{st:Stmt}{f:Addr}{oc:Value}{od an:Option Addr}{osl:Array (Option Value)}{kV doc pm cdv ct:Value}(l:K.lookup f=some ⟨oc,od, .func (PySem.W.fnOf x qual (nB st) (lP st) (aO st) .none kV doc pm an cdv ct),osl⟩)
  (c:PySem.W.codeIn K cdv qual=true) (k:PySem.W.keepIn K (.ref f)=true):cQ K x qual st f (PySem.W.fnOf x qual (nB st) (lP st) (aO st) .none kV doc pm an cdv ct):=⟨⟨oc,od,kV,doc,pm,an,cdv,ct,osl,rfl,l,c⟩,k⟩
end
theorem CJ{n:Nat}(h:n<=1000):n<sizeLine:=tR h (by decide)
section
variable{X:Cx}
theorem pv(i:Nat){x:Str}{pos:Pos}(hN:X.N[i]?=some x:=by rfl)(hv:AN X.env.scope x:=by first|exact Or.inl rfl|exact Or.inr (Or.inl rfl)|exact Or.inr (Or.inr rfl))(hd:(x==("__debug__":Str))=false:=by decide)
  (hcd:(x==("__classdict__":Str))=false:=by decide):PE X (.Name x pos) (bE i):=N3 hN hv hd hcd
end
theorem Gp{A B:Prop}(h:B):if false=true then A else B:=by
 rw[if_neg bz]
 exact h
theorem tu{A B:Prop}(h:A):if true=true then A else B:=by
 rw[if_pos rfl]
 exact h
theorem oG{c A B:Prop}[Decidable c](h1:c->A)(h2:¬c->B):if c then A else B:=by
 by_cases h:c
 ·rw[if_pos h]
  exact h1 h
 ·rw[if_neg h]
  exact h2 h
def cH(H H':Hp):Prop:=∀b o,H b=some o->H' b=some o
theorem cH.refl(H:Hp):cH H H:=fun _ _ h=>h
theorem cH.trans{H H1 H2:Hp}(a:cH H H1)(b:cH H1 H2):cH H H2:=fun c o h=>b c o (a c o h)
theorem cH.free{H H':Hp}(e:cH H H'){l:Addr}(h:H' l=Option.none):H l=Option.none:=by
  cases q:H l with
  |none=>rfl
  | some o =>
    rw[e l o q] at h
    cases h
theorem cH.seq{K:PySem.W.Frag}{H H':Hp}{a:Addr}{xs:List V}(e:cH H H')(h:aF K H a xs):aF K H' a xs:=by
 rcases h with (h|⟨o,h⟩)|h
 ·exact .inl (.inl (e _ _ h))
 ·exact .inl (.inr ⟨o,e _ _ h⟩)
 ·exact .inr h
end L2
set_option maxHeartbeats 1000000
namespace L2
open PySem PySem.Spec PyProof.Rows
def jH(cells:List (Str×Addr)):List (Str×NameKind)->List (Str×Addr)->List (Str×Addr)
 |[],acc=>acc
 |(n,k)::r,acc=>jH cells r (if k==NameKind.free then(match cells.lookup n with|some a=>(n,a)::acc|none=>acc) else acc)
theorem As{env:Env}{f:Str×NameKind->List (Str×Addr)->Sem (ForInStep (List (Str×Addr)))}
    (hf:∀x acc,f x acc=if(x.2==NameKind.free)=true then(do let a<-cellOf env x.1;pure (ForInStep.yield ((x.1,a)::acc))) else pure (ForInStep.yield acc)):
    ∀(l:List (Str×NameKind)) (acc:List (Str×Addr)),(∀x∈l,x.2= .free->∃a,env.cells.lookup x.1=some a)->(forIn l acc f:Sem (List (Str×Addr)))=pure (jH env.cells l acc)
  |[],acc,_=>by rw[List.forIn_nil];rfl
  | (n, k) :: r, acc, h => by
    have hr:=fun x hx=>h x (dN _ hx)
    rw[List.forIn_cons,hf]
    by_cases hk:(k==NameKind.free)=true
    · have hk':k=NameKind.free:=by simpa using hk
      obtain⟨a,ha⟩:=h (n,k) dB hk'
      have hc:cellOf env n=pure a:=by unfold cellOf;rw[ha]
      rw[if_pos hk,hc]
      show(forIn r ((n,a)::acc) f:Sem (List (Str×Addr)))=pure (jH env.cells r _)
      rw[As hf r _ hr,if_pos hk,ha]
    · rw[if_neg hk]
      show(forIn r acc f:Sem (List (Str×Addr)))=pure (jH env.cells r _)
      rw[As hf r _ hr,if_neg hk]
theorem OG{scope:Scope}{env:Env}(h:∀x∈scope.names,x.2= .free->∃a,env.cells.lookup x.1=some a):closureFor scope env=pure (jH env.cells scope.names []):=by
 simp only[closureFor]
 rw[As (env:=env) (fun⟨n,k⟩ acc=>by dsimp only) scope.names [] h]
 rfl
theorem oF{cells:List (Str×Addr)}:∀{l:List (Str×NameKind)} {acc:List (Str×Addr)} {x:Str} {c:Addr},(∀y d,acc.lookup y=some d->cells.lookup y=some d)->(jH cells l acc).lookup x=some c->cells.lookup x=some c
  |[],_,_,_,ha,h=>ha _ _ h
  | (n, k) :: r, acc, x, c, ha, h => by
    refine oF (l:=r) ?_ h
    intro y d hd
    by_cases hk:(k==NameKind.free)=true
    · rw[if_pos hk] at hd
      cases q:cells.lookup n with
      |none=>rw[q] at hd;exact ha _ _ hd
      | some a =>
        rw[q] at hd
        by_cases hy:(y==n)=true
        · have hy':y=n:=by simpa using hy
          subst hy'
          simp[bw] at hd
          rw[q,hd]
        · have hy':(y==n)=false:=by simpa using hy
          simp only[bw,hy'] at hd
          exact ha _ _ hd
    · rw[if_neg hk] at hd;exact ha _ _ hd
theorem BV{cells:List (Str×Addr)}:∀{l:List (Str×NameKind)} {acc:List (Str×Addr)} {x:Str},(acc.lookup x).isSome=true->((jH cells l acc).lookup x).isSome=true
  |[],_,_,h=>h
  | (n, k) :: r, acc, x, h => by
    refine BV (l:=r) ?_
    by_cases hk:(k==NameKind.free)=true
    · rw[if_pos hk]
      cases q:cells.lookup n with
      |none=>exact h
      | some a =>
        by_cases hy:(x==n)=true
        · simp[bw,hy]
        · have hy':(x==n)=false:=by simpa using hy
          simp only[bw,hy']
          exact h
    · rw[if_neg hk];exact h
theorem Hu{cells:List (Str×Addr)}:∀{l:List (Str×NameKind)} {acc:List (Str×Addr)} {x:Str} {a:Addr},(x,NameKind.free)∈l->cells.lookup x=some a->((jH cells l acc).lookup x).isSome=true
  |[],_,_,_,h,_=>nomatch h
  | (n, k) :: r, acc, x, a, h, hc => by
    rcases bQ.mp h with e|h
    · obtain⟨rfl,rfl⟩:=Prod.mk.inj e
      refine BV (l:=r) ?_
      rw[if_pos (by decide),hc]
      simp[bw]
    · exact Hu (l:=r) h hc
theorem Ea{cells:List (Str×Addr)}{l:List (Str×NameKind)}{x:Str}{a:Addr}(h:(x,NameKind.free)∈l)(hc:cells.lookup x=some a):(jH cells l []).lookup x=some a:=by
 obtain⟨c,e⟩:=sZ.mp (Hu (acc:=[]) h hc)
 have:=oF (fun y d (q:([]:List (Str×Addr)).lookup y=some d)=>by simp at q) e
 rw[hc] at this;cases this
 exact e
theorem MN{env:Env}:∀{l:List (Str×NameKind)} {x:Str} {k:NameKind},(∀y∈l,y.2≠ .cell)->
    (l.map fun(n,k)=>if(k==NameKind.free && env.scope.kind== .function && env.kindOf n==some .cell) then(n,NameKind.cell) else(n,k)).lookup x=some k->k= .cell\/k= .free->l.lookup x=some .free
  |[],_,_,_,h,_=>by simp at h
  | (n, q) :: r, x, k, hc, h, hk => by
    have hr:=fun y hy=>hc y (dN _ hy)
    have ih:=MN (env:=env) (l:=r) (x:=x) (k:=k) hr
    rw[aZ] at h
    dsimp only at h
    by_cases hx:(x==n)=true
    · simp only[bw,hx]
      by_cases hq:(q==NameKind.free && env.scope.kind== .function && env.kindOf n==some .cell)=true
      · have:q= .free:=by
          simp only[cV] at hq
          simpa using hq.1.1
        rw[this]
      · rw[if_neg hq] at h
        simp only[bw,hx] at h
        have qC:q=k:=eS h
        rcases hk with e|e
        · exact absurd (qC.trans e) (hc (n,q) dB)
        · rw[qC,e]
    · have hx':(x==n)=false:=by simpa using hx
      simp only[bw,hx']
      refine ih ?_ hk
      by_cases hq:(q==NameKind.free && env.scope.kind== .function && env.kindOf n==some .cell)=true
      · rw[if_pos hq] at h
        simp only[bw,hx'] at h
        exact h
      · rw[if_neg hq] at h
        simp only[bw,hx'] at h
        exact h
theorem Bs{env:Env}:∀{l:List (Str×NameKind)} {x:Str},l.lookup x=some .free->
    (l.map fun(n,k)=>if(k==NameKind.free && env.scope.kind== .function && env.kindOf n==some .cell) then(n,NameKind.cell) else(n,k)).lookup x=some .cell\/
    (l.map fun(n,k)=>if(k==NameKind.free && env.scope.kind== .function && env.kindOf n==some .cell) then(n,NameKind.cell) else(n,k)).lookup x=some .free
  |[],_,h=>by simp at h
  | (n, q) :: r, x, h => by
    have ih:=Bs (env:=env) (l:=r) (x:=x)
    rw[aZ]
    dsimp only
    by_cases hx:(x==n)=true
    · simp only[bw,hx] at h
      by_cases hq:(q==NameKind.free && env.scope.kind== .function && env.kindOf n==some .cell)=true
      · rw[if_pos hq]
        left
        simp only[bw,hx]
      · rw[if_neg hq]
        right
        simp only[bw,hx]
        exact h
    · have hx':(x==n)=false:=by simpa using hx
      simp only[bw,hx'] at h
      have:=ih h
      by_cases hq:(q==NameKind.free && env.scope.kind== .function && env.kindOf n==some .cell)=true
      · rw[if_pos hq]
        simp only[bw,hx']
        exact this
      · rw[if_neg hq]
        simp only[bw,hx']
        exact this
def Sf(sx:Scope)(NX:List Str)(scope:Scope)(N:List Str)(mp:List (Option Nat)):Bool:=
 (scope.kind== .function) && scope.names.all (fun y=>y.2 != .cell) && scope.names.all (fun y=>y.2 != .local||scope.names.lookup y.1==some .local) &&
 scope.names.all (fun y=>y.2 != .free||sx.names.lookup y.1==some .cell||sx.names.lookup y.1==some .free) &&(mp.length==N.length) &&
 ((N.zip mp).all fun p=>match p.2 with|none=>true|some j=>NX[j]?==some p.1 && scope.names.lookup p.1==some .free)
def eL(mp:List (Option Nat))(σ:St):St:=mp.map fun o=>match o with|none=>none|some j=>match σ[j]? with|some v=>v|none=>none
def o4(X:Cx)(ifs:List Expr)(t:TT):Prop:=
 ∀(pins:List (Addr×Obj)) (s:Shared) (σ:St) (H:Hp) (Q:Bool->Hp->Prop),Inv X pins σ H s->t σ H Q->
  wpAny (model X.prog X.w) X.A (forIn ifs true fun c r=>if r=true then do let ok<-isTrue c X.env (eval c X.env);pure (ForInStep.yield ok) else pure (ForInStep.yield r)) (TP X pins σ Q) X.xe s
def kc:TT:=fun _ H Q=>Q true H
theorem gU{X:Cx}:o4 X [] kc:=fun pins s σ H Q I h=>wpAny_tests_nil ⟨H,I,h⟩
theorem gR{X:Cx}{c:Expr}{t:TT}(h:PT X c t):o4 X [c] t:=fun pins s σ H Q I q=>wpAny_tests_one (h pins s σ H Q I q)
def o5(J:It)(g:TG)(tc:TT)(te:TE)(acc:Addr)(Qe:Hp->Prop)(σ:St)(H:Hp):Prop:=∃W:Nat->Nat->St->Hp->Prop,(∃m,W 0 m σ H)/\∀i m σ H,W i m σ H->
 (J.stop i H /\ Qe H) \/ (J.go i H /\ ∃ Nx : St -> Hp -> Prop, (∀ σ' H', Nx σ' H' -> ∃ m', m' < m /\ W (i + 1) m' σ' H') /\ ∀ x H', J.lG i H x H' -> g x σ H' fun σ2 H2 => tc σ2 H2 fun b H3 =>
  if b=true then te σ2 H3 fun v H4=>∃ys,H4 acc=some (.lst ys)/\ys.length<sizeLine/\Nx σ2 (upd H4 acc (.lst (ys++[v]))) else Nx σ2 H3)
def jm(wi:TI)(g:TG)(tc:TT)(te:TE)(mp:List (Option Nat)):TE:=fun σ H Q=>wi σ H fun J H1=>∀acc,H1 acc=none->o5 J g tc te acc (fun H'=>Q (.ref acc) H') (eL mp σ) (upd H1 acc (.lst []))
section
variable{prog:Program}{w:World}{A:Around}{R:Result->Shared->Prop}{s:Shared}
theorem NN{elt target iter:Expr}{ifs:List Expr}{scope:Scope}{pos:Pos}{it acc:Value}{env:Env}(I:Nat->Shared->Prop)
    (turn:∀n s,I n s->wpAny (model prog w) A (pyNext it) (fun r s₁=>match r with
      |none=>R (.ok .next) s₁
      |some v=>wpAny (model prog w) A (letOwnedTupleGo target it v) (fun _ s₀=>wpAny (model prog w) A (assign target env v) (fun _ s₂=>
          wpAny (model prog w) A (forIn ifs true fun c r=>if r=true then do let ok<-isTrue c env (eval c env);pure (ForInStep.yield ok) else pure (ForInStep.yield r)) (fun ok s₃=>
            if ok=true then wpAny (model prog w) A (eval elt env) (fun x s₄=>
              wpAny (model prog w) A (call (.builtin "list.append") [acc,x]) (fun _ s₅=>∃m,m<n/\I m s₅) (fun _ _=>False) s₄) (fun _ _=>False) s₃
            else∃m,m<n/\I m s₃) (fun _ _=>False) s₂) (fun _ _=>False) s₀) (fun _ _=>False) s₁) (fun _ _=>False) s)
    (n:Nat) (h:I n s):
    codeAny (model prog w) A (.compLoop (.ListComp elt [⟨target,iter,ifs,0⟩] scope pos) 0 it acc env) R s:=by
  refine codeAny_loop rfl I (fun n s hI=>?_) n h
  show wpAny _ A ((compTurn (.ListComp elt [⟨target,iter,ifs,0⟩] scope pos) 0 it acc env).onRaise (fun x=>do noteFrame x env;theTreesLotGoes x)) _ _ s
  refine wpAny_noted ?_
  rw[compTurn_list]
  refine wpAny_bind (wpAny_standAt (wpAny_bind (wpAny_mono (turn n s hI) (fun r s₁ h₁=>?_) fun _ _ h'=>h'.elim)))
  cases r with
  |none=>exact wpAny_pure h₁
  | some v =>
    refine wpAny_bind (wpAny_mono h₁ (fun _ s₀ h₀=>?_) fun _ _ h'=>h'.elim)
    refine wpAny_bind (wpAny_mono h₀ (fun _ s₂ h₂=>wpAny_bind (wpAny_mono h₂ (fun ok s₃ h₃=>?_) fun _ _ h'=>h'.elim)) fun _ _ h'=>h'.elim)
    cases ok with
    |false=>exact wpAny_pure ⟨rfl,h₃⟩
    | true =>
      exact wpAny_bind (wpAny_bind (wpAny_mono h₃ (fun x s₄ h₄=>wpAny_bind (wpAny_mono h₄ (fun _ s₅ h₅=>wpAny_pure (wpAny_pure ⟨rfl,h₅⟩)) fun _ _ h'=>h'.elim)) fun _ _ h'=>h'.elim))
end
section
variable{X:Cx}
theorem gV.turned{pins:List (Addr×Obj)}{s:Shared}{σ:St}{H:Hp}{C:Addr}{h':Heap}(I:Inv X pins σ H s)(f:gV X pins H C)(hs:Heap.SameBut C s.heap h'):Inv X pins σ H {s with heap:=h'}:=
 I.turned (t':=s.toks) (fun b o hb e=>(hs.2 b hb).trans e) f.1 f.2.1 f.2.2.2.1 f.2.2.2.2.1 f.2.2.2.2.2
def qL(i:Nat)(t:TE):TS:=fun D σ H=>t σ H fun v H'=>D.nx (σ.set i (some v)) H'
end
def Sm(i:Int):Prop:= -(2^300)<i/\i<2^300
theorem FD{i:Int}(h:Sm i):Builtin.Int.intBits i<=2^20:=by
 obtain⟨h1,h2⟩:=h
 unfold Builtin.Int.intBits
 split
 ·exact eg _
 ·rename_i h0
  have hn:i.natAbs≠0:=by
   intro e
   apply h0
   simp
   omega
  have h3:i.natAbs<2^300:=by omega
  have h4:i.natAbs.log2<300:=(Nat.log2_lt hn).mpr h3
  have:(2:Nat)^20=1048576:=by decide
  omega
theorem Qf{x y:Int}(h:Sm y):Builtin.divisionGoesByPylong x y=false:=by
 refine PyProof.noPylong_of_log2 ?_
 obtain⟨h1,h2⟩:=h
 by_cases h0:y.natAbs=0
 ·rw[h0];decide+kernel
 ·have h3:y.natAbs<2^300:=by omega
  have h4:y.natAbs.log2<300:=(Nat.log2_lt h0).mpr h3
  omega
section
variable{X:Cx}
theorem qE:dz X (binaryOp .FloorDiv) (rI (fun _ j=>0<j/\Sm j) fun i j=> .int (i/j)):=se fun i j _ _ _ _ _ hc q=>
 floordiv_int (by omega) (by rw[Int.fdiv_eq_ediv_of_nonneg _ (by omega)];exact q) (.inl (Qf hc.2))
def jS(K:PySem.W.Frag):List V->Hp->VK->Prop:=fun xs H Q=>∃x T t b,xs=[x, .ty T]/\gK K H x t/\PySem.W.kitOne K t (.type T)=some b/\Q (.bl b) H
theorem lu:eF X (.builtin "isinstance") (jS X.K):=by
 intro pins s σ H xs us Q I rv h
 obtain⟨x,T,t,b,rfl,ty,e,q⟩:=h
 obtain⟨u,v,rfl,ru,rv⟩:=rv.two
 cases (show v=Value.type T from rv)
 exact Po I ru ty e fun tk=>⟨.bl b,H,I.tok tk,rfl,q⟩
def pK:PyData->Key->Prop
 | .int i,k=>k= .inl i
 | .str x,k=>k= .inr x
 |_,_=>False
mutual
def ah(nb:Addr->Prop)(H:Hp):PyData->V->Prop
 | .none,v=>v= .aG
 | .bool b,v=>v= .bl b
 | .int i,v=>v= .int i
 | .str x,v=>v= .str x
 | .list ds,v=>∃a xs,v= .ref a/\¬nb a/\H a=some (.lst xs)/\af nb H ds xs
 | .tuple ds,v=>∃a xs,v= .ref a/\¬nb a/\H a=some (.tup xs)/\af nb H ds xs
 | .dict kvs,v=>∃a ps,v= .ref a/\¬nb a/\Rd H a (.dK ps)/\au nb H kvs ps
termination_by structural d=>d
def af(nb:Addr->Prop)(H:Hp):List PyData->List V->Prop
 |[],xs=>xs=[]
 |d::ds,xs=>∃y ys,xs=y::ys/\ah nb H d y/\af nb H ds ys
termination_by structural d=>d
def au(nb:Addr->Prop)(H:Hp):List (PyData×PyData)->List (Key×V)->Prop
 |[],xs=>xs=[]
 |d::ds,xs=>∃p ys,xs=p::ys/\bI nb H d p/\au nb H ds ys
termination_by structural d=>d
def bI(nb:Addr->Prop)(H:Hp):PyData×PyData->Key×V->Prop
 |(k,d),p=>pK k p.1/\ah nb H d p.2
termination_by structural d=>d
end
def aI(nb:Addr->Prop)(H H':Hp):Prop:=∀a o,¬nb a->H a=some o->H' a=some o
def Nb(b:Addr):Addr->Prop:=fun a=>a=b
section
variable{nb bU:Addr->Prop}{H H1 H2 H':Hp}{a b c p:Addr}{o:HO}{xs:List V}
theorem aI.refl(nb:Addr->Prop)(H:Hp):aI nb H H:=fun _ _ _ h=>h
theorem aI.trans(x:aI nb H H1)(y:aI nb H1 H2):aI nb H H2:=fun a o n h=>y a o n (x a o n h)
theorem aI.of(x:cH H H'):aI nb H H':=fun a o _ h=>x a o h
theorem aI.set(h:nb p):aI nb H (upd H p o):=fun a u n q=>by rw[aH (fun e=>n (by rw[e];exact h))];exact q
theorem aI.rd{u:HO}(x:aI nb H H')(n:¬nb a)(h:Rd H a u):Rd H' a u:=by
 rcases h with h|⟨o,h⟩
 ·exact .inl (x _ _ n h)
 ·exact .inr ⟨o,x _ _ n h⟩
end
mutual
theorem ah.keep{nb:Addr->Prop}{H H':Hp}(x:aI nb H H'):∀{d:PyData} {v:V},ah nb H d v->ah nb H' d v
 | .none,_,h=>by unfold ah at h⊢;exact h
 | .bool _,_,h=>by unfold ah at h⊢;exact h
 | .int _,_,h=>by unfold ah at h⊢;exact h
 | .str _,_,h=>by unfold ah at h⊢;exact h
 | .list ds,_,h=>by unfold ah at h⊢;obtain⟨a,xs,e,n,s,r⟩:=h;exact⟨a,xs,e,n,x _ _ n s,af.keep x r⟩
 | .tuple ds,_,h=>by unfold ah at h⊢;obtain⟨a,xs,e,n,s,r⟩:=h;exact⟨a,xs,e,n,x _ _ n s,af.keep x r⟩
 | .dict kvs,_,h=>by unfold ah at h⊢;obtain⟨a,xs,e,n,s,r⟩:=h;exact⟨a,xs,e,n,x.rd n s,au.keep x r⟩
theorem af.keep{nb:Addr->Prop}{H H':Hp}(x:aI nb H H'):∀{ds:List PyData} {vs:List V},af nb H ds vs->af nb H' ds vs
 |[],_,h=>by unfold af at h⊢;exact h
 |d::ds,_,h=>by unfold af at h⊢;obtain⟨y,ys,e,h1,h2⟩:=h;exact⟨y,ys,e,ah.keep x h1,af.keep x h2⟩
theorem au.keep{nb:Addr->Prop}{H H':Hp}(x:aI nb H H'):∀{ds:List (PyData×PyData)} {vs:List (Key×V)},au nb H ds vs->au nb H' ds vs
 |[],_,h=>by unfold au at h⊢;exact h
 |d::ds,_,h=>by unfold au at h⊢;obtain⟨y,ys,e,h1,h2⟩:=h;exact⟨y,ys,e,bI.keep x h1,au.keep x h2⟩
theorem bI.keep{nb:Addr->Prop}{H H':Hp}(x:aI nb H H'):∀{d:PyData×PyData} {v:Key×V},bI nb H d v->bI nb H' d v
 |(k,d),_,h=>by unfold bI at h⊢;exact⟨h.1,ah.keep x h.2⟩
end
mutual
theorem ah.av{nb bU:Addr->Prop}{H:Hp}(x:∀a,bU a->nb a):∀{d:PyData} {v:V},ah nb H d v->ah bU H d v
 | .none,_,h=>by unfold ah at h⊢;exact h
 | .bool _,_,h=>by unfold ah at h⊢;exact h
 | .int _,_,h=>by unfold ah at h⊢;exact h
 | .str _,_,h=>by unfold ah at h⊢;exact h
 | .list ds,_,h=>by unfold ah at h⊢;obtain⟨a,xs,e,n,s,r⟩:=h;exact⟨a,xs,e,fun z=>n (x a z),s,af.av x r⟩
 | .tuple ds,_,h=>by unfold ah at h⊢;obtain⟨a,xs,e,n,s,r⟩:=h;exact⟨a,xs,e,fun z=>n (x a z),s,af.av x r⟩
 | .dict kvs,_,h=>by unfold ah at h⊢;obtain⟨a,xs,e,n,s,r⟩:=h;exact⟨a,xs,e,fun z=>n (x a z),s,au.av x r⟩
theorem af.av{nb bU:Addr->Prop}{H:Hp}(x:∀a,bU a->nb a):∀{ds:List PyData} {vs:List V},af nb H ds vs->af bU H ds vs
 |[],_,h=>by unfold af at h⊢;exact h
 |d::ds,_,h=>by unfold af at h⊢;obtain⟨y,ys,e,h1,h2⟩:=h;exact⟨y,ys,e,ah.av x h1,af.av x h2⟩
theorem au.av{nb bU:Addr->Prop}{H:Hp}(x:∀a,bU a->nb a):∀{ds:List (PyData×PyData)} {vs:List (Key×V)},au nb H ds vs->au bU H ds vs
 |[],_,h=>by unfold au at h⊢;exact h
 |d::ds,_,h=>by unfold au at h⊢;obtain⟨y,ys,e,h1,h2⟩:=h;exact⟨y,ys,e,bI.av x h1,au.av x h2⟩
theorem bI.av{nb bU:Addr->Prop}{H:Hp}(x:∀a,bU a->nb a):∀{d:PyData×PyData} {v:Key×V},bI nb H d v->bI bU H d v
 |(k,d),_,h=>by unfold bI at h⊢;exact⟨h.1,ah.av x h.2⟩
end
mutual
theorem ah.fresh{nb:Addr->Prop}{H:Hp}{p:Addr}(hp:H p=none):∀{d:PyData} {v:V},ah nb H d v->ah (fun a=>nb a\/a=p) H d v
 | .none,_,h=>by unfold ah at h⊢;exact h
 | .bool _,_,h=>by unfold ah at h⊢;exact h
 | .int _,_,h=>by unfold ah at h⊢;exact h
 | .str _,_,h=>by unfold ah at h⊢;exact h
 | .list ds,_,h=>by unfold ah at h⊢;obtain⟨a,xs,e,n,s,r⟩:=h;exact⟨a,xs,e,fun z=>z.elim n (g7 s hp),s,af.fresh hp r⟩
 | .tuple ds,_,h=>by unfold ah at h⊢;obtain⟨a,xs,e,n,s,r⟩:=h;exact⟨a,xs,e,fun z=>z.elim n (g7 s hp),s,af.fresh hp r⟩
 | .dict kvs,_,h=>by unfold ah at h⊢;obtain⟨a,xs,e,n,s,r⟩:=h;exact⟨a,xs,e,fun z=>z.elim n (s.elim (fun s=>g7 s hp) fun⟨_,s⟩=>g7 s hp),s,au.fresh hp r⟩
theorem af.fresh{nb:Addr->Prop}{H:Hp}{p:Addr}(hp:H p=none):∀{ds:List PyData} {vs:List V},af nb H ds vs->af (fun a=>nb a\/a=p) H ds vs
 |[],_,h=>by unfold af at h⊢;exact h
 |d::ds,_,h=>by unfold af at h⊢;obtain⟨y,ys,e,h1,h2⟩:=h;exact⟨y,ys,e,ah.fresh hp h1,af.fresh hp h2⟩
theorem au.fresh{nb:Addr->Prop}{H:Hp}{p:Addr}(hp:H p=none):∀{ds:List (PyData×PyData)} {vs:List (Key×V)},au nb H ds vs->au (fun a=>nb a\/a=p) H ds vs
 |[],_,h=>by unfold au at h⊢;exact h
 |d::ds,_,h=>by unfold au at h⊢;obtain⟨y,ys,e,h1,h2⟩:=h;exact⟨y,ys,e,bI.fresh hp h1,au.fresh hp h2⟩
theorem bI.fresh{nb:Addr->Prop}{H:Hp}{p:Addr}(hp:H p=none):∀{d:PyData×PyData} {v:Key×V},bI nb H d v->bI (fun a=>nb a\/a=p) H d v
 |(k,d),_,h=>by unfold bI at h⊢;exact⟨h.1,ah.fresh hp h.2⟩
end
mutual
theorem ah.reads{pins:List (Addr×Obj)}{σ:St}{H:Hp}{s:Shared}{nb:Addr->Prop}(I:Inv X pins σ H s):∀{d:PyData} {v:V} {u:Value},ah nb H d v->RelV v u->d.canLay0=true->∃as,Reads s.heap u d as
  | .none,_,_,h,r,_=>by unfold ah at h;subst h;cases r;exact⟨_, .none⟩
  | .bool _,_,_,h,r,_=>by unfold ah at h;subst h;cases r;exact⟨_, .bool _⟩
  | .int _,_,_,h,r,_=>by unfold ah at h;subst h;obtain⟨t,rfl⟩:=r;exact⟨_, .int _ _⟩
  | .str _,_,_,h,r,_=>by unfold ah at h;subst h;obtain⟨t,rfl⟩:=r;exact⟨_, .str _ _⟩
  | .list ds, _, _, h, r, hc0 => by
    unfold ah at h
    obtain⟨a,xs,rfl,n,s,q⟩:=h
    cases r
    obtain⟨its,rv,p,hz⟩:=I.list (aF.of s)
    obtain⟨as,ra⟩:=af.reads I q rv (by simpa only[PyData.canLay0] using hc0)
    obtain⟨o,ho,hc,m,hd⟩:=p.isList
    exact⟨_, .list ho hc hd (by simpa using ra)⟩
  | .tuple ds, _, _, h, r, hc0 => by
    unfold ah at h
    obtain⟨a,xs,rfl,n,s,q⟩:=h
    cases r
    obtain⟨its,rv,p,hz⟩:=I.tuple (fU.of s)
    obtain⟨as,ra⟩:=af.reads I q rv (by simpa only[PyData.canLay0] using hc0)
    obtain⟨o,ho,hc,m,hd⟩:=p
    exact⟨_, .tuple ho hc hd (by simpa using ra)⟩
  | .dict _,_,_,h,r,hc0=>by simp[PyData.canLay0] at hc0
theorem af.reads{pins:List (Addr×Obj)}{σ:St}{H:Hp}{s:Shared}{nb:Addr->Prop}(I:Inv X pins σ H s):∀{ds:List PyData} {vs:List V} {us:List Value},af nb H ds vs->Vals vs us->PyData.canLayAll0 ds=true->∃as,ReadsAll s.heap us ds as
  |[],_,_,h,r,_=>by unfold af at h;subst h;cases r;exact⟨_, .nil⟩
  | d :: ds, _, _, h, r, hc0 => by
    rw[PyData.canLayAll0,cV] at hc0
    unfold af at h
    obtain⟨y,ys,rfl,h1,h2⟩:=h
    cases r with
    | cons r1 r2 =>
      obtain⟨as,q1⟩:=ah.reads I h1 r1 hc0.1
      obtain⟨bs,q2⟩:=af.reads I h2 r2 hc0.2
      exact⟨_, .cons q1 q2⟩
end
def Ag(neg:Bool):R2:=fun x y H Q=>∃nb d e,ah nb H d x/\ah nb H e y/\SeqAt.shaped d=true/\SeqAt.shaped e=true/\Q (.bl (PyData.eqv d e !=neg)) H
theorem Ak(hu:X.A.units+64<cLine):dz X (compareOp .Eq) (Ag false):=by
 intro pins s σ H x y v u Q I rx ry h
 obtain⟨nb,d,e,h1,h2,h3,h4,q⟩:=h
 obtain⟨as,r1⟩:=h1.reads I rx (mU h3)
 obtain⟨bs,r2⟩:=h2.reads I ry (mU h4)
 exact eq_dataH r1 r2 h3 h4 hu ⟨.bl _,H,I,rfl,by simpa using q⟩
theorem qD(hu:X.A.units+64<cLine):dz X (compareOp .NotEq) (Ag true):=by
 intro pins s σ H x y v u Q I rx ry h
 obtain⟨nb,d,e,h1,h2,h3,h4,q⟩:=h
 obtain⟨as,r1⟩:=h1.reads I rx (mU h3)
 obtain⟨bs,r2⟩:=h2.reads I ry (mU h4)
 exact ne_dataH r1 r2 h3 h4 hu ⟨.bl _,H,I,rfl,by simpa using q⟩
end
mutual
theorem eqv_refl:∀d:PyData,SeqAt.shaped d=true\/d.canLay0=true->PyData.eqv d d=true
  | .none,_=>by simp[PyData.eqv]
  | .bool _,_=>by simp[PyData.eqv]
  | .int _,_=>by simp[PyData.eqv]
  | .str _,_=>by simp[PyData.eqv]
  | .list ds, h => by
    have h':PyData.canLayAll0 ds=true:=by
      rcases h with h|h
      · have:=mU h;simpa[PyData.canLay0] using this
      · simpa[PyData.canLay0] using h
    simp only[PyData.eqv]
    exact eqvAll_refl ds h'
  | .tuple ds, h => by
    have h':PyData.canLayAll0 ds=true:=by
      rcases h with h|h
      · have:=mU h;simpa[PyData.canLay0] using this
      · simpa[PyData.canLay0] using h
    simp only[PyData.eqv]
    exact eqvAll_refl ds h'
  | .dict _, h => by
    rcases h with h|h
    · have:=mU h;simp[PyData.canLay0] at this
    · simp[PyData.canLay0] at h
theorem eqvAll_refl:∀ds:List PyData,PyData.canLayAll0 ds=true->PyData.eqvAll ds ds=true
  |[],_=>by simp[PyData.eqvAll]
  | d :: ds, h => by
    simp only[PyData.canLayAll0,cV] at h
    simp only[PyData.eqvAll,cV]
    exact⟨eqv_refl d (.inr h.1),eqvAll_refl ds h.2⟩
end
structure Callee(P:Program)(w:World)(K:PySem.W.Frag)(mg:Str->Option Value)(base:Heap)(x:Str)(k:Nat)(ps:List Str)(sp:Sp):Prop where
 ex:∃f fd,cI P w K mg base cP k f fd ps sp/\Binds K fd ps []/\PySem.W.keepIn K (.ref f)=true/\mg x=some (.ref f)
theorem aN{X:Cx}{x:Str}{k:Nat}{ps:List Str}{sp:Sp}{p pos:Pos}{e:Expr}{es:List Expr}{t:TA}(c:Callee X.prog X.w X.K X.mg X.base x k ps sp)(hr:fE k X.A)(ha:PA X (e::es) t)(hg:Gl X x:=by rfl)
  (hdb:(x==("__debug__":Str))=false:=by decide) (he:starEach (e::es) X.env=(false,eval e X.env)::starEach es X.env:=by rfl) (hpl:(backTo pos (starEach es X.env)).any (·.1)=false:=by rfl):
  PE X (.Call (.Name x p) (e::es) [] pos) (gb sp [] E0 t):=by
 obtain⟨f,fd,F,b,kp,m⟩:=c.ex
 exact LP F hr hg m kp b .nil MU ha hdb he hpl
theorem Callee.mk'{P:Program}{w:World}{K:PySem.W.Frag}{mg:Str->Option Value}{base:Heap}{x:Str}{st:Stmt}{k:Nat}{ps:List Str}{sp:Sp}{f:Addr}{fd:FuncData}(F:cQ K x x st f fd)(ok:cI P w K mg base cP k f fd ps sp)(b:Binds K fd ps [])
  (m:mg x=some (.ref f)):Callee P w K mg base x k ps sp:=⟨f,fd,ok,b,F.kp,m⟩
def bD(K:PySem.W.Frag)(x q:Str)(st:Stmt)(f:Addr):Prop:=PySem.W.nsIn K mainGlobals x=some (some (.ref f))/\∃fd,cQ K x q st f fd
theorem bD.mk{K:PySem.W.Frag}{x q:Str}{st:Stmt}{f:Addr}{oc:Value}{od an:Option Addr}{osl:Array (Option Value)}{kV doc pm cdv ct:Value}(a:PySem.W.nsIn K mainGlobals x=some (some (.ref f)))(l:K.lookup f=some ⟨oc,od, .func (PySem.W.fnOf x q (nB st) (lP st) (aO st) .none kV doc pm an cdv ct),osl⟩)
  (c:PySem.W.codeIn K cdv q=true) (k:PySem.W.keepIn K (.ref f)=true):bD K x q st f:=⟨a,_,Cs l c k⟩
end L2
set_option maxRecDepth 100000
set_option maxHeartbeats 1000000
namespace L2
open PySem PySem.Spec PyProof.Rows
section
variable{X:Cx}
theorem oM:dz X (binaryOp .Mult) (rI (fun i j=>u6 i j\/(Sm i/\Sm j)) fun i j=> .int (i*j)):=se fun _ _ _ _ _ _ _ hc q=>mul_int q (by
 rcases hc with hc|hc
 ·exact hc.ok
 ·exact IntMulOk.of_bits (FD hc.1) (FD hc.2))
end
def cW(H:Hp)(b l:Addr):Prop:=∃(ns:List Int) (i c st n:Int),H b=some (.lst [.ref l, .int i, .int c, .int st, .int n])/\H l=some (.lst (ns.map V.int))/\
 (∀x∈ns,0<=x/\x<10^60)/\ns.length<=63/\0<=i/\0<=c/\c<10^60/\0<=st/\st<2147483647
theorem Pe{H:Hp}{b l:Addr}{ns:List Int}{i c st n:V}(h:H b=some (.lst [.ref l,i,c,st,n]))(h':H l=some (.lst (ns.map V.int))):l≠b:=by
 intro e
 subst e
 rw[h] at h'
 have e:=HO.lst.inj (eS h')
 cases ns with
 |nil=>cases e
 |cons x r=>rw[aZ] at e;cases (pA e).1
theorem cW.put{H:Hp}{b l:Addr}{ns:List Int}{i c st n:Int}(hl:l≠b)(h':H l=some (.lst (ns.map V.int)))(h1:∀x∈ns,0<=x/\x<10^60)(h2:ns.length<=63)
  (h3:0<=i) (h4:0<=c) (h5:c<10^60) (h6:0<=st) (h7:st<2147483647):cW (upd H b (.lst [.ref l, .int i, .int c, .int st, .int n])) b l:=
 ⟨ns,i,c,st,n,aS,by rw[aH hl];exact h',h1,h2,h3,h4,h5,h6,h7⟩
theorem cW.ne{H:Hp}{b l p:Addr}(h:cW H b l)(hp:H p=none):p≠b/\p≠l:=by
 obtain⟨_,_,_,_,_,h1,h2,_⟩:=h
 exact⟨(fun e=>by rw[e,h1] at hp;cases hp),(fun e=>by rw[e,h2] at hp;cases hp)⟩
theorem cW.put2{H:Hp}{b l p:Addr}{o:HO}(h:cW H b l)(hp:p≠b/\p≠l):cW (upd H p o) b l:=by
 obtain⟨ns,i,c,st,n,h1,h2,r⟩:=h
 exact⟨ns,i,c,st,n,by rw[aH (br hp.1)];exact h1,by rw[aH (br hp.2)];exact h2,r⟩
theorem cW.same{H H':Hp}{b l:Addr}(h:cW H b l)(s:cH H H'):cW H' b l:=by
 obtain⟨ns,i,c,st,n,h1,h2,r⟩:=h
 exact⟨ns,i,c,st,n,s _ _ h1,s _ _ h2,r⟩
def gQ:Sp:=fun vs H Q _=>∃(b l:Addr) (many:Int),vs=[.ref b, .int many]/\cW H b l/\0<many/\Sm many/\∀(r:Int) (H':Hp),0<=r->r<many->aI (Nb b) H H'->cW H' b l->Q (.int r) H'
def Ga(K:PySem.W.Frag):Sp:=fun vs H Q _=>∃(a:Addr) (ns:List Int),vs=[.ref a]/\aF K H a (ns.map V.int)/\ns.length<=63/\∀(b l:Addr) (H':Hp),cH H H'->H b=none->cW H' b l->Q (.ref b) H'
theorem jw{α:Type}{xs:List α}{i:Int}{v:α}(h0:0<=i)(h:xs[i.toNat]?=some v):bh xs i=some v:=by
 have e:i=((i.toNat:Nat):Int):=by omega
 rw[e]
 exact Nz h
theorem cD{H:Hp}{p:Addr}{o:HO}(h:H p=none):cH H (upd H p o):=fun b u q=>by rw[aH (g7 q h)];exact q
section
variable{nb:Addr->Prop}{H H':Hp}
theorem af.length:∀{ds:List PyData} {xs:List V},af nb H ds xs->xs.length=ds.length
 |[],_,h=>by unfold af at h;subst h;rfl
 |d::ds,_,h=>by unfold af at h;obtain⟨y,ys,rfl,_,h2⟩:=h;simp[af.length h2]
theorem af.get:∀{ds:List PyData} {xs:List V} {i:Nat} {d:PyData},af nb H ds xs->ds[i]?=some d->∃x,xs[i]?=some x/\ah nb H d x
 |[],_,_,_,_,e=>by simp at e
 |d::ds,_,0,_,h,e=>by unfold af at h;obtain⟨y,ys,rfl,h1,h2⟩:=h;simp at e;subst e;exact⟨y,rfl,h1⟩
 |d::ds,_,i+1,_,h,e=>by unfold af at h;obtain⟨y,ys,rfl,h1,h2⟩:=h;simpa using af.get (i:=i) h2 (by simpa using e)
theorem af.snoc{d:PyData}{x:V}(hd:ah nb H d x):∀{ds:List PyData} {xs:List V},af nb H ds xs->af nb H (ds++[d]) (xs++[x])
 |[],_,h=>by unfold af at h;subst h;unfold af;exact⟨x,[],rfl,hd,by unfold af;rfl⟩
 |e::ds,_,h=>by unfold af at h;obtain⟨y,ys,rfl,h1,h2⟩:=h;show af nb H (e::(ds++[d])) _;unfold af;exact⟨y,ys++[x],rfl,h1,af.snoc hd h2⟩
theorem af.append:∀{ds es:List PyData} {xs ys:List V},af nb H ds xs->af nb H es ys->af nb H (ds++es) (xs++ys)
 |[],_,_,_,h,h'=>by unfold af at h;subst h;exact h'
 |e::ds,es,_,zs,h,h'=>by unfold af at h;obtain⟨y,ys,rfl,h1,h2⟩:=h;show af nb H (e::(ds++es)) _;unfold af;exact⟨y,ys++zs,rfl,h1,af.append h2 h'⟩
theorem af.take:∀{ds:List PyData} {xs:List V} (n:Nat),af nb H ds xs->af nb H (ds.take n) (xs.take n)
 |_,_,0,_=>by simp only[List.take_zero];unfold af;rfl
 |[],_,n+1,h=>by unfold af at h;subst h;simp only[List.take_nil];unfold af;rfl
 |d::ds,_,n+1,h=>by unfold af at h;obtain⟨y,ys,rfl,h1,h2⟩:=h;simp only[List.take_succ_cons];unfold af;exact⟨y,_,rfl,h1,af.take n h2⟩
theorem af.drop:∀{ds:List PyData} {xs:List V} (n:Nat),af nb H ds xs->af nb H (ds.drop n) (xs.drop n)
 |_,_,0,h=>h
 |[],_,n+1,h=>by unfold af at h;subst h;simp only[List.drop_nil];unfold af;rfl
 |d::ds,_,n+1,h=>by unfold af at h;obtain⟨y,ys,rfl,h1,h2⟩:=h;simp only[List.drop_succ_cons];exact af.drop n h2
theorem af.nil:af nb H [] []:=by unfold af;rfl
theorem af.cons{d:PyData}{x:V}{ds:List PyData}{xs:List V}(h1:ah nb H d x)(h2:af nb H ds xs):af nb H (d::ds) (x::xs):=by unfold af;exact⟨x,xs,rfl,h1,h2⟩
theorem ah.int(i:Int):ah nb H (.int i) (.int i):=by unfold ah;rfl
theorem ah.aG:ah nb H .none .aG:=by unfold ah;rfl
theorem ah.bl(b:Bool):ah nb H (.bool b) (.bl b):=by unfold ah;rfl
theorem ah.lst{a:Addr}{ds:List PyData}{xs:List V}(n:¬nb a)(h:H a=some (.lst xs))(hd:af nb H ds xs):ah nb H (.list ds) (.ref a):=by unfold ah;exact⟨a,xs,rfl,n,h,hd⟩
theorem ah.tup{a:Addr}{ds:List PyData}{xs:List V}(n:¬nb a)(h:H a=some (.tup xs))(hd:af nb H ds xs):ah nb H (.tuple ds) (.ref a):=by unfold ah;exact⟨a,xs,rfl,n,h,hd⟩
theorem ah.cG{v:V}{ds:List PyData}(h:ah nb H (.list ds) v):∃a xs,v= .ref a/\¬nb a/\H a=some (.lst xs)/\af nb H ds xs:=by unfold ah at h;exact h
theorem ah.ofT{v:V}{ds:List PyData}(h:ah nb H (.tuple ds) v):∃a xs,v= .ref a/\¬nb a/\H a=some (.tup xs)/\af nb H ds xs:=by unfold ah at h;exact h
theorem ah.bL{v:V}{i:Int}(h:ah nb H (.int i) v):v= .int i:=by unfold ah at h;exact h
theorem ah.Rl{v:V}(h:ah nb H .none v):v= .aG:=by unfold ah at h;exact h
end
def Mx:Sp:=fun vs H Q _=>∃i:Int,vs=[.int i]/\Q (.bl true) H
def uZ(K:PySem.W.Frag):Sp:=fun vs H Q _=>∃(a:Addr) (ns:List Int),vs=[.ref a]/\aF K H a (ns.map V.int)/\ns.length<=63/\∀H',Q (.bl true) H'
end L2
set_option maxRecDepth 100000
set_option maxHeartbeats 1000000
namespace L2
open PySem PySem.Spec PyProof.Rows
def zN(Q:VK):List V->Hp->Prop:=fun xs H1=>xs.length<=sizeLine/\∀p,H1 p=none->Q (.ref p) (upd H1 p (.lst xs))
def l7(K:PySem.W.Frag):List V->Hp->VK->Prop:=fun xs H Q=>∃p ys,xs=[.ref p]/\(aF K H p ys\/fU K H p ys)/\∀l,H l=none->Q (.ref l) (upd H l (.lst ys))
theorem pO{X:Cx}:eF X (.type "list") (l7 X.K):=RB
def G9:R2:=fun x y H Q=>y= .aG/\Q (.bl (decide (x= .aG))) H
def intOf:Expr->Option Int
 | .Constant (.int i) _ _=>some i
 |_=>none
theorem P6{e:Expr}{i:Int}(h:intOf e=some i):∃k p,e= .Constant (.int i) k p:=by
 unfold intOf at h
 split at h
 ·cases h;exact⟨_,_,rfl⟩
 ·cases h
def o6:List Expr->Option (List Int)
 |[]=>some []
 |e::r=>(intOf e).bind fun i=>(o6 r).map (i:: ·)
def rD(is:List Int):TA:=fun _ H Q=>Q (is.map V.int) H
theorem Bk{X:Cx}:∀{es:List Expr} {is:List Int},o6 es=some is->PA X es (rD is):=by
  intro es
  induction es with
  | nil =>
    intro is h
    have e:is=[]:=by simpa[o6] using h.symm
    subst e
    exact aj
  | cons e r ih =>
    intro is h
    unfold o6 at h
    cases hi:intOf e with
    |none=>rw[hi] at h;cases h
    | some i =>
      rw[hi] at h
      obtain⟨k,p,rfl⟩:=P6 hi
      obtain⟨js,hj,rfl⟩:=jX.mp (show(o6 r).map (i:: ·)=some is from h)
      exact aa (te:=tC (.int i)) (t:=rD js) ao (ih hj)
theorem Jj{X:Cx}{i:Nat}{x:Str}{es:List Expr}{is:List Int}{p1 p2 p3:Pos}(hN:X.N.Nodup)(hi:X.N[i]?=some x)(hx:Loc X.env.scope x)(h:o6 es=some is)(hf:X.fn x=true\/X.env.scope.names.lookup x=some .local):
  PS X (.Assign [.Name x p1] (.List es p2) p3) (jf (l8 (rD is)) (ek i)):=bO hN hi hx (dS (Bk h)) rfl hf
namespace R
section
variable{σ:St}{H:Hp}{Q:VK}{D:Ends}{ta tb te:TE}{K:PySem.W.Frag}
theorem seq{t u:TS}(h:t {D with nx:=u D} σ H):oB t u D σ H:=h
theorem asg{g:TG}(h:te σ H fun x H1=>g x σ H1 D.nx):jf te g D σ H:=h
theorem kK{c:TT}{t u:TS}(h:c σ H fun b H1=>if b=true then t D σ H1 else u D σ H1):z3 c t u D σ H:=h
theorem ret(h:te σ H D.rt):qh te D σ H:=h
theorem drop(h:te σ H fun _ H1=>D.nx σ H1):jV te D σ H:=h
theorem next(h:D.nx σ H):wA D σ H:=h
theorem var{i:Nat}{v:V}(e:σ[i]?=some (some v))(h:Q v H):bE i σ H Q:=⟨v,e,h⟩
theorem c{v:V}(h:Q v H):tC v σ H Q:=h
theorem op{r:R2}(h:ta σ H fun x H1=>tb σ H1 fun y H2=>r x y H2 Q):bW r ta tb σ H Q:=h
theorem test{q:Bool->Hp->Prop}(h:te σ H fun x H'=>∃k,x= .bl k/\q k H'):sP te σ H q:=h
theorem bl{P:Bool->Prop}{b:Bool}(h:P b):∃k,V.bl b= .bl k/\P k:=⟨b,rfl,h⟩
theorem and{t u:TT}{q:Bool->Hp->Prop}(h:t σ H fun c H1=>if c=true then u σ H1 q else q false H1):yt t u σ H q:=h
theorem M3{t:TT}(h:t σ H fun c H1=>if c=true then ta σ H1 Q else tb σ H1 Q):GU t ta tb σ H Q:=h
theorem cb{r:List V->Hp->VK->Prop}{t:TA}(h:t σ H fun vs H1=>r vs H1 Q):dw r t σ H Q:=h
theorem call{sp:Sp}{t:TA}(h:t σ H fun vs H1=>sp (vs++[]) H1 Q E0):gb sp [] E0 t σ H Q:=h
theorem yP{is:List Int}{q:List V->Hp->Prop}(h:q (is.map V.int) H):rD is σ H q:=h
theorem nil{q:List V->Hp->Prop}(h:q [] H):aQ σ H q:=h
theorem cons{t:TA}{q:List V->Hp->Prop}(h:ta σ H fun x H1=>t σ H1 fun xs H2=>q (x::xs) H2):aK ta t σ H q:=h
theorem lst{t:TA}(h:t σ H (zN Q)):l8 t σ H Q:=h
theorem sl{r:V->Option Int->Option Int->Hp->VK->Prop}{tl th:TO}(h:te σ H fun x H1=>tl σ H1 fun l H2=>th σ H2 fun u H3=>r x l u H3 Q):qZ r te tl th σ H Q:=h
theorem Mj{q:Option Int->Hp->Prop}(h:q none H):w9 σ H q:=h
theorem part{q:Option Int->Hp->Prop}(h:te σ H fun x H1=>∃i,x= .int i/\q (some i) H1):zE te σ H q:=h
theorem QO{P:Int->Prop}{i:Int}(h:P i):∃j,V.int i= .int j/\P j:=⟨i,rfl,h⟩
theorem Em{i:Nat}{v:V}{q:St->Hp->Prop}(h:q (σ.set i (some v)) H):ek i v σ H q:=h
theorem Km{to ti:TE}{t:oE}{v:V}{q:St->Hp->Prop}(h:to σ H fun o H1=>ti σ H1 fun i H2=>t o i v H2 fun H3=>q σ H3):yD to ti t v σ H q:=h
theorem nO{q:Bool->Hp->Prop}(h:q true H):kc σ H q:=h
theorem gE{g:Int->Int->V}{i j:Int}(h:Q (g i j) H):L2.gE g (.int i) (.int j) H Q:=⟨i,j,rfl,rfl,h⟩
theorem rI{C:Int->Int->Prop}{g:Int->Int->V}{i j:Int}(hc:C i j)(h:Q (g i j) H):L2.rI C g (.int i) (.int j) H Q:=⟨i,j,rfl,rfl,hc,h⟩
theorem GO{i j:Int}:decide (V.int i=V.int j)=decide (i=j):=by rw[iZ];simp
theorem Ro{i j:Int}(h:Q (.bl (decide (i=j))) H):AD (.int i) (.int j) H Q:=⟨rfl,by rw[GO];exact h⟩
theorem xQ(h:Q (.bl true) H):G9 .aG .aG H Q:=⟨rfl,by rw[decide_eq_true rfl];exact h⟩
theorem wF{p:Addr}{xs:List V}{i:Int}{v:V}(hp:H p=some (.lst xs))(e:bh xs i=some v)(h:Q v H):cO K (.ref p) (.int i) H Q:=⟨p,xs,i,v,rfl,rfl,aF.of hp,e,h⟩
theorem wU{p:Addr}{o:HO}{xs:List V}{i:Int}{v:V}(e:bh xs i=some v)(h:Q v (upd H p (.lst xs))):cO K (.ref p) (.int i) (upd H p (.lst xs)) Q:=⟨p,xs,i,v,rfl,rfl,aF.of aS,e,h⟩
theorem setM{p:Addr}{xs:List V}{k:Int}{j:Nat}{v:V}{q:Hp->Prop}(hp:H p=some (.lst xs))(e:fQ xs.length k=some j)(h:q (upd H p (.lst (xs.set j v)))):rM (.ref p) (.int k) v H q:=⟨p,xs,k,j,rfl,rfl,hp,e,h⟩
theorem QS{p:Addr}{xs:List V}{k:Int}{j:Nat}{v:V}{q:Hp->Prop}(e:fQ xs.length k=some j)(h:q (upd H p (.lst (xs.set j v)))):rM (.ref p) (.int k) v (upd H p (.lst xs)) q:=
 ⟨p,xs,k,j,rfl,rfl,aS,e,by rw[xU];exact h⟩
theorem ME{p:Addr}{xs:List V}{P:List V->Prop}(hp:H p=some (.lst xs))(h:P xs):∃a ys,[V.ref p]=[.ref a]/\(aF K H a ys\/fU K H a ys)/\P ys:=⟨p,xs,rfl, .inl (aF.of hp),h⟩
theorem D4{p:Addr}{xs:List V}{lo hi:Option Int}(hp:aF K H p xs)(h:∀a,H a=none->Q (.ref a) (upd H a (.lst (kF xs lo hi)))):qv K (.ref p) lo hi H Q:=⟨p,xs,rfl,hp,h⟩
theorem MG{a:Int}{P:Int->Prop}(h:P a):∃i,[V.int a]=[.int i]/\P i:=⟨a,rfl,h⟩
theorem u5{xs:List V}(h:xs.length<=10000)(q:∀p H',cH H H'->H p=none->H' p=some (.lst xs)->Q (.ref p) H'):zN Q xs H:=
 ⟨cL h (by decide),fun p hp=>q p _ (cD hp) hp aS⟩
theorem nE{l b:Addr}{xs zs:List V}(h1:H l=some (.lst xs))(h2:H b=some (.lst zs))(hz:xs.length+zs.length<=10000)(q:∀p H',cH H H'->H p=none->H' p=some (.lst (xs++zs))->Q (.ref p) H'):uD (.ref l) (.ref b) H Q:=
 ⟨l,b,xs,zs,rfl,rfl,h1,h2,cL hz (by decide),fun p hp=>q p _ (cD hp) hp aS⟩
theorem gc{c A B:Prop}[Decidable c](h:c)(q:A):if c then A else B:=by rw[if_pos h];exact q
theorem Cy{c A B:Prop}[Decidable c](h:¬c)(q:B):if c then A else B:=by rw[if_neg h];exact q
theorem dT{c:Prop}[Decidable c](h:c):decide c=true:=decide_eq_true h
theorem dF{c:Prop}[Decidable c](h:¬c):¬decide c=true:=by rw[decide_eq_false h];exact bz
theorem Fz{c:Prop}[Decidable c](h:c):¬(!decide c)=true:=by rw[decide_eq_true h];decide
theorem Qn{t:TA}{R:It->Hp->Prop}(h:t σ H fun vs H1=>∃i j:Int,vs=[.int i, .int j]/\(-(2^62)<=i/\i<2^62/\ -(2^62)<=j/\j<2^62)/\R (ir i (j-i).toNat) H1):BJ t σ H R:=h
theorem LZ{P:Int->Int->Prop}{a b:Int}(h1: -(2^62)<=a/\a<2^62/\ -(2^62)<=b/\b<2^62)(h:P a b):∃i j:Int,[V.int a,V.int b]=[.int i, .int j]/\(-(2^62)<=i/\i<2^62/\ -(2^62)<=j/\j<2^62)/\P i j:=⟨a,b,rfl,h1,h⟩
theorem iL{tl:TE}{R:It->Hp->Prop}(h:tl σ H fun x H1=>∃a,x= .ref a/\(∃xs,aF K H1 a xs)/\R (mq K a) H1):oh K tl σ H R:=h
theorem Ad{P:Addr->Prop}{p:Addr}{xs:List V}(hp:aF K H p xs)(h:P p):∃a,V.ref p= .ref a/\(∃xs,aF K H a xs)/\P a:=⟨p,rfl,⟨xs,hp⟩,h⟩
theorem Q3{wi:TI}{g:TG}{tb:TS}(h:wi σ H fun J H1=>∃W:Nat->Nat->St->Hp->Prop,(∃m,W 0 m σ H1)/\∀i m σ H,W i m σ H->
 (J.stop i H/\D.nx σ H)\/(J.go i H/\∃N:St->Hp->Prop,(∀σ' H',N σ' H'->∃m',m'<m/\W (i+1) m' σ' H')/\∀x H',J.lG i H x H'->g x σ H' fun σ2 H2=>tb {D with nx:=N,ct:=N,bk:=D.nx} σ2 H2)):nP wi g tb D σ H:=h
theorem comp{wi:TI}{g:TG}{tc:TT}{mp:List (Option Nat)}(h:wi σ H fun J H1=>∀acc,H1 acc=none->o5 J g tc te acc (fun H'=>Q (.ref acc) H') (eL mp σ) (upd H1 acc (.lst []))):jm wi g tc te mp σ H Q:=h
end
theorem rT{lo:Int}{n:Nat}{g:TG}{tc:TT}{te:TE}{acc:Addr}{Qe:Hp->Prop}{σ:St}{H:Hp}(Pv:Nat->St->Hp->Prop)(h0:Pv 0 σ H)
  (hs:∀i σ H,i<n->Pv i σ H->g (.int (lo+i)) σ H fun σ2 H2=>tc σ2 H2 fun b H3=>if b=true then te σ2 H3 fun v H4=>∃ys,H4 acc=some (.lst ys)/\ys.length<sizeLine/\Pv (i+1) σ2 (upd H4 acc (.lst (ys++[v]))) else Pv (i+1) σ2 H3)
  (hd:∀σ H,Pv n σ H->Qe H):o5 (ir lo n) g tc te acc Qe σ H:=by
 refine⟨fun i m σ H=>m=n-i/\i<=n/\Pv i σ H,⟨n,by simp,eg _,h0⟩,?_⟩
 rintro i m σ H ⟨rfl,hi,p⟩
 by_cases hlt:i<n
 ·refine .inr ⟨hlt,Pv (i+1),fun σ' H' p'=>⟨n-(i+1),by omega,rfl,hlt,p'⟩,fun x H' y=>?_⟩
  obtain⟨e,y⟩:=y
  subst e y
  exact hs i σ _ hlt p
 ·have e:i=n:=by omega
  subst e
  exact .inl ⟨aA _,hd σ H p⟩
theorem FT{K:PySem.W.Frag}{a:Addr}{xs:List V}{g:TG}{tc:TT}{te:TE}{acc:Addr}{Qe:Hp->Prop}{σ:St}{H:Hp}(Pv:Nat->St->Hp->Prop)(h0:Pv 0 σ H)(hl:∀i σ H,i<=xs.length->Pv i σ H->aF K H a xs)
  (hs:∀i x σ H,xs[i]?=some x->Pv i σ H->g x σ H fun σ2 H2=>tc σ2 H2 fun b H3=>if b=true then te σ2 H3 fun v H4=>∃ys,H4 acc=some (.lst ys)/\ys.length<sizeLine/\Pv (i+1) σ2 (upd H4 acc (.lst (ys++[v]))) else Pv (i+1) σ2 H3)
  (hd:∀σ H,Pv xs.length σ H->Qe H):o5 (mq K a) g tc te acc Qe σ H:=by
 refine⟨fun i m σ H=>m=xs.length-i/\i<=xs.length/\Pv i σ H,⟨xs.length,by simp,eg _,h0⟩,?_⟩
 rintro i m σ H ⟨rfl,hi,p⟩
 have q:=hl i σ H hi p
 by_cases hlt:i<xs.length
 ·refine .inr ⟨⟨xs,xs[i],q,by simp[hlt]⟩,Pv (i+1),fun σ' H' p'=>⟨xs.length-(i+1),by omega,rfl,hlt,p'⟩,fun x H' y=>?_⟩
  obtain⟨e,y⟩:=y
  subst e
  exact hs i x σ _ (y xs q) p
 ·have e:i=xs.length:=by omega
  subst e
  exact .inl ⟨⟨xs,q,aA _⟩,hd σ H p⟩
end R
end L2
set_option maxRecDepth 100000
set_option maxHeartbeats 1000000
namespace L2
open PySem PySem.Spec PyProof.Rows
@[reducible] def pairD(pr:Int×Int):PyData:= .tuple [.int pr.1, .int pr.2]
def q8:Option Int->PyData
 |none=> .none
 |some i=> .int i
def Ly(wd:List (Option Int))(pr:Int×Int):Int:=match wd[pr.1.toNat]? with
 |some (some x)=>pr.2*x
 |_=>0
def Rq(prs:List (Int×Int))(wd:List (Option Int)):Int:=(prs.map (Ly wd)).sum
theorem Np{nb:Addr->Prop}{H:Hp}{pr:Int×Int}{v:V}(h:ah nb H (pairD pr) v):∃t,v= .ref t/\¬nb t/\H t=some (.tup [.int pr.1, .int pr.2]):=by
 obtain⟨t,xs,rfl,n,ht,hd⟩:=h.ofT
 unfold af at hd
 obtain⟨y,ys,rfl,h1,h2⟩:=hd
 unfold af at h2
 obtain⟨z,zs,rfl,h3,h4⟩:=h2
 unfold af at h4
 subst h4
 rw[h1.bL,h3.bL] at ht
 exact⟨t,rfl,n,ht⟩
theorem MK(prs:List (Int×Int)):SeqAt.shaped (.list (prs.map pairD))=true/\PyData.depthAll (prs.map pairD)<=1/\PyData.canLayAll0 (prs.map pairD)=true:=by
 have h:PyData.depthAll (prs.map pairD)<=1/\PyData.canLayAll0 (prs.map pairD)=true:=by
  induction prs with
  |nil=>simp[PyData.depthAll,PyData.canLayAll0]
  |cons a r ih=>simp[pairD,PyData.depthAll,PyData.depth,PyData.canLayAll0,PyData.canLay0,ih.2];have:=ih.1;omega
 refine⟨?_,h⟩
 unfold SeqAt.shaped
 simp[PyData.canLay0,PyData.depth,h.2]
 omega
theorem C8(wd:List (Option Int)):PyData.depthAll (wd.map q8)=0/\PyData.canLayAll0 (wd.map q8)=true:=by
 induction wd with
 |nil=>simp[PyData.depthAll,PyData.canLayAll0]
 |cons a r ih=>cases a<;>simp[q8,PyData.depthAll,PyData.depth,PyData.canLayAll0,PyData.canLay0,ih.2,ih.1]
def t6(r:Int):Prop:=∀d:Int,2<=d->d*d<=r->r%d≠0
def wQ:List Int:=[2,3,5,7,2,11,101,10007,65537,1000003,998244353,1000000007,2147483647,1000000000039,1000000000000000003,18446744073709551557,2305843009213693951,618970019642690137449562111,162259276829213363391578010288127,170141183460469231731687303715884105727,1000000000000000000000000000000000000003,9999999999999999999999999999999999999983]
def xZ(p:Int):Prop:=2<=p/\p<10^40/\(p∈wQ\/t6 p)
def Ah:Sp:=fun vs H Q _=>∃n:Int,vs=[.int n]/\2<=n/\n<=10002/\∀(r:Int) (H':Hp),cH H H'->2<=r->r<=10100->t6 r->Q (.int r) H'
def uO:Sp:=fun vs H Q _=>∃(b l:Addr),vs=[.ref b]/\cW H b l/\∀(p:Int) (H':Hp),xZ p->aI (Nb b) H H'->cW H' b l->Q (.int p) H'
theorem lI{nb:Addr->Prop}{H:Hp}:∀is:List Int,af nb H (is.map PyData.int) (is.map V.int)
 |[]=>af.nil
 |i::is=>af.cons (.int i) (lI is)
theorem kN{nb:Addr->Prop}{H:Hp}:∀{is:List Int} {xs:List V},af nb H (is.map PyData.int) xs->xs=is.map V.int
  |[],_,h=>by unfold List.map af at h;exact h
  | i :: is, _, h => by
    rw[aZ] at h
    unfold af at h
    obtain⟨y,ys,rfl,h1,h2⟩:=h
    rw[aZ,h1.bL,kN h2]
end L2
set_option maxRecDepth 100000
set_option maxHeartbeats 1000000
namespace L2
open PySem PySem.Spec PyProof.Rows
abbrev Bg:=Option (Addr×Addr)
def NB(B:Bg)(a:Addr):Prop:=∀b l,B=some (b,l)->a≠b
def jd(B:Bg)(H:Hp):Prop:=∀b l,B=some (b,l)->cW H b l
inductive HD where
 |d (x:PyData)|fz (o:Obj) (ps:List (Key×V))
def gv(S:Addr->Prop)(H:Hp):HD->V->Prop
 | .d x,v=>ah S H x v
 | .fz o ps,v=>∃a,v= .ref a/\¬S a/\H a=some (.fS o (.dK ps))
theorem gv.keep{S:Addr->Prop}{H H':Hp}{x:HD}{v:V}(h:gv S H x v)(b:aI S H H'):gv S H' x v:=by
 cases x with
 |d x=>exact ah.keep b h
 |fz o ps=>obtain⟨a,e,n,q⟩:=h;exact⟨a,e,n,b _ _ n q⟩
theorem gv.av{S S':Addr->Prop}{H:Hp}{x:HD}{v:V}(h:gv S H x v)(b:∀a,S' a->S a):gv S' H x v:=by
 cases x with
 |d x=>exact ah.av b h
 |fz o ps=>obtain⟨a,e,n,q⟩:=h;exact⟨a,e,fun z=>n (b a z),q⟩
theorem gv.fresh{S:Addr->Prop}{H:Hp}{x:HD}{v:V}{p:Addr}(h:gv S H x v)(hp:H p=none):gv (fun a=>S a\/a=p) H x v:=by
 cases x with
 |d x=>exact ah.fresh hp h
 |fz o ps=>obtain⟨a,e,n,q⟩:=h;exact⟨a,e,fun z=>z.elim n (g7 q hp),q⟩
structure Gx where
 B:Bg
 H0:Hp
 A:Addr->Prop
 hold:List (Bool×HD×V):=[]
def jW(nb:Addr->Prop)(H:Hp):Prop:=∀a,nb a->H a≠none
structure Kp(S:Addr->Prop)(F:List Addr)(H H':Hp):Prop where
 own:∀a∈F,∀o,H a=some o->H' a=some o
 lst:∀a xs,¬S a->H a=some (.lst xs)->H' a=some (.lst xs)
 tup:∀a xs,¬S a->H a=some (.tup xs)->H' a=some (.tup xs)
 bf:∀a ps,¬S a->Rd H a (.dK ps)->Rd H' a (.dK ps)
theorem Kp.of{S:Addr->Prop}{F:List Addr}{H H':Hp}(h:∀a o,(¬S a\/a∈F)->H a=some o->H' a=some o):Kp S F H H':=
 ⟨fun a ha o e=>h a o (.inr ha) e,fun a xs n e=>h a _ (.inl n) e,fun a xs n e=>h a _ (.inl n) e,fun a ps n e=>e.elim (fun e=> .inl (h a _ (.inl n) e)) fun⟨o,e⟩=> .inr ⟨o,h a _ (.inl n) e⟩⟩
mutual
theorem ah.kp{S:Addr->Prop}{F:List Addr}{H H':Hp}(m:Kp S F H H'):∀{d:PyData} {v:V},ah S H d v->ah S H' d v
 | .none,_,h=>by unfold ah at h⊢;exact h
 | .bool _,_,h=>by unfold ah at h⊢;exact h
 | .int _,_,h=>by unfold ah at h⊢;exact h
 | .str _,_,h=>by unfold ah at h⊢;exact h
 | .list ds,_,h=>by unfold ah at h⊢;obtain⟨a,xs,e,n,s,r⟩:=h;exact⟨a,xs,e,n,m.lst _ _ n s,af.kp m r⟩
 | .tuple ds,_,h=>by unfold ah at h⊢;obtain⟨a,xs,e,n,s,r⟩:=h;exact⟨a,xs,e,n,m.tup _ _ n s,af.kp m r⟩
 | .dict kvs,_,h=>by unfold ah at h⊢;obtain⟨a,xs,e,n,s,r⟩:=h;exact⟨a,xs,e,n,m.bf _ _ n s,au.kp m r⟩
theorem af.kp{S:Addr->Prop}{F:List Addr}{H H':Hp}(m:Kp S F H H'):∀{ds:List PyData} {vs:List V},af S H ds vs->af S H' ds vs
 |[],_,h=>by unfold af at h⊢;exact h
 |d::ds,_,h=>by unfold af at h⊢;obtain⟨y,ys,e,h1,h2⟩:=h;exact⟨y,ys,e,ah.kp m h1,af.kp m h2⟩
theorem au.kp{S:Addr->Prop}{F:List Addr}{H H':Hp}(m:Kp S F H H'):∀{ds:List (PyData×PyData)} {vs:List (Key×V)},au S H ds vs->au S H' ds vs
 |[],_,h=>by unfold au at h⊢;exact h
 |d::ds,_,h=>by unfold au at h⊢;obtain⟨y,ys,e,h1,h2⟩:=h;exact⟨y,ys,e,bI.kp m h1,au.kp m h2⟩
theorem bI.kp{S:Addr->Prop}{F:List Addr}{H H':Hp}(m:Kp S F H H'):∀{d:PyData×PyData} {v:Key×V},bI S H d v->bI S H' d v
 |(k,d),_,h=>by unfold bI at h⊢;exact⟨h.1,ah.kp m h.2⟩
end
structure Cu where
 v:V
 F:List Addr
 f:Bool
 P:(Addr->Prop)->Hp->Prop
 keep:∀{S:Addr->Prop} {H H':Hp},Kp S F H H'->P S H->P S H'
 av:∀{S S':Addr->Prop} {H:Hp},(∀a,S' a->S a)->P S H->P S' H
 fresh:∀{S:Addr->Prop} {H:Hp} {p:Addr},H p=none->P S H->P (fun a=>S a\/a=p) H
inductive Sl where
 |no|d (f:Bool) (d:PyData)|own (a:Addr) (f:Bool) (ds:List PyData)|az|raw (v:V)|bf (a:Addr) (f:Bool) (ks:List (Int×PyData))|cu (c:Cu)
def Sl.adr:Sl->List Addr
 | .own a _ _=>[a]
 | .bf a _ _=>[a]
 | .cu c=>c.F
 |_=>[]
@[reducible] def cy(p:Int×PyData):PyData×PyData:=(.int p.1,p.2)
abbrev Rh:=List Sl
def Gx.S(G:Gx)(nb:Addr->Prop)(f:Bool):Addr->Prop:=fun a=>nb a\/G.A a\/¬NB G.B a\/(f=true/\G.H0 a≠none)
def mF(G:Gx)(nb:Addr->Prop)(H:Hp)(x:Option V):Sl->Prop
 | .no=>True
 | .d f d=>∃v,x=some v/\ah (G.S nb f) H d v
 | .own a f ds=>x=some (.ref a)/\nb a/\NB G.B a/\∃xs,H a=some (.lst xs)/\af (G.S nb f) H ds xs
 | .az=>∃b l,G.B=some (b,l)/\x=some (.ref b)
 | .raw v=>x=some v
 | .bf a f ks=>x=some (.ref a)/\nb a/\NB G.B a/\∃ps,H a=some (.dK ps)/\au (G.S nb f) H (ks.map cy) ps
 | .cu c=>x=some c.v/\(∀a∈c.F,nb a/\NB G.B a)/\c.P (G.S nb c.f) H
structure Wd(G:Gx)(nb:Addr->Prop)(ρ:Rh)(σ:St)(H:Hp):Prop where
 az:jd G.B H
 live:jW nb H
 old:∀a o,NB G.B a->G.H0 a=some o->H a=some o
 cK:∀a,nb a->NB G.B a->G.H0 a=none
 gA:jW G.A G.H0
 len:σ.length=ρ.length
 gB:jd G.B G.H0
 fO:∀h∈G.hold,gv (G.S nb h.1) H h.2.1 h.2.2
 ok:∀(i:Nat) (s:Sl),ρ[i]?=some s->∃x,σ[i]?=some x/\mF G nb H x s
 apart:∀(i j:Nat) a f as c g cs,i≠j->ρ[i]?=some (.own a f as)->ρ[j]?=some (.own c g cs)->a≠c
 eH:∀(i j:Nat) a f as c g cs,i≠j->ρ[i]?=some (.bf a f as)->ρ[j]?=some (.bf c g cs)->a≠c
 cR:∀(i j:Nat) c s,i≠j->ρ[i]?=some (.cu c)->ρ[j]?=some s->∀a∈c.F,a∉s.adr
def Step(B:Bg)(H H':Hp):Prop:=(∀a o,NB B a->H a=some o->H' a=some o)/\jd B H'
section
variable{G:Gx}{B:Bg}{nb:Addr->Prop}{ρ:Rh}{σ:St}{H H1 H2 H':Hp}{f g:Bool}{d:PyData}{ds:List PyData}{v:V}{xs:List V}{a p:Addr}
theorem Step.refl(h:jd B H):Step B H H:=⟨fun _ _ _ e=>e,h⟩
theorem Step.trans(x:Step B H H1)(y:Step B H1 H2):Step B H H2:=⟨fun a o n e=>y.1 a o n (x.1 a o n e),y.2⟩
theorem jd.same(h:jd B H)(s:cH H H'):jd B H':=fun b l e=>(h b l e).same s
theorem Step.same(h:jd B H)(s:cH H H'):Step B H H':=⟨fun a o _ e=>s a o e,h.same s⟩
theorem Step.but{bU:Addr->Prop}(s:Step B H H')(h:∀a,¬NB B a->bU a):aI bU H H':=fun a o n e=>s.1 a o (jP fun z=>n (h a z)) e
theorem Step.dj(s:Step G.B H H'):aI (G.S nb f) H H':=s.but fun a h=> .inr (.inr (.inl h))
theorem bF(h:g=true->f=true){bU:Addr->Prop}(hn:∀a,nb a->bU a):∀a,G.S nb g a->G.S bU f a:=by
 intro a z
 rcases z with z|z|z|⟨z,q⟩
 ·exact .inl (hn a z)
 ·exact .inr (.inl z)
 ·exact .inr (.inr (.inl z))
 ·exact .inr (.inr (.inr ⟨h z,q⟩))
theorem NB.nF(h:jd B H)(n:¬NB B a):H a≠none:=by
 intro e
 apply n
 intro b l hb z
 subst z
 obtain⟨_,_,_,_,_,h1,_⟩:=h _ _ hb
 rw[h1] at e;cases e
theorem Wd.iz(W:Wd G nb ρ σ H):jW (G.S nb f) H:=by
 intro a z
 rcases z with z|z|z|⟨_,z⟩
 ·exact W.live a z
 ·by_cases n:NB G.B a
  ·cases e:G.H0 a with
   |none=>exact absurd e (W.gA a z)
   |some o=>rw[W.old a o n e];exact iu _
  ·exact NB.nF W.az n
 ·exact NB.nF W.az z
 ·by_cases n:NB G.B a
  ·cases e:G.H0 a with
   |none=>exact absurd e z
   |some o=>rw[W.old a o n e];exact iu _
  ·exact NB.nF W.az n
theorem Wd.fresh(W:Wd G nb ρ σ H)(hp:H p=none):¬G.S nb f p:=fun z=>W.iz p z hp
theorem mF.step{x:Option V}{s:Sl}(st:Step G.B H H')(h:mF G nb H x s):mF G nb H' x s:=by
  cases s with
  |no=>trivial
  |d f d=>obtain⟨v,e,h⟩:=h;exact⟨v,e,h.keep st.dj⟩
  |own a f ds=>obtain⟨e,n,q,xs,hx,hd⟩:=h;exact⟨e,n,q,xs,st.1 _ _ q hx,hd.keep st.dj⟩
  |az=>exact h
  |raw v=>exact h
  |bf a f ks=>obtain⟨e,n,q,xs,hx,hd⟩:=h;exact⟨e,n,q,xs,st.1 _ _ q hx,hd.keep st.dj⟩
  | cu c =>
    obtain⟨e,n,p⟩:=h
    refine⟨e,n,c.keep (.of fun a o ha e=>st.1 a o ?_ e) p⟩
    rcases ha with ha|ha
    · exact jP fun z=>ha (.inr (.inr (.inl z)))
    · exact(n a ha).2
theorem KQ(n:NB B a)(st:Step B H H')(h:H a≠none):H' a≠none:=by
 cases e:H a with
 |none=>exact absurd e h
 |some o=>rw[st.1 a o n e];exact iu _
theorem Wd.step(W:Wd G nb ρ σ H)(st:Step G.B H H'):Wd G nb ρ σ H' where
 az:=st.2
 live:=fun a n=>by
  by_cases q:NB G.B a
  ·exact KQ q st (W.live a n)
  ·exact NB.nF st.2 q
 old:=fun a o n e=>st.1 a o n (W.old a o n e)
 cK:=W.cK
 gA:=W.gA
 len:=W.len
 gB:=W.gB
 fO:=fun h m=>(W.fO h m).keep st.dj
 ok:=fun i s e=>by
  obtain⟨x,e1,h⟩:=W.ok i s e
  exact⟨x,e1,h.step st⟩
 apart:=W.apart
 eH:=W.eH
 cR:=W.cR
theorem Wd.set{i:Nat}{s:Sl}{x:Option V}(W:Wd G nb ρ σ H)(h:mF G nb H x s)(hs:∀a f ds,s= .own a f ds->∀j c g cs,j≠i->ρ[j]?=some (.own c g cs)->a≠c)(hd:∀a f ds,s= .bf a f ds->∀j c g cs,j≠i->ρ[j]?=some (.bf c g cs)->a≠c:=by intro _ _ _ z;cases z)(hcu:∀a∈s.adr,∀j t,j≠i->ρ[j]?=some t->(∃c,s= .cu c)\/(∃c,t= .cu c)->a∉t.adr:=by intro _ z;cases z):Wd G nb (ρ.set i s) (σ.set i x) H where
 az:=W.az
 live:=W.live
 old:=W.old
 cK:=W.cK
 gA:=W.gA
 len:=by rw[fM,fM];exact W.len
 gB:=W.gB
 fO:=W.fO
 ok:=fun j t e=>by
  by_cases hij:i=j
  ·subst hij
   have hl:i<ρ.length:=by have:=(aJ.mp e).1;rwa[fM] at this
   rw[bx hl] at e
   cases e
   exact⟨x,bx (by rw[W.len];exact hl),h⟩
  ·rw[aT hij] at e⊢
   exact W.ok j t e
 apart:=fun j k a f as c g cs hjk e1 e2=>by
  by_cases hj:i=j
  ·subst hj
   have hl:i<ρ.length:=by have:=(aJ.mp e1).1;rwa[fM] at this
   rw[bx hl] at e1
   cases e1
   rw[aT hjk] at e2
   exact hs a f as rfl k c g cs (br hjk) e2
  ·by_cases hk:i=k
   ·subst hk
    have hl:i<ρ.length:=by have:=(aJ.mp e2).1;rwa[fM] at this
    rw[bx hl] at e2
    cases e2
    rw[aT hj] at e1
    exact(hs c g cs rfl j a f as hjk e1).symm
   ·rw[aT hj] at e1
    rw[aT hk] at e2
    exact W.apart j k a f as c g cs hjk e1 e2
 eH:=fun j k a f as c g cs hjk e1 e2=>by
  by_cases hj:i=j
  ·subst hj
   have hl:i<ρ.length:=by have:=(aJ.mp e1).1;rwa[fM] at this
   rw[bx hl] at e1
   cases e1
   rw[aT hjk] at e2
   exact hd a f as rfl k c g cs (br hjk) e2
  ·by_cases hk:i=k
   ·subst hk
    have hl:i<ρ.length:=by have:=(aJ.mp e2).1;rwa[fM] at this
    rw[bx hl] at e2
    cases e2
    rw[aT hj] at e1
    exact(hd c g cs rfl j a f as hjk e1).symm
   ·rw[aT hj] at e1
    rw[aT hk] at e2
    exact W.eH j k a f as c g cs hjk e1 e2
 cR:=fun j k c t hjk e1 e2 a ha=>by
  by_cases hj:i=j
  ·subst hj
   have hl:i<ρ.length:=by have:=(aJ.mp e1).1;rwa[fM] at this
   rw[bx hl] at e1
   cases e1
   rw[aT hjk] at e2
   exact hcu a ha k t (br hjk) e2 (.inl ⟨c,rfl⟩)
  ·by_cases hk:i=k
   ·subst hk
    have hl:i<ρ.length:=by have:=(aJ.mp e2).1;rwa[fM] at this
    rw[bx hl] at e2
    cases e2
    rw[aT hj] at e1
    exact fun z=>hcu a z j (.cu c) hjk e1 (.inr ⟨c,rfl⟩) ha
   ·rw[aT hj] at e1
    rw[aT hk] at e2
    exact W.cR j k c t hjk e1 e2 a ha
theorem Wd.jD{i:Nat}(W:Wd G nb ρ σ H)(h:ah (G.S nb f) H d v):Wd G nb (ρ.set i (.d f d)) (σ.set i (some v)) H:=W.set ⟨v,rfl,h⟩ fun _ _ _ e=>by cases e
inductive Wk:Rh->Rh->Prop
 |nil:Wk [] []
 |no {s:Sl} {r r':Rh} (h:Wk r r'):Wk (.no::r) (s::r')
 |eq {s:Sl} {r r':Rh} (h:Wk r r'):Wk (s::r) (s::r')
theorem Wk.at:∀{r r':Rh} {i:Nat} {s:Sl},Wk r r'->r[i]?=some s->s= .no/\(∃t,r'[i]?=some t)\/r'[i]?=some s
 |_,_,_,_, .nil,e=>by simp at e
 |_,_,0,_, .no h,e=>by simp at e;subst e;exact .inl ⟨rfl,_,rfl⟩
 |_,_,0,_, .eq h,e=>by simp at e;subst e;exact .inr rfl
 |_,_,i+1,_, .no h,e=>by simpa using Wk.at (i:=i) h (by simpa using e)
 |_,_,i+1,_, .eq h,e=>by simpa using Wk.at (i:=i) h (by simpa using e)
theorem Wk.len{r r':Rh}(h:Wk r r'):r.length=r'.length:=by
 induction h with
 |nil=>rfl
 |no _ ih=>simp[ih]
 |eq _ ih=>simp[ih]
theorem Wd.wk{ρ':Rh}(W:Wd G nb ρ' σ H)(h:Wk ρ ρ'):Wd G nb ρ σ H where
 az:=W.az
 live:=W.live
 old:=W.old
 cK:=W.cK
 gA:=W.gA
 len:=by rw[h.len];exact W.len
 gB:=W.gB
 fO:=W.fO
 ok:=fun i s e=>by
  rcases h.at e with ⟨rfl,t,e'⟩|e'
  ·obtain⟨x,e1,_⟩:=W.ok i t e';exact⟨x,e1,trivial⟩
  ·exact W.ok i s e'
 apart:=fun i j a f as c g cs hij e1 e2=>by
  rcases h.at e1 with ⟨z,_⟩|ja
  ·cases z
  rcases h.at e2 with ⟨z,_⟩|e2'
  ·cases z
  exact W.apart i j a f as c g cs hij ja e2'
 eH:=fun i j a f as c g cs hij e1 e2=>by
  rcases h.at e1 with ⟨z,_⟩|ja
  ·cases z
  rcases h.at e2 with ⟨z,_⟩|e2'
  ·cases z
  exact W.eH i j a f as c g cs hij ja e2'
 cR:=fun i j c s hij e1 e2 a ha=>by
  rcases h.at e1 with ⟨z,_⟩|ja
  ·cases z
  rcases h.at e2 with ⟨z,_⟩|e2'
  ·subst z;exact fun z=>by cases z
  exact W.cR i j c s hij ja e2' a ha
theorem Wd.more(W:Wd G nb ρ σ H)(hp:H p=none){o:HO}:Wd G (fun a=>nb a\/a=p) ρ σ (upd H p o):=by
 have hS:cH H (upd H p o):=cD hp
 have hN:NB G.B p:=fun b l e z=>by
  subst z
  obtain⟨_,_,_,_,_,h1,_⟩:=W.az _ _ e
  rw[h1] at hp;cases hp
 have W':=W.step (Step.same W.az hS)
 have hA:∀f a,G.S (fun a=>nb a\/a=p) f a->(G.S nb f a\/a=p):=fun f a z=>by
  rcases z with (z|z)|z|z|z
  ·exact .inl (.inl z)
  ·exact .inr z
  ·exact .inl (.inr (.inl z))
  ·exact .inl (.inr (.inr (.inl z)))
  ·exact .inl (.inr (.inr (.inr z)))
 refine⟨W'.az,fun a n=>?_,W'.old,fun a n q=>?_,W.gA,W.len,W.gB,fun h m=>(((W.fO h m).fresh hp).av (hA h.1)).keep (aI.of hS),fun i s e=>?_,W.apart,W.eH,W.cR⟩
 ·rcases n with n|n
  ·exact W'.live a n
  ·subst n;rw[aS];exact iu _
 ·rcases n with n|n
  ·exact W.cK a n q
  ·subst n
   cases e:G.H0 a with
   |none=>rfl
   |some o=>rw[W.old a o q e] at hp;cases hp
 ·obtain⟨x,e1,h⟩:=W.ok i s e
  refine⟨x,e1,?_⟩
  cases s with
  |no=>trivial
  |d f d=>obtain⟨v,e,h⟩:=h;exact⟨v,e,((h.fresh hp).av (hA f)).keep (aI.of hS)⟩
  |own a f ds=>obtain⟨e,n,q,xs,hx,hd⟩:=h;exact⟨e, .inl n,q,xs,hS _ _ hx,((hd.fresh hp).av (hA f)).keep (aI.of hS)⟩
  |az=>exact h
  |raw v=>exact h
  |bf a f ds=>obtain⟨e,n,q,xs,hx,hd⟩:=h;exact⟨e, .inl n,q,xs,hS _ _ hx,((hd.fresh hp).av (hA f)).keep (aI.of hS)⟩
  |cu c=>obtain⟨e,n,q⟩:=h;exact⟨e,fun a ha=>⟨.inl (n a ha).1,(n a ha).2⟩,c.keep (.of fun a o _ e=>hS a o e) (c.av (hA c.f) (c.fresh hp q))⟩
theorem Wd.write(W:Wd G nb ρ σ H){o:HO}(hp:nb p)(hN:NB G.B p)(ho:∀(i:Nat) a f ds,ρ[i]?=some (.own a f ds)->a≠p)(hod:∀(i:Nat) a f ds,ρ[i]?=some (.bf a f ds)->a≠p)(hoc:∀(i:Nat) c,ρ[i]?=some (.cu c)->p∉c.F):Wd G nb ρ σ (upd H p o):=by
  have hl:∀b l,G.B=some (b,l)->p≠l:=fun b l e z=>by
    obtain⟨_,_,_,_,_,_,h2,_⟩:=W.gB b l e
    rw[<-z,W.cK p hp hN] at h2;cases h2
  have hB:jd G.B (upd H p o):=fun b l e=>(W.az b l e).put2 ⟨hN b l e,hl b l e⟩
  have bt:∀f,aI (G.S nb f) H (upd H p o):=fun f=>aI.set (.inl hp)
  refine⟨hB,fun a n=>?_,fun a o' n e=>?_,W.cK,W.gA,W.len,W.gB,fun h m=>(W.fO h m).keep (bt h.1),fun i s e=>?_,W.apart,W.eH,W.cR⟩
  · by_cases z:a=p
    · subst z;rw[aS];exact iu _
    · rw[aH z];exact W.live a n
  · have z:a≠p:=fun z=>by subst z;rw[W.cK a hp n] at e;cases e
    rw[aH z];exact W.old a o' n e
  · obtain⟨x,e1,h⟩:=W.ok i s e
    refine⟨x,e1,?_⟩
    cases s with
    |no=>trivial
    |d f d=>obtain⟨v,e,h⟩:=h;exact⟨v,e,h.keep (bt f)⟩
    |own a f ds=>obtain⟨e',n,q,xs,hx,hd⟩:=h;exact⟨e',n,q,xs,by rw[aH (ho i a f ds e)];exact hx,hd.keep (bt f)⟩
    |az=>exact h
    |raw v=>exact h
    |bf a f ds=>obtain⟨e',n,q,xs,hx,hd⟩:=h;exact⟨e',n,q,xs,by rw[aH (hod i a f ds e)];exact hx,hd.keep (bt f)⟩
    | cu c =>
      obtain⟨e',n,q⟩:=h
      refine⟨e',n,c.keep (.of fun a o' ha e''=>?_) q⟩
      rw[aH]
      · exact e''
      · rintro rfl
        rcases ha with ha|ha
        · exact ha (.inl hp)
        · exact hoc i c e ha
end
end L2
set_option maxRecDepth 100000
set_option maxHeartbeats 1000000
namespace L2
open PySem PySem.Spec PyProof.Rows
abbrev Pd:=Bool->PyData->Prop
def Ev(G:Gx)(ρ:Rh)(te:TE)(Φ:Pd):Prop:=∀nb σ H (Q:VK),Wd G nb ρ σ H->(∀f v H' d,Φ f d->Step G.B H H'->ah (G.S nb f) H' d v->Q v H')->te σ H Q
def ay(G:Gx)(ρ:Rh)(te:TE)(Φ:Bool->List PyData->Prop):Prop:=∀nb σ H (Q:VK),Wd G nb ρ σ H->
 (∀f a xs H' ds,Φ f ds->Step G.B H H'->H a=none->H' a=some (.lst xs)->af (fun x=>G.S nb f x\/x=a) H' ds xs->Q (.ref a) H')->te σ H Q
def Tv(G:Gx)(ρ:Rh)(tt:TT)(Φ:Bool->Prop):Prop:=∀nb σ H (Q:Bool->Hp->Prop),Wd G nb ρ σ H->(∀b H',Φ b->Step G.B H H'->Q b H')->tt σ H Q
def Ov(G:Gx)(ρ:Rh)(to:TO)(Φ:Option Int->Prop):Prop:=∀nb σ H (Q:Option Int->Hp->Prop),Wd G nb ρ σ H->(∀o H',Φ o->Step G.B H H'->Q o H')->to σ H Q
abbrev Fd:=Bool×PyData
def jO(G:Gx)(nb:Addr->Prop)(H:Hp):List Fd->List V->Prop
 |[],vs=>vs=[]
 |e::es,vs=>∃v ws,vs=v::ws/\ah (G.S nb e.1) H e.2 v/\jO G nb H es ws
def Av(G:Gx)(ρ:Rh)(ta:TA)(Φ:List Fd->Prop):Prop:=∀nb σ H (Q:List V->Hp->Prop),Wd G nb ρ σ H->(∀es vs H',Φ es->Step G.B H H'->jO G nb H' es vs->Q vs H')->ta σ H Q
def Gv(G:Gx)(ρ:Rh)(g:TG)(f:Bool)(d:PyData)(Φ:Rh->Prop):Prop:=∀nb σ H v (Q:St->Hp->Prop),Wd G nb ρ σ H->ah (G.S nb f) H d v->(∀σ' ρ',Φ ρ'->Wd G nb ρ' σ' H->Q σ' H)->g v σ H Q
def pH(G:Gx)(ρ:Rh)(g:iJ)(f:Bool)(ds:List PyData)(Φ:Rh->Prop):Prop:=∀nb σ H vs (Q:St->Hp->Prop),Wd G nb ρ σ H->af (G.S nb f) H ds vs->(∀σ' ρ',Φ ρ'->Wd G nb ρ' σ' H->Q σ' H)->g vs σ H Q
structure DE where
 nx:Rh->Prop
 rt:Pd
 bk:Rh->Prop:=fun _=>False
 ct:Rh->Prop:=fun _=>False
 rw:(Addr->Prop)->Rh->V->Hp->Prop:=fun _ _ _ _=>False
structure Am(G:Gx)(E:DE)(D:Ends):Prop where
 nx:∀nb ρ σ H,E.nx ρ->Wd G nb ρ σ H->D.nx σ H
 bk:∀nb ρ σ H,E.bk ρ->Wd G nb ρ σ H->D.bk σ H
 ct:∀nb ρ σ H,E.ct ρ->Wd G nb ρ σ H->D.ct σ H
 rt:∀nb ρ σ f v H d,E.rt f d->Wd G nb ρ σ H->ah (G.S (fun _=>False) f) H d v->D.rt v H
 rw:∀nb ρ σ v H,E.rw nb ρ v H->Wd G nb ρ σ H->D.rt v H
def Sv(G:Gx)(ρ:Rh)(ts:TS)(E:DE):Prop:=∀nb σ H D,Wd G nb ρ σ H->Am G E D->ts D σ H
def ig:PyData->Bool
 | .none=>true| .bool _=>true| .int _=>true| .str _=>true|_=>false
def toV:PyData->V
 | .bool b=> .bl b| .int i=> .int i| .str x=> .str x|_=> .aG
section
variable{nb bU:Addr->Prop}{H H':Hp}{d e:PyData}{v:V}
theorem ah.sc(h:ig d=true):ah nb H d (toV d):=by
 cases d<;>first|(cases h;done)|(unfold ah;rfl)
theorem ah.Rc(h:ig d=true)(q:ah nb H d v):v=toV d:=by
 cases d<;>first|(cases h;done)|(unfold ah at q;exact q)
theorem ah.jN(h:ig d=true)(q:ah nb H d v):ah bU H' d v:=by
 rw[q.Rc h];exact .sc h
theorem af.jN:∀{ds:List PyData} {xs:List V},ds.all ig=true->af nb H ds xs->af bU H' ds xs
  |[],_,_,q=>by unfold af at q⊢;exact q
  | d :: ds, _, h, q => by
    rw[lU,cV] at h
    unfold af at q⊢
    obtain⟨y,ys,e,h1,h2⟩:=q
    exact⟨y,ys,e,h1.jN h.1,af.jN h.2 h2⟩
end
section
variable{G:Gx}{ρ:Rh}{Φ Ψ:Pd}{ta tb te:TE}{t:TA}{i:Nat}{f g:Bool}{d e:PyData}{ds es:List PyData}{K:PySem.W.Frag}
theorem Ev.mono(h:Ev G ρ te Ψ)(q:∀f d,Ψ f d->Φ f d):Ev G ρ te Φ:=fun nb σ H Q W z=>h nb σ H Q W fun f v H' d p=>z f v H' d (q f d p)
theorem ay.ev(h:ay G ρ te fun f ds=>Φ f (.list ds)):Ev G ρ te Φ:=fun nb σ H Q W z=>h nb σ H Q W fun f a xs H' ds p st n e hd=>
 z f _ H' _ p st (.lst (W.fresh n) e (hd.av fun _ x=> .inl x))
namespace Ev
theorem var(e:ρ[i]?=some (.d f d))(h:Φ f d):Ev G ρ (bE i) Φ:=fun nb σ H Q W z=>by
 obtain⟨x,e1,v,rfl,hd⟩:=W.ok i _ e
 exact⟨v,e1,z f v H d h (.refl W.az) hd⟩
theorem int{n:Int}(h:Φ true (.int n)):Ev G ρ (tC (.int n)) Φ:=fun nb σ H Q W z=>z true _ H _ h (.refl W.az) (.int n)
theorem bl{b:Bool}(h:Φ true (.bool b)):Ev G ρ (tC (.bl b)) Φ:=fun nb σ H Q W z=>z true _ H _ h (.refl W.az) (.bl b)
theorem aG(h:Φ true .none):Ev G ρ (tC .aG) Φ:=fun nb σ H Q W z=>z true _ H _ h (.refl W.az) .aG
theorem iV{r:R2}(h:Ev G ρ ta fun f x=>Ev G ρ tb fun g y=>∀nb σ H u v (Q:VK),Wd G nb ρ σ H->ah (G.S nb f) H x u->ah (G.S nb g) H y v->(∀f w H' d,Φ f d->Step G.B H H'->ah (G.S nb f) H' d w->Q w H')->r u v H Q):Ev G ρ (bW r ta tb) Φ:=fun nb σ H Q W z=>
 h nb σ H _ W fun f v1 H1 d1 p1 s1 q1=>p1 nb σ H1 _ (W.step s1) fun g v2 H2 d2 p2 s2 q2=>p2 nb σ H2 _ _ _ ((W.step s1).step s2) (q1.keep s2.dj) q2 fun f w H' d p st q=>z f w H' d p (s1.trans (s2.trans st)) q
theorem rI{C:Int->Int->Prop}{k:Int->Int->Int}(h:Ev G ρ ta fun _ x=>∃i,x= .int i/\Ev G ρ tb fun _ y=>∃j,y= .int j/\C i j/\Φ true (.int (k i j))):Ev G ρ (bW (L2.rI C fun i j=> .int (k i j)) ta tb) Φ:=
 iV (h.mono fun f x ⟨i,ex,q⟩=>q.mono fun g y ⟨j,ey,hc,p⟩ nb σ H u v Q W hu hv z=>by
  subst ex ey;exact⟨i,j,hu.bL,hv.bL,hc,z true _ H _ p (.refl W.az) (.int _)⟩)
theorem gE{k:Int->Int->Int}(h:Ev G ρ ta fun _ x=>∃i,x= .int i/\Ev G ρ tb fun _ y=>∃j,y= .int j/\Φ true (.int (k i j))):Ev G ρ (bW (L2.gE fun i j=> .int (k i j)) ta tb) Φ:=
 iV (h.mono fun f x ⟨i,ex,q⟩=>q.mono fun g y ⟨j,ey,p⟩ nb σ H u v Q W hu hv z=>by
  subst ex ey;exact⟨i,j,hu.bL,hv.bL,z true _ H _ p (.refl W.az) (.int _)⟩)
theorem MX{k:Int->Int->Bool}(h:Ev G ρ ta fun _ x=>∃i,x= .int i/\Ev G ρ tb fun _ y=>∃j,y= .int j/\Φ true (.bool (k i j))):Ev G ρ (bW (L2.gE fun i j=> .bl (k i j)) ta tb) Φ:=
 iV (h.mono fun f x ⟨i,ex,q⟩=>q.mono fun g y ⟨j,ey,p⟩ nb σ H u v Q W hu hv z=>by
  subst ex ey;exact⟨i,j,hu.bL,hv.bL,z true _ H _ p (.refl W.az) (.bl _)⟩)
theorem un{r:V->Hp->VK->Prop}(h:Ev G ρ ta fun f x=>∀nb σ H u (Q:VK),Wd G nb ρ σ H->ah (G.S nb f) H x u->(∀f w H' d,Φ f d->Step G.B H H'->ah (G.S nb f) H' d w->Q w H')->r u H Q):Ev G ρ (vV r ta) Φ:=fun nb σ H Q W z=>
 h nb σ H _ W fun f v1 H1 d1 p1 s1 q1=>p1 nb σ H1 _ _ (W.step s1) q1 fun f w H' d p st q=>z f w H' d p (s1.trans st) q
theorem rU{k:Int->Int}(h:Ev G ρ ta fun _ x=>∃i,x= .int i/\Φ true (.int (k i))):Ev G ρ (vV (L2.rU fun i=> .int (k i)) ta) Φ:=
 un (h.mono fun f x ⟨i,ex,p⟩ nb σ H u Q W hu z=>by subst ex;exact⟨i,hu.bL,z true _ H _ p (.refl W.az) (.int _)⟩)
end Ev
inductive fV:PyData->PyData->Bool->Prop
 |ii (i j:Int):fV (.int i) (.int j) (decide (i=j))
 |ni (i:Int):fV .none (.int i) false
 |R1 (i:Int):fV (.int i) .none false
 |nn:fV .none .none true
 |bb (a b:Bool):fV (.bool a) (.bool b) (a==b)
 |ss (x:Str):fV (.str x) (.str x) true
 |sd (x y:Str):fV (.str x) (.str y) (decide (x=y))
theorem fV.v{nb bU:Addr->Prop}{H:Hp}{x y:PyData}{b:Bool}{u v:V}(h:fV x y b)(hu:ah nb H x u)(hv:ah bU H y v):vO u v=true/\decide (u=v)=b:=by
 cases h<;>(unfold ah at hu hv;subst hu hv;refine⟨rfl,?_⟩)
 ·exact R.GO
 ·rfl
 ·rfl
 ·rfl
 ·rename_i a b;cases a<;>cases b<;>rfl
 ·exact decide_eq_true rfl
 ·rename_i x y
  by_cases c:x=y
  ·subst c;rw[decide_eq_true rfl,decide_eq_true rfl]
  ·rw[decide_eq_false c,decide_eq_false (fun z=>c (V.str.inj z))]
theorem fV.self{d:PyData}(h:ig d=true):fV d d true:=by
 cases d<;>first|(cases h;done)|skip
 ·exact .nn
 ·rename_i b;have:=fV.bb b b;rwa[beq_self_eq_true] at this
 ·rename_i i;have:=fV.ii i i;rwa[decide_eq_true rfl] at this
 ·exact .ss _
namespace Ev
theorem eq(h:Ev G ρ ta fun _ x=>Ev G ρ tb fun _ y=>∃b,fV x y b/\Φ true (.bool b)):Ev G ρ (bW AD ta tb) Φ:=
 iV (h.mono fun f x q=>q.mono fun g y ⟨b,e,p⟩ nb σ H u v Q W hu hv z=>by
  obtain⟨h1,h2⟩:=e.v hu hv
  exact⟨h1,by rw[h2];exact z true _ H _ p (.refl W.az) (.bl _)⟩)
theorem ne(h:Ev G ρ ta fun _ x=>Ev G ρ tb fun _ y=>∃b,fV x y b/\Φ true (.bool !b)):Ev G ρ (bW Ct ta tb) Φ:=
 iV (h.mono fun f x q=>q.mono fun g y ⟨b,e,p⟩ nb σ H u v Q W hu hv z=>by
  obtain⟨h1,h2⟩:=e.v hu hv
  exact⟨h1,by rw[h2];exact z true _ H _ p (.refl W.az) (.bl _)⟩)
theorem EC{ng:Bool}(h:Ev G ρ ta fun _ x=>Ev G ρ tb fun _ y=>SeqAt.shaped x=true/\SeqAt.shaped y=true/\Φ true (.bool (PyData.eqv x y !=ng))):Ev G ρ (bW (Ag ng) ta tb) Φ:=
 iV (h.mono fun f x q=>q.mono fun g y ⟨h1,h2,p⟩ nb σ H u v Q W hu hv z=>
  ⟨G.S nb false,x,y,hu.av (bF (fun z=>by cases z) fun _ z=>z),hv.av (bF (fun z=>by cases z) fun _ z=>z),h1,h2,z true _ H _ p (.refl W.az) (.bl _)⟩)
end Ev
def xQ:PyData->Bool
 | .none=>true
 |_=>false
theorem Le{nb:Addr->Prop}{H:Hp}{d:PyData}{v:V}(h:ah nb H d v):decide (v= .aG)=xQ d:=by
 cases d<;>unfold ah at h
 all_goals first
  |(subst h;rfl)
  |(obtain⟨a,xs,rfl,_⟩:=h;rfl)
  |exact h.elim
namespace Ev
theorem is(h:Ev G ρ ta fun _ x=>Φ true (.bool (xQ x))):Ev G ρ (bW G9 ta (tC .aG)) Φ:=
 iV (h.mono fun f x p=>Ev.aG fun nb σ H u v Q W hu hv z=>⟨hv.Rl,by rw[Le hu];exact z true _ H _ p (.refl W.az) (.bl _)⟩)
end Ev
theorem af.bh{nb:Addr->Prop}{H:Hp}{ds:List PyData}{xs:List V}{k:Int}{e:PyData}(h:af nb H ds xs)(q:L2.bh ds k=some e):∃v,L2.bh xs k=some v/\ah nb H e v:=by
 unfold L2.bh at q⊢
 rw[h.length]
 cases z:fQ ds.length k with
 |none=>rw[z] at q;cases q
 |some j=>rw[z] at q;exact h.get q
namespace Ev
theorem tH(h:Ev G ρ ta fun f x=>∃ds,x= .list ds/\Ev G ρ tb fun _ y=>∃k,y= .int k/\∃e,bh ds k=some e/\Φ f e):Ev G ρ (bW (cO K) ta tb) Φ:=
 iV (h.mono fun f x ⟨ds,ex,q⟩=>q.mono fun g y ⟨k,ey,e,he,p⟩ nb σ H u v Q W hu hv z=>by
  subst ex ey
  obtain⟨a,xs,rfl,n,hx,hd⟩:=hu.cG
  obtain⟨w,hw,hD⟩:=hd.bh he
  exact⟨a,xs,k,w,rfl,hv.bL, .of hx,hw,z f _ H _ p (.refl W.az) hD⟩)
theorem Rm(h:Ev G ρ ta fun f x=>∃ds,x= .tuple ds/\Ev G ρ tb fun _ y=>∃k,y= .int k/\∃e,bh ds k=some e/\Φ f e):Ev G ρ (bW (dZ K) ta tb) Φ:=
 iV (h.mono fun f x ⟨ds,ex,q⟩=>q.mono fun g y ⟨k,ey,e,he,p⟩ nb σ H u v Q W hu hv z=>by
  subst ex ey
  obtain⟨a,xs,rfl,n,hx,hd⟩:=hu.ofT
  obtain⟨w,hw,hD⟩:=hd.bh he
  exact⟨a,xs,k,w,rfl,hv.bL, .of hx,hw,z f _ H _ p (.refl W.az) hD⟩)
theorem Fb{a:Addr}(e:ρ[i]?=some (.own a f ds))(h:Ev G ρ tb fun _ y=>∃k,y= .int k/\∃e,bh ds k=some e/\Φ f e):Ev G ρ (bW (cO K) (bE i) tb) Φ:=fun nb σ H Q W z=>by
 obtain⟨x,e1,h1,h2,h3,xs,hx,hd⟩:=W.ok i _ e
 subst h1
 refine⟨.ref a,e1,h nb σ H _ W fun g w H1 y ⟨k,ey,e',he,p⟩ s1 hv=>?_⟩
 subst ey
 obtain⟨u,hu,hD⟩:=(hd.keep s1.dj).bh he
 exact⟨a,xs,k,u,rfl,hv.bL, .of (s1.1 _ _ h3 hx),hu,z f _ H1 _ p s1 hD⟩
theorem Nc(h:Ev G ρ ta fun _ x=>∃b,x= .bool b/\if b=true then Ev G ρ tb Φ else Φ true (.bool false)):Ev G ρ (Df ta tb) Φ:=fun nb σ H Q W z=>
 h nb σ H _ W fun f v H1 d ⟨b,e,q⟩ s1 hv=>by
  subst e
  refine⟨b,by unfold ah at hv;exact hv,?_⟩
  cases b with
  |true=>rw[if_pos rfl] at q⊢;exact q nb σ H1 _ (W.step s1) fun f v H' d p st=>z f v H' d p (s1.trans st)
  |false=>rw[if_neg bz] at q⊢;exact z true _ H1 _ q s1 (.bl false)
end Ev
namespace Tv
variable{Θ:Bool->Prop}{t u:TT}
theorem test(h:Ev G ρ te fun _ x=>∃b,x= .bool b/\Θ b):Tv G ρ (sP te) Θ:=fun nb σ H Q W z=>
 h nb σ H _ W fun f v H1 d ⟨b,e,q⟩ s1 hv=>by subst e;exact⟨b,by unfold ah at hv;exact hv,z b H1 q s1⟩
theorem and(h:Tv G ρ t fun b=>if b=true then Tv G ρ u Θ else Θ false):Tv G ρ (yt t u) Θ:=fun nb σ H Q W z=>
 h nb σ H _ W fun b H1 q s1=>by
  cases b with
  |true=>rw[if_pos rfl] at q⊢;exact q nb σ H1 _ (W.step s1) fun b H' p st=>z b H' p (s1.trans st)
  |false=>rw[if_neg bz] at q⊢;exact z false H1 q s1
theorem or(h:Tv G ρ t fun b=>if b=true then Θ true else Tv G ρ u Θ):Tv G ρ (Er t u) Θ:=fun nb σ H Q W z=>
 h nb σ H _ W fun b H1 q s1=>by
  cases b with
  |false=>rw[if_neg bz] at q⊢;exact q nb σ H1 _ (W.step s1) fun b H' p st=>z b H' p (s1.trans st)
  |true=>rw[if_pos rfl] at q⊢;exact z true H1 q s1
theorem not(h:Tv G ρ t fun b=>Θ (!b)):Tv G ρ (Cg t) Θ:=fun nb σ H Q W z=>h nb σ H _ W fun b H1 q s1=>z _ H1 q s1
theorem nO(h:Θ true):Tv G ρ kc Θ:=fun nb σ H Q W z=>z true H h (.refl W.az)
end Tv
def rJ(K:PySem.W.Frag)(ta:TE):TT:=fun σ H Q=>ta σ H fun x H1=>∃k,zL K x H1 k/\Q k H1
theorem Tv.zR{Θ:Bool->Prop}(h:Ev G ρ te fun _ x=>∃b,x= .bool b/\Θ b):Tv G ρ (rJ K te) Θ:=fun nb σ H Q W z=>
 h nb σ H _ W fun f v H1 d ⟨b,e,q⟩ s1 hv=>by subst e;exact⟨b,by unfold ah at hv;subst hv;rfl,z b H1 q s1⟩
namespace Av
variable{Θ:List Fd->Prop}
theorem nil(h:Θ []):Av G ρ aQ Θ:=fun nb σ H Q W z=>z [] [] H h (.refl W.az) rfl
theorem cons(h:Ev G ρ te fun f d=>Av G ρ t fun es=>Θ ((f,d)::es)):Av G ρ (aK te t) Θ:=fun nb σ H Q W z=>
 h nb σ H _ W fun f v H1 d p1 s1 q1=>p1 nb σ H1 _ (W.step s1) fun es vs H2 p2 s2 q2=>z _ _ H2 p2 (s1.trans s2) ⟨v,vs,rfl,q1.keep s2.dj,q2⟩
theorem yP{is:List Int}(h:Θ (is.map fun i=>(true, .int i))):Av G ρ (rD is) Θ:=fun nb σ H Q W z=>z _ _ H h (.refl W.az) (by
 clear h
 induction is with
 |nil=>rfl
 |cons i r ih=>exact⟨_,_,rfl, .int i,ih⟩)
end Av
def i6(es:List Fd):Bool:=es.all (·.1)
theorem jO.all{nb:Addr->Prop}{H:Hp}:∀{es:List Fd} {vs:List V} {f:Bool},jO G nb H es vs->(f=true->i6 es=true)->af (G.S nb f) H (es.map (·.2)) vs
  |[],_,_,h,_=>by unfold jO at h;subst h;exact .nil
  | e :: es, _, f, h, hf => by
    obtain⟨v,ws,rfl,h1,h2⟩:=h
    refine .cons (h1.av (bF (fun z=>?_) fun _ z=>z)) (h2.all fun z=>?_)
    · have:=hf z;simp only[i6,lU,cV] at this;exact this.1
    · have:=hf z;simp only[i6,lU,cV] at this;exact this.2
theorem jO.len{nb:Addr->Prop}{H:Hp}{es:List Fd}{vs:List V}(h:jO G nb H es vs):vs.length=es.length:=by
 have:=(h.all (f:=false) (fun z=>by cases z)).length
 simpa using this
theorem ay.lst{Φ:Bool->List PyData->Prop}(h:Av G ρ t fun es=>es.length<=10000/\Φ (i6 es) (es.map (·.2))):ay G ρ (l8 t) Φ:=fun nb σ H Q W z=>
  h nb σ H _ W fun es vs H1 ⟨hl,p⟩ s1 q1=>⟨cL (by rw[q1.len];exact hl) (by decide),fun a ha=>by
    have W1:=W.step s1
    refine z _ a vs _ _ p (s1.trans (.same W1.az (cD ha))) ?_ aS (((q1.all fun z=>z).fresh ha).keep (aI.of (cD ha)))
    cases e:H a with
    |none=>rfl
    | some o =>
      by_cases n:NB G.B a
      · rw[s1.1 a o n e] at ha;cases ha
      · exact absurd ha (NB.nF s1.2 n)⟩
theorem Ev.lst(h:Av G ρ t fun es=>es.length<=10000/\Φ (i6 es) (.list (es.map (·.2)))):Ev G ρ (l8 t) Φ:=(ay.lst (Φ:=fun f ds=>Φ f (.list ds)) h).ev
end
end L2
set_option maxRecDepth 100000
set_option maxHeartbeats 1000000
namespace L2
open PySem PySem.Spec PyProof.Rows
def eT(K:PySem.W.Frag):List V->Hp->VK->Prop:=fun xs H Q=>∃p ys,xs=[.ref p]/\(aF K H p ys\/fU K H p ys)/\Q (.int ys.length) H
theorem gF{X:Cx}:eF X (.builtin "len") (eT X.K):=Cw
def gM{α:Type}(xs:List α)(lo hi:Option Int):List α:=(xs.drop (HT.dJ xs.length 0 lo)).take (HT.dJ xs.length xs.length hi-HT.dJ xs.length 0 lo)
theorem af.cut{nb:Addr->Prop}{H:Hp}{ds:List PyData}{xs:List V}{lo hi:Option Int}(h:af nb H ds xs):af nb H (gM ds lo hi) (kF xs lo hi):=by
 unfold gM kF
 rw[h.length]
 exact(h.drop _).take _
def fu(ds:List PyData):Bool:=ds.all ig
section
variable{G:Gx}{ρ:Rh}{Φ Ψ:Pd}{ta tb te:TE}{t:TA}{i:Nat}{f g:Bool}{d e:PyData}{ds es:List PyData}{K:PySem.W.Frag}
theorem Wd.none_of{nb:Addr->Prop}{σ:St}{H H1:Hp}{a:Addr}(W:Wd G nb ρ σ H)(s1:Step G.B H H1)(ha:H1 a=none):H a=none:=by
  cases e:H a with
  |none=>rfl
  | some o =>
    by_cases n:NB G.B a
    · rw[s1.1 a o n e] at ha;cases ha
    · exact absurd ha (NB.nF s1.2 n)
theorem ay.fin{nb:Addr->Prop}{σ:St}{H H1:Hp}{Q:VK}{Φ:Bool->List PyData->Prop}{a:Addr}{xs:List V}(W:Wd G nb ρ σ H)(s1:Step G.B H H1)(ha:H1 a=none)(hd:af (G.S nb f) H1 ds xs)(p:Φ (f||fu ds) ds)
  (z:∀f a xs H' ds,Φ f ds->Step G.B H H'->H a=none->H' a=some (.lst xs)->af (fun x=>G.S nb f x\/x=a) H' ds xs->Q (.ref a) H'):Q (.ref a) (upd H1 a (.lst xs)):=by
 refine z _ a xs _ ds p (s1.trans (.same s1.2 (cD ha))) (W.none_of s1 ha) aS ?_
 cases hs:fu ds with
 |true=>exact af.jN hs hd
 |false=>rw[mH];exact(hd.fresh ha).keep (aI.of (cD ha))
namespace Ov
variable{Θ:Option Int->Prop}
theorem none(h:Θ none):Ov G ρ w9 Θ:=fun nb σ H Q W z=>z _ H h (.refl W.az)
theorem some(h:Ev G ρ te fun _ x=>∃k,x= .int k/\Θ (some k)):Ov G ρ (zE te) Θ:=fun nb σ H Q W z=>
 h nb σ H _ W fun f v H1 d ⟨k,e,q⟩ s1 hv=>by subst e;exact⟨k,hv.bL,z _ H1 q s1⟩
end Ov
namespace ay
variable{Θ:Bool->List PyData->Prop}
theorem sl{tl th:TO}(h:Ev G ρ te fun f x=>∃ds,x= .list ds/\Ov G ρ tl fun lo=>Ov G ρ th fun hi=>Θ (f||fu (gM ds lo hi)) (gM ds lo hi)):ay G ρ (qZ (qv K) te tl th) Θ:=fun nb σ H Q W z=>
 h nb σ H _ W fun f v H1 d ⟨ds,e,q⟩ s1 hv=>q nb σ H1 _ (W.step s1) fun lo H2 q2 s2=>q2 nb σ H2 _ ((W.step s1).step s2) fun hi H3 q3 s3=>by
  subst e
  obtain⟨a,xs,rfl,n,hx,hd⟩:=((hv.keep s2.dj).keep s3.dj).cG
  exact⟨a,xs,rfl, .of hx,fun p hp=>ay.fin W (s1.trans (s2.trans s3)) hp hd.cut q3 z⟩
theorem listOf(h:Ev G ρ te fun f x=>∃ds,(x= .list ds\/x= .tuple ds)/\Θ (f||fu ds) ds):ay G ρ (dw (l7 K) (aK te aQ)) Θ:=fun nb σ H Q W z=>
 h nb σ H _ W fun f v H1 d ⟨ds,e,q⟩ s1 hv=>by
  rcases e with e|e
  ·subst e
   obtain⟨a,xs,rfl,n,hx,hd⟩:=hv.cG
   exact⟨a,xs,rfl, .inl (.of hx),fun p hp=>ay.fin W s1 hp hd q z⟩
  ·subst e
   obtain⟨a,xs,rfl,n,hx,hd⟩:=hv.ofT
   exact⟨a,xs,rfl, .inr (.of hx),fun p hp=>ay.fin W s1 hp hd q z⟩
theorem cat(h:Ev G ρ ta fun f x=>∃ds,x= .list ds/\Ev G ρ tb fun g y=>∃es,y= .list es/\ds.length+es.length<=10000/\Θ ((f && g)||fu (ds++es)) (ds++es)):ay G ρ (bW uD ta tb) Θ:=fun nb σ H Q W z=>
 h nb σ H _ W fun f v H1 d ⟨ds,e,q⟩ s1 hv=>q nb σ H1 _ (W.step s1) fun g u H2 d2 ⟨es,e2,hl,p⟩ s2 hu=>by
  subst e e2
  obtain⟨a,xs,rfl,n,hx,hd⟩:=(hv.keep s2.dj).cG
  obtain⟨c,ys,rfl,m,hy,hc⟩:=hu.cG
  refine⟨a,c,xs,ys,rfl,rfl,hx,hy,cL (by rw[hd.length,hc.length];exact hl) (by decide),fun p' hp=>ay.fin (f:=f && g) W (s1.trans s2) hp ?_ p z⟩
  exact af.append (hd.av (bF (fun z=>(cV _ _▸z).1) fun _ z=>z)) (hc.av (bF (fun z=>(cV _ _▸z).2) fun _ z=>z))
end ay
namespace Ev
theorem sl{tl th:TO}(h:Ev G ρ te fun f x=>∃ds,x= .list ds/\Ov G ρ tl fun lo=>Ov G ρ th fun hi=>Φ (f||fu (gM ds lo hi)) (.list (gM ds lo hi))):Ev G ρ (qZ (qv K) te tl th) Φ:=(ay.sl (Θ:=fun f ds=>Φ f (.list ds)) h).ev
theorem listOf(h:Ev G ρ te fun f x=>∃ds,(x= .list ds\/x= .tuple ds)/\Φ (f||fu ds) (.list ds)):Ev G ρ (dw (l7 K) (aK te aQ)) Φ:=(ay.listOf (Θ:=fun f ds=>Φ f (.list ds)) h).ev
theorem cat(h:Ev G ρ ta fun f x=>∃ds,x= .list ds/\Ev G ρ tb fun g y=>∃es,y= .list es/\ds.length+es.length<=10000/\Φ ((f && g)||fu (ds++es)) (.list (ds++es))):Ev G ρ (bW uD ta tb) Φ:=(ay.cat (Θ:=fun f ds=>Φ f (.list ds)) h).ev
theorem FI{a:Addr}(e:ρ[i]?=some (.own a f ds))(h:Φ true (.int ds.length)):Ev G ρ (dw (eT K) (aK (bE i) aQ)) Φ:=fun nb σ H Q W z=>by
 obtain⟨x,e1,h1,h2,h3,xs,hx,hd⟩:=W.ok i _ e
 subst h1
 exact⟨.ref a,e1,a,xs,rfl, .inl (.of hx),by rw[hd.length];exact z true _ H _ h (.refl W.az) (.int _)⟩
end Ev
abbrev DF:=List PyData->Pd->Prop
def dh(n:Nat)(F:DF):Sp:=fun vs H Q _=>vs.length=n/\∃(nb:Addr->Prop) (ds:List PyData),jW nb H/\af nb H ds vs/\F ds fun f d=>∀v H',cH H H'->ah (fun a=>nb a\/(f=true/\H a≠none)) H' d v->Q v H'
def eO(n:Nat)(F:DF):Sp:=fun vs H Q _=>vs.length=n/\∃(b l:Addr) (ws:List V) (nb:Addr->Prop) (ds:List PyData),vs= .ref b::ws/\cW H b l/\jW nb H/\nb b/\af nb H ds ws/\
 F ds fun f d=>∀v H',aI (Nb b) H H'->cW H' b l->ah (fun a=>nb a\/(f=true/\H a≠none)) H' d v->Q v H'
def eN(F:DF):Prop:=∀ds (Φ Ψ:Pd),F ds Φ->(∀f d,Φ f d->Ψ f d)->F ds Ψ
theorem Ev.fR{n:Nat}{F:DF}(hm:eN F)(h:Av G ρ t fun es=>es.length=n/\F (es.map (·.2)) fun f d=>Φ (f||i6 es) d):Ev G ρ (gb (dh n F) [] E0 t) Φ:=fun nb σ H Q W z=>
 h nb σ H _ W fun es vs H1 ⟨hl,p⟩ s1 q1=>by
  have W1:=W.step s1
  rw[iC]
  refine⟨by rw[q1.len,hl],G.S nb (i6 es),es.map (·.2),W1.iz,q1.all fun z=>z,hm _ _ _ p fun f d hp v H' sm hd=>z _ v H' d hp (s1.trans (.same W1.az sm)) (hd.av fun a q=>?_)⟩
  cases f with
  |false=>rw[qT] at q;exact .inl q
  |true=>exact .inr ⟨rfl,W1.iz a q⟩
theorem Step.uG{b l:Addr}{H H':Hp}(hB:G.B=some (b,l))(bt:aI (Nb b) H H')(B':cW H' b l):Step G.B H H':=
 ⟨fun a o n e=>bt a o (n b l hB) e,fun b' l' e=>by rw[hB] at e;cases e;exact B'⟩
theorem Wd.tT{nb:Addr->Prop}{σ:St}{H:Hp}(W:Wd G nb ρ σ H)(e:ρ[i]?=some .az):∃b l,G.B=some (b,l)/\σ[i]?=some (some (.ref b))/\cW H b l:=by
 obtain⟨x,e1,b,l,hB,rfl⟩:=W.ok i _ e
 exact⟨b,l,hB,e1,W.az b l hB⟩
theorem Ev.jg{n:Nat}{F:DF}(hm:eN F)(e:ρ[i]?=some .az)(h:Av G ρ t fun es=>es.length+1=n/\F (es.map (·.2)) fun f d=>Φ (f||i6 es) d):Ev G ρ (gb (eO n F) [] E0 (aK (bE i) t)) Φ:=fun nb σ H Q W z=>by
 obtain⟨b,l,hB,e1,B⟩:=W.tT e
 refine⟨.ref b,e1,h nb σ H _ W fun es vs H1 ⟨hl,p⟩ s1 q1=>?_⟩
 have W1:=W.step s1
 show eO n F ((V.ref b::vs)++[]) H1 Q E0
 rw[iC]
 have hb:∀f,G.S nb f b:=fun f=> .inr (.inr (.inl fun n=>n b l hB rfl))
 refine⟨by rw[fP,q1.len,hl],b,l,vs,G.S nb (i6 es),es.map (·.2),rfl,W1.az b l hB,W1.iz,hb _,q1.all fun z=>z,hm _ _ _ p fun f d hp v H' bt B' hd=>z _ v H' d hp (s1.trans (.uG hB bt B')) (hd.av fun a q=>?_)⟩
 cases f with
 |false=>rw[qT] at q;exact .inl q
 |true=>exact .inr ⟨rfl,W1.iz a q⟩
theorem Ev.draw(e:ρ[i]?=some .az)(h:Ev G ρ te fun _ x=>∃m:Int,x= .int m/\0<m/\Sm m/\∀r:Int,0<=r->r<m->Φ true (.int r)):Ev G ρ (gb gQ [] E0 (aK (bE i) (aK te aQ))) Φ:=fun nb σ H Q W z=>by
 obtain⟨b,l,hB,e1,B⟩:=W.tT e
 refine⟨.ref b,e1,h nb σ H _ W fun f v H1 d ⟨m,ed,h1,h2,p⟩ s1 hv=>?_⟩
 subst ed
 exact⟨b,l,m,by rw[hv.bL];rfl,s1.2 b l hB,h1,h2,fun r H' r1 r2 bt B'=>z true _ H' _ (p r r1 r2) (s1.trans (.uG hB bt B')) (.int r)⟩
theorem Ev.prime(e:ρ[i]?=some .az)(h:∀p:Int,xZ p->Φ true (.int p)):Ev G ρ (gb uO [] E0 (aK (bE i) aQ)) Φ:=fun nb σ H Q W z=>by
 obtain⟨b,l,hB,e1,B⟩:=W.tT e
 exact⟨.ref b,e1,b,l,rfl,B,fun p H' hp bt B'=>z true _ H' _ (h p hp) (.uG hB bt B') (.int p)⟩
theorem Ev.whole(h:Ev G ρ te fun _ x=>∃n,x= .int n/\Φ true (.bool true)):Ev G ρ (gb Mx [] E0 (aK te aQ)) Φ:=fun nb σ H Q W z=>
 h nb σ H _ W fun f v H1 d ⟨n,e,q⟩ s1 hv=>by subst e;exact⟨n,by rw[hv.bL];rfl,z true _ H1 _ q s1 (.bl _)⟩
namespace Gv
variable{Θ:Rh->Prop}
theorem name(h:Θ (ρ.set i (.d f d))):Gv G ρ (ek i) f d Θ:=fun nb σ H v Q W hv z=>z _ _ h (W.jD hv)
theorem EX(h:Θ (ρ.set i (.d true d))):Gv G ρ (ek i) true d Θ:=name h
theorem pq(h:Θ (ρ.set i (.d false d))):Gv G ρ (ek i) f d Θ:=fun nb σ H v Q W hv z=>z _ _ h (W.jD (hv.av (bF (fun z=>by cases z) fun _ z=>z)))
theorem Me(hs:ig d=true)(h:Θ (ρ.set i (.d true d))):Gv G ρ (ek i) f d Θ:=fun nb σ H v Q W hv z=>z _ _ h (W.jD (hv.jN hs))
theorem jI{n:Int}(h:Θ (ρ.set i (.d true (.int n)))):Gv G ρ (ek i) f (.int n) Θ:=Me rfl h
theorem tup{n:Nat}{u:iJ}(hl:ds.length=n)(h:pH G ρ u f ds Θ):Gv G ρ (pN K n u) f (.tuple ds) Θ:=fun nb σ H v Q W hv z=>by
 obtain⟨a,xs,rfl,m,hx,hd⟩:=hv.ofT
 exact⟨a,xs,rfl, .of hx,by rw[hd.length];exact hl,h nb σ H xs Q W hd z⟩
theorem Lo(h:Θ ρ):pH G ρ rG f [] Θ:=fun nb σ H vs Q W hv z=>by unfold af at hv;exact⟨hv,z _ _ h W⟩
theorem Lk{u:TG}{us:iJ}(h:Gv G ρ u f d fun fB=>pH G fB us f ds Θ):pH G ρ (oO u us) f (d::ds) Θ:=fun nb σ H vs Q W hv z=>by
 unfold af at hv
 obtain⟨y,ys,rfl,h1,h2⟩:=hv
 exact⟨y,ys,rfl,h nb σ H y _ W h1 fun σ' ρ' q W'=>q nb σ' H ys Q W' h2 z⟩
end Gv
namespace Sv
variable{E:DE}{s u:TS}
theorem seq(h:Sv G ρ s {E with nx:=fun fB=>Sv G fB u E}):Sv G ρ (oB s u) E:=fun nb σ H D W K=>h nb σ H _ W ⟨fun bU ρ' σ' H' q W'=>q bU σ' H' D W' K,K.bk,K.ct,K.rt,K.rw⟩
theorem next(h:E.nx ρ):Sv G ρ wA E:=fun nb σ H D W K=>K.nx nb ρ σ H h W
theorem brk(h:E.bk ρ):Sv G ρ Nr E:=fun nb σ H D W K=>K.bk nb ρ σ H h W
theorem cont(h:E.ct ρ):Sv G ρ KC E:=fun nb σ H D W K=>K.ct nb ρ σ H h W
theorem asg{g:TG}(h:Ev G ρ te fun f d=>Gv G ρ g f d E.nx):Sv G ρ (jf te g) E:=fun nb σ H D W K=>h nb σ H _ W fun f v H1 d q s1 hv=>q nb σ H1 v _ (W.step s1) hv fun σ' ρ' p W'=>K.nx nb ρ' σ' H1 p W'
theorem setC(h:Ev G ρ te fun f d=>E.nx (ρ.set i (.d f d))):Sv G ρ (qL i te) E:=fun nb σ H D W K=>h nb σ H _ W fun f v H1 d q s1 hv=>K.nx nb _ _ H1 q ((W.step s1).jD hv)
theorem yT(h:Ev G ρ te fun _ d=>E.nx (ρ.set i (.d false d))):Sv G ρ (qL i te) E:=fun nb σ H D W K=>h nb σ H _ W fun f v H1 d q s1 hv=>K.nx nb _ _ H1 q ((W.step s1).jD (hv.av (bF (fun z=>by cases z) fun _ z=>z)))
theorem drop(h:Ev G ρ te fun _ _=>E.nx ρ):Sv G ρ (jV te) E:=fun nb σ H D W K=>h nb σ H _ W fun f v H1 d q s1 hv=>K.nx nb ρ σ H1 q (W.step s1)
theorem ret(h:Ev G ρ te E.rt):Sv G ρ (qh te) E:=fun nb σ H D W K=>h nb σ H _ W fun f v H1 d q s1 hv=>K.rt nb ρ σ f v H1 d q (W.step s1) (hv.av (bF (fun z=>z) fun _ z=>z.elim))
theorem kK{c:TT}(h:Tv G ρ c fun b=>if b=true then Sv G ρ s E else Sv G ρ u E):Sv G ρ (z3 c s u) E:=fun nb σ H D W K=>h nb σ H _ W fun b H1 q s1=>by
 cases b with
 |true=>rw[if_pos rfl] at q⊢;exact q nb σ H1 D (W.step s1) K
 |false=>rw[if_neg bz] at q⊢;exact q nb σ H1 D (W.step s1) K
theorem zZ{nb:Addr->Prop}{σ:St}{H H1:Hp}{a:Addr}{xs:List V}(W:Wd G nb ρ σ H)(s1:Step G.B H H1)(ha:H a=none)(e:H1 a=some (.lst xs))(hd:af (fun x=>G.S nb f x\/x=a) H1 ds xs):
    Wd G (fun x=>nb x\/x=a) (ρ.set i (.own a f ds)) (σ.set i (some (.ref a))) H1:=by
  have hN:NB G.B a:=fun b l e z=>by
    subst z
    obtain⟨_,_,_,_,_,h1,_⟩:=W.az _ _ e
    rw[h1] at ha;cases ha
  have hA:∀f x,G.S (fun x=>nb x\/x=a) f x->(G.S nb f x\/x=a):=fun f x z=>by
    rcases z with (z|z)|z|z|z
    · exact .inl (.inl z)
    · exact .inr z
    · exact .inl (.inr (.inl z))
    · exact .inl (.inr (.inr (.inl z)))
    · exact .inl (.inr (.inr (.inr z)))
  have W1:=W.step s1
  have W2:Wd G (fun x=>nb x\/x=a) ρ σ H1:=by
    refine⟨W1.az,fun x n=>?_,W1.old,fun x n q=>?_,W.gA,W.len,W.gB,fun h m=>(((W.fO h m).fresh ha).keep (s1.but fun x z=> .inl (.inr (.inr (.inl z))))).av (hA h.1),fun j s e'=>?_,W.apart,W.eH,W.cR⟩
    · rcases n with n|n
      · exact W1.live x n
      · subst n;rw[e];exact iu _
    · rcases n with n|n
      · exact W.cK x n q
      · subst n
        cases z:G.H0 x with
        |none=>rfl
        |some o=>rw[W.old x o q z] at ha;cases ha
    · obtain⟨x,e1,h⟩:=W.ok j s e'
      refine⟨x,e1,?_⟩
      cases s with
      |no=>trivial
      |d f d=>obtain⟨v,e,h⟩:=h;exact⟨v,e,((h.fresh ha).keep (s1.but fun x z=> .inl (.inr (.inr (.inl z))))).av (hA f)⟩
      |own c f es=>obtain⟨e,n,q,xs,hx,hd⟩:=h;exact⟨e, .inl n,q,xs,s1.1 _ _ q hx,((hd.fresh ha).keep (s1.but fun x z=> .inl (.inr (.inr (.inl z))))).av (hA f)⟩
      |az=>exact h
      |raw v=>exact h
      |bf c f es=>obtain⟨e,n,q,xs,hx,hd⟩:=h;exact⟨e, .inl n,q,xs,s1.1 _ _ q hx,((hd.fresh ha).keep (s1.but fun x z=> .inl (.inr (.inr (.inl z))))).av (hA f)⟩
      | cu c =>
        obtain⟨e,n,q⟩:=h
        refine⟨e,fun a ha=>⟨.inl (n a ha).1,(n a ha).2⟩,c.av (hA c.f) (c.keep (.of fun x o hx e=>s1.1 x o ?_ e) (c.fresh ha q))⟩
        rcases hx with hx|hx
        · exact jP fun z=>hx (.inl (.inr (.inr (.inl z))))
        · exact(n x hx).2
  refine W2.set ⟨rfl, .inr rfl,hN,xs,e,hd.av (hA f)⟩ ?_ (fun _ _ _ z=>by cases z) (fun x hx j t hj ht hc=>?_)
  rotate_left
  · have hx:x=a:=aC.mp hx
    subst hx
    rcases hc with ⟨c,z⟩|⟨c,rfl⟩
    · cases z
    · exact fun z=>W.live x ((W.ok j _ ht).choose_spec.2.2.1 x z).1 ha
  rintro a' f' ds' ⟨rfl,rfl,rfl⟩ j c g cs hj hc z
  subst z
  obtain⟨x,e1,h1,h2,h3,ys,hy,_⟩:=W.ok j _ hc
  rw[hy] at ha;cases ha
theorem yI(h:ay G ρ te fun f ds=>∀a,E.nx (ρ.set i (.own a f ds))):Sv G ρ (jf te (ek i)) E:=fun nb σ H D W K=>h nb σ H _ W fun f a xs H1 ds q s1 ha e hd=>K.nx _ _ _ H1 (q a) (zZ W s1 ha e hd)
theorem DO(h:ay G ρ te fun f ds=>∀a,E.nx (ρ.set i (.own a f ds))):Sv G ρ (qL i te) E:=fun nb σ H D W K=>h nb σ H _ W fun f a xs H1 ds q s1 ha e hd=>K.nx _ _ _ H1 (q a) (zZ W s1 ha e hd)
theorem oS{nb:Addr->Prop}{σ:St}{H:Hp}{a:Addr}{xs:List V}(W:Wd G nb ρ σ H)(e:ρ[i]?=some (.own a f ds))(hd:af (G.S nb g) H es xs):Wd G nb (ρ.set i (.own a g es)) σ (upd H a (.lst xs)):=by
  obtain⟨x,e1,h1,h2,h3,ys,hy,_⟩:=W.ok i _ e
  subst h1
  have hil:i<ρ.length:=(aJ.mp e).1
  have W0:Wd G nb (ρ.set i .no) (σ.set i (some (.ref a))) H:=W.set trivial fun _ _ _ z=>by cases z
  have W1:Wd G nb (ρ.set i .no) (σ.set i (some (.ref a))) (upd H a (.lst xs)):=W0.write h2 h3 (fun j c f' cs hc=>by
    by_cases hij:i=j
    · subst hij;rw[bx hil] at hc;cases hc
    · rw[aT hij] at hc
      exact(W.apart i j _ _ _ _ _ _ hij e hc).symm
   ) (fun j c f' cs hc z => by
      subst z
      have hij:i≠j:=fun z=>by subst z;rw[bx hil] at hc;cases hc
      rw[aT hij] at hc
      obtain⟨_,_,_,_,_,ps,hp,_⟩:=W.ok j _ hc
      rw[hy] at hp;cases hp) (fun j c hc z=>by
      have hij:i≠j:=fun z=>by subst z;rw[bx hil] at hc;cases hc
      rw[aT hij] at hc
      exact W.cR j i c _ (br hij) hc e a z (aC.mpr rfl))
  have W2:=W1.set (i:=i) (s:= .own a g es) (x:=some (.ref a)) ⟨rfl,h2,h3,xs,aS,hd.keep (aI.set (.inl h2))⟩ (by
    rintro a' f' ds' ⟨rfl,rfl,rfl⟩ j c g' cs hj hc
    rw[aT (br hj)] at hc
    exact W.apart i j _ _ _ _ _ _ (br hj) e hc) (fun _ _ _ z=>by cases z) (fun x hx j t hj ht hc z=>by
    rw[aT (br hj)] at ht
    have hx:x=a:=aC.mp hx
    subst hx
    rcases hc with ⟨c,q⟩|⟨c,rfl⟩
    · cases q
    · exact W.cR j i c _ hj ht e x z (aC.mpr rfl))
  rw[iN,iN] at W2
  have:σ.set i (some (.ref a))=σ:=by
    apply jC
    intro j
    by_cases hij:i=j
    · subst hij;rw[bx (by rw[W.len];exact hil),e1]
    · rw[aT hij]
  rwa[this] at W2
theorem append{a:Addr}(e:ρ[i]?=some (.own a f ds))(h:Ev G ρ te fun g d=>ds.length<10000/\E.nx (ρ.set i (.own a (f && g) (ds++[d])))):Sv G ρ (jV (jc K "list" pS (bE i) (aK te aQ))) E:=fun nb σ H D W KK=>by
 obtain⟨x,e1,h1,h2,h3,xs,hx,hd⟩:=W.ok i _ e
 subst h1
 refine⟨.ref a,e1, .inl ⟨rfl,_,aF.of hx⟩,h nb σ H _ W fun g v H1 d ⟨hl,q⟩ s1 hv=>?_⟩
 have W1:=W.step s1
 have tY:=s1.1 _ _ h3 hx
 refine⟨a,xs,v,rfl,rfl,tY,cT (by rw[hd.length];exact hl) (by decide),KK.nx nb _ _ _ q (oS W1 e ?_)⟩
 exact af.snoc (hv.av (bF (fun z=>(cV _ _▸z).2) fun _ z=>z)) ((hd.keep s1.dj).av (bF (fun z=>(cV _ _▸z).1) fun _ z=>z))
theorem af.set'{nb:Addr->Prop}{H:Hp}{x:V}(hd:ah nb H d x):∀{ds:List PyData} {xs:List V} (j:Nat),af nb H ds xs->af nb H (ds.set j d) (xs.set j x)
 |[],_,j,h=>by unfold af at h;subst h;exact .nil
 |e::ds,_,0,h=>by unfold af at h;obtain⟨y,ys,rfl,h1,h2⟩:=h;exact .cons hd h2
 |e::ds,_,j+1,h=>by unfold af at h;obtain⟨y,ys,rfl,h1,h2⟩:=h;exact .cons h1 (af.set' hd j h2)
theorem share{nb:Addr->Prop}{σ:St}{H:Hp}{a:Addr}(W:Wd G nb ρ σ H)(e:ρ[i]?=some (.own a f ds)):Wd G (fun x=>nb x/\x≠a) (ρ.set i (.d f (.list ds))) σ H:=by
  obtain⟨x,e1,h1,h2,h3,xs,hx,hd⟩:=W.ok i _ e
  subst h1
  have hil:i<ρ.length:=(aJ.mp e).1
  have W0:Wd G nb (ρ.set i .no) (σ.set i (some (.ref a))) H:=W.set trivial fun _ _ _ z=>by cases z
  have W1:Wd G (fun x=>nb x/\x≠a) (ρ.set i .no) (σ.set i (some (.ref a))) H:=by
    refine⟨W0.az,fun x n=>W0.live x n.1,W0.old,fun x n=>W0.cK x n.1,W0.gA,W0.len,W0.gB,fun h m=>(W0.fO h m).av (bF (fun z=>z) fun _ z=>z.1),fun j s e'=>?_,W0.apart,W0.eH,W0.cR⟩
    obtain⟨x,ja,h⟩:=W0.ok j s e'
    refine⟨x,ja,?_⟩
    have hij:s≠ .no->i≠j:=fun n z=>by subst z;rw[bx hil] at e';cases e';exact n rfl
    cases s with
    |no=>trivial
    |d f d=>obtain⟨v,e,h⟩:=h;exact⟨v,e,h.av (bF (fun z=>z) fun _ z=>z.1)⟩
    | own c f es =>
      obtain⟨e2,n,q,xs,hx,hd⟩:=h
      have hij:=hij (by intro z;cases z)
      rw[aT hij] at e'
      exact⟨e2,⟨n,(W.apart i j _ _ _ _ _ _ hij e e').symm⟩,q,xs,hx,hd.av (bF (fun z=>z) fun _ z=>z.1)⟩
    |az=>exact h
    |raw v=>exact h
    | bf c f es =>
      obtain⟨e2,n,q,ps,hp,hd⟩:=h
      have hca:c≠a:=fun z=>by subst z;rw[hx] at hp;cases hp
      exact⟨e2,⟨n,hca⟩,q,ps,hp,hd.av (bF (fun z=>z) fun _ z=>z.1)⟩
    | cu c =>
      obtain⟨e2,n,q⟩:=h
      have hij:=hij (by intro z;cases z)
      rw[aT hij] at e'
      exact⟨e2,fun x hx=>⟨⟨(n x hx).1,fun z=>W.cR j i c _ (br hij) e' e x hx (by rw[z];exact aC.mpr rfl)⟩,(n x hx).2⟩,c.av (bF (fun z=>z) fun _ z=>z.1) q⟩
  have W2:=W1.jD (i:=i) (f:=f) (d:= .list ds) (v:= .ref a) (.lst (fun z=>by
    rcases z with z|z|z|z
    · exact z.2 rfl
    · exact W.gA a z (W.cK a h2 h3)
    · exact z h3
    · exact z.2 (W.cK a h2 h3)) hx (hd.av (bF (fun z=>z) fun _ z=>z.1)))
  rw[iN,iN] at W2
  have:σ.set i (some (.ref a))=σ:=by
    apply jC
    intro j
    by_cases hij:i=j
    · subst hij;rw[bx (by rw[W.len];exact hil),e1]
    · rw[aT hij]
  rwa[this] at W2
theorem uB{a:Addr}(i:Nat)(e:ρ[i]?=some (.own a f ds))(h:Sv G (ρ.set i (.d f (.list ds))) s E):Sv G ρ s E:=fun nb σ H D W K=>h _ σ H D (share W e) K
theorem wk{ρ':Rh}(w:Wk ρ' ρ)(h:Sv G ρ' s E):Sv G ρ s E:=fun nb σ H D W K=>h nb σ H D (W.wk w) K
end Sv
end
end L2
set_option maxRecDepth 100000
set_option maxHeartbeats 1000000
namespace L2
open PySem PySem.Spec PyProof.Rows
abbrev Gx.hd(G:Gx)(f:Bool)(d:PyData)(v:V):Gx:={G with hold:=(f, .d d,v)::G.hold}
section
variable{G:Gx}{ρ cB:Rh}{Φ Ψ:Pd}{ta tb te:TE}{t:TA}{i:Nat}{f g:Bool}{d e:PyData}{ds es:List PyData}{K:PySem.W.Frag}
theorem Wd.hd{nb:Addr->Prop}{σ:St}{H:Hp}{v:V}(W:Wd G nb ρ σ H)(h:ah (G.S nb f) H d v):Wd (G.hd f d v) nb ρ σ H:=
 ⟨W.az,W.live,W.old,W.cK,W.gA,W.len,W.gB,fun x m=>by
  rcases bQ.mp m with e|m
  ·subst e;exact h
  ·exact W.fO x m,fun i s e=>by
   obtain⟨x,e1,h⟩:=W.ok i s e
   refine⟨x,e1,?_⟩
   cases s<;>exact h,W.apart,W.eH,W.cR⟩
theorem Wd.nh{nb:Addr->Prop}{σ:St}{H:Hp}{v:V}(W:Wd (G.hd f d v) nb ρ σ H):Wd G nb ρ σ H/\ah (G.S nb f) H d v:=
 ⟨⟨W.az,W.live,W.old,W.cK,W.gA,W.len,W.gB,fun x m=>W.fO x (dN _ m),fun i s e=>by
   obtain⟨x,e1,h⟩:=W.ok i s e
   refine⟨x,e1,?_⟩
   cases s<;>exact h,W.apart,W.eH,W.cR⟩,W.fO _ (dB ..)⟩
namespace Sv
variable{E:DE}{s:TS}{gt:TG}
def zy(G:Gx)(ρ:Rh)(n:Nat)(it:Nat->PyData->Prop)(fi:Bool)(gt:TG)(s:TS)(E:DE):Prop:=
 ∃I:Nat->Rh->Prop,I 0 ρ/\(∀i d ρ',it i d->I i ρ'->Gv G ρ' gt fi d fun gh=>Sv G gh s {nx:=I (i+1),rt:=E.rt,bk:=E.nx,ct:=I (i+1),rw:=E.rw})/\∀ρ',I n ρ'->E.nx ρ'
theorem PD{lo:Int}{n:Nat}{nb:Addr->Prop}{σ:St}{H:Hp}{D:Ends}(W:Wd G nb ρ σ H)(KK:Am G E D)(h:zy G ρ n (fun i d=>i<n/\d= .int (lo+i)) true gt s E):
  ∃W:Nat->Nat->St->Hp->Prop,(∃m,W 0 m σ H)/\∀i m σ H,W i m σ H->
   ((ir lo n).stop i H/\D.nx σ H)\/((ir lo n).go i H/\∃N:St->Hp->Prop,(∀σ' H',N σ' H'->∃m',m'<m/\W (i+1) m' σ' H')/\∀x H',(ir lo n).lG i H x H'->gt x σ H' fun σ2 H2=>s {D with nx:=N,ct:=N,bk:=D.nx} σ2 H2):=by
 obtain⟨I,h0,ht,he⟩:=h
 refine B0 (fun i σ H=>∃nb ρ',I i ρ'/\Wd G nb ρ' σ H) ⟨nb,ρ,h0,W⟩ ?_ ?_
 ·rintro i σ H hi ⟨nb,ρ',hI,W⟩
  refine ht i _ ρ' ⟨hi,rfl⟩ hI nb σ H _ _ W (.int _) fun σ2 gh q W2=>q nb σ2 H _ W2 ?_
  exact⟨fun nb ρ σ H q W=>⟨nb,ρ,q,W⟩,KK.nx,fun nb ρ σ H q W=>⟨nb,ρ,q,W⟩,KK.rt,KK.rw⟩
 ·rintro σ H ⟨nb,ρ',hI,W⟩
  exact KK.nx nb ρ' σ H (he ρ' hI) W
theorem Aa(h:Ev G ρ te fun _ x=>∃n:Int,x= .int n/\ -(2^62)<=n/\n<2^62/\zy G ρ n.toNat (fun i d=>i<n.toNat/\d= .int (0+i)) true gt s E):Sv G ρ (nP (oZ (aK te aQ)) gt s) E:=fun nb σ H D W KK=>
 h nb σ H _ W fun f v H1 x ⟨n,ex,h1,h2,q⟩ s1 hv=>by
  subst ex
  rw[hv.bL]
  exact⟨n,rfl,h1,h2,PD (W.step s1) KK q⟩
theorem forL(h:Ev G ρ te fun f x=>∃ds,x= .list ds/\∀v,zy (G.hd f (.list ds) v) ρ ds.length (fun i d=>ds[i]?=some d) f gt s E):Sv G ρ (nP (oh K te) gt s) E:=fun nb σ H D W KK=>
 h nb σ H _ W fun f v H1 x ⟨ds,ex,q⟩ s1 hv=>by
  subst ex
  obtain⟨I,h0,ht,he⟩:=q v
  have W1:=(W.step s1).hd hv
  obtain⟨a,xs,rfl,n,hx,hd⟩:=hv.cG
  have key:∀{nb ρ' σ H},Wd (G.hd f (.list ds) (.ref a)) nb ρ' σ H->∃xs,H a=some (.lst xs)/\af (G.S nb f) H ds xs:=fun W=>by
   obtain⟨a',xs',e',_,h',d'⟩:=W.nh.2.cG
   cases e'
   exact⟨xs',h',d'⟩
  refine⟨a,rfl,⟨xs, .of hx⟩,?_⟩
  refine⟨fun i m σ H=>m=ds.length-i/\i<=ds.length/\∃nb ρ',I i ρ'/\Wd (G.hd f (.list ds) (.ref a)) nb ρ' σ H,⟨ds.length,by simp,eg _,nb,ρ,h0,W1⟩,?_⟩
  rintro i m σ H ⟨rfl,hi,nb,ρ',hI,W⟩
  obtain⟨ys,hy,hD⟩:=key W
  have hl:=hD.length
  by_cases hlt:i<ds.length
  ·refine .inr ⟨⟨ys,ys[i]'(by omega), .of hy,aR _⟩,fun σ H=>∃nb ρ',I (i+1) ρ'/\Wd (G.hd f (.list ds) (.ref a)) nb ρ' σ H,fun σ' H' q=>⟨ds.length-(i+1),by omega,rfl,hlt,q⟩,fun x H' y=>?_⟩
   obtain⟨e,y⟩:=y
   subst e
   have hx:=y ys (.of hy)
   obtain⟨x',hx',dx⟩:=hD.get (aR hlt)
   rw[hx] at hx';cases hx'
   refine ht i _ ρ' (aR hlt) hI nb σ _ _ _ W dx fun σ2 gh q W2=>q nb σ2 _ _ W2 ?_
   exact⟨fun nb ρ σ H q W=>⟨nb,ρ,q,W⟩,fun nb ρ σ H q W=>KK.nx nb ρ σ H q W.nh.1,fun nb ρ σ H q W=>⟨nb,ρ,q,W⟩,fun nb ρ σ f v H d q W hv=>KK.rt nb ρ σ f v H d q W.nh.1 hv,fun nb ρ σ v H q W=>KK.rw nb ρ σ v H q W.nh.1⟩
  ·have e:i=ds.length:=by omega
   subst e
   exact .inl ⟨⟨ys, .of hy,by omega⟩,KK.nx nb ρ' σ H (he ρ' hI) W.nh.1⟩
theorem Mt{c:TT}(I:Rh->Prop)(μ:Rh->Nat)(h0:I ρ)(h:∀ρ',I ρ'->Tv G ρ' c fun b=>if b=true then Sv G ρ' s {nx:=fun gh=>I gh/\μ gh<μ ρ',rt:=E.rt,bk:=E.nx,ct:=fun gh=>I gh/\μ gh<μ ρ',rw:=E.rw} else E.nx ρ'):Sv G ρ (CA c s) E:=fun nb σ H D W KK=>by
  refine⟨fun m σ H=>∃nb ρ',I ρ'/\Wd G nb ρ' σ H/\m=μ ρ',⟨_,nb,ρ,h0,W,rfl⟩,?_⟩
  rintro m σ H ⟨nb,ρ',hI,W,rfl⟩
  refine h ρ' hI nb σ H _ W fun b H1 q s1=>?_
  cases b with
  | true =>
    rw[if_pos rfl] at q⊢
    refine⟨fun σ' H'=>∃nb gh,(I gh/\μ gh<μ ρ')/\Wd G nb gh σ' H',fun σ' H' ⟨nb,gh,⟨q1,q2⟩,W2⟩=>⟨μ gh,q2,nb,gh,q1,W2,rfl⟩,q nb σ H1 _ (W.step s1) ?_⟩
    exact⟨fun nb ρ σ H q W=>⟨nb,ρ,q,W⟩,KK.nx,fun nb ρ σ H q W=>⟨nb,ρ,q,W⟩,KK.rt,KK.rw⟩
  |false=>rw[if_neg bz] at q⊢;exact KK.nx nb ρ' σ H1 q (W.step s1)
end Sv
def jF(mp:List (Option Nat))(ρ:Rh):Rh:=mp.map fun o=>match o with|none=> .no|some j=>match ρ[j]? with|some s=>s|none=> .no
theorem xM{mp:List (Option Nat)}(h:(mp.filterMap id).Nodup):∀{i j k:Nat},mp[i]?=some (some k)->mp[j]?=some (some k)->i=j:=by
  induction mp with
  |nil=>intro i j k e;simp at e
  | cons o r ih =>
    intro i j k e1 e2
    have hr:(r.filterMap id).Nodup:=by
      cases o with
      |none=>simpa using h
      |some x=>rw[B4 (by rfl)] at h;exact(kQ.mp h).2
    have hn:∀{m:Nat},r[m]?=some (some k)->o≠some k:=fun{m} hm e=>by
      subst e
      rw[B4 (by rfl)] at h
      exact(kQ.mp h).1 (yE.mpr ⟨some k,bZ hm,rfl⟩)
    cases i with
    | zero =>
      cases j with
      |zero=>rfl
      |succ j=>simp at e1 e2;exact absurd e1 (hn e2)
    | succ i =>
      cases j with
      |zero=>simp at e1 e2;exact absurd e2 (hn e1)
      |succ j=>simp at e1 e2;rw[ih hr e1 e2]
theorem Wd.eL{nb:Addr->Prop}{σ:St}{H:Hp}{mp:List (Option Nat)}(W:Wd G nb ρ σ H)(hm:(mp.filterMap id).Nodup):Wd G nb (jF mp ρ) (eL mp σ) H:=by
  have hat:∀{i:Nat} {s:Sl},(jF mp ρ)[i]?=some s->s= .no\/∃k,mp[i]?=some (some k)/\ρ[k]?=some s:=fun{i s} e=>by
    unfold jF at e
    rw[bY] at e
    obtain⟨o,ho,e⟩:=jX.mp e
    cases o with
    |none=>exact .inl e.symm
    | some k =>
      cases hk:ρ[k]? with
      |none=>simp only[hk] at e;exact .inl e.symm
      |some s'=>simp only[hk] at e;subst e;exact .inr ⟨k,ho,hk⟩
  refine⟨W.az,W.live,W.old,W.cK,W.gA,by unfold L2.eL jF;rw[ak,ak],W.gB,W.fO,fun i s e=>?_,fun i j a f as c g cs hij e1 e2=>?_,fun i j a f as c g cs hij e1 e2=>?_,fun i j c t hij e1 e2 a ha=>?_⟩
  · have hi:i<mp.length:=by have:=(aJ.mp e).1;unfold jF at this;rwa[ak] at this
    rcases hat e with rfl|⟨k,hk,hs⟩
    · exact⟨_,by unfold L2.eL;rw[bY,aR hi];rfl,trivial⟩
    · obtain⟨x,e1,h⟩:=W.ok k s hs
      refine⟨x,?_,h⟩
      unfold L2.eL
      rw[bY,hk]
      simp only[Option.map_some,e1]
  · rcases hat e1 with z|⟨k,hk,hs⟩
    · cases z
    rcases hat e2 with z|⟨k',hk',hs'⟩
    · cases z
    exact W.apart k k' a f as c g cs (fun z=>by subst z;exact hij (xM hm hk hk')) hs hs'
  · rcases hat e1 with z|⟨k,hk,hs⟩
    · cases z
    rcases hat e2 with z|⟨k',hk',hs'⟩
    · cases z
    exact W.eH k k' a f as c g cs (fun z=>by subst z;exact hij (xM hm hk hk')) hs hs'
  · rcases hat e1 with z|⟨k,hk,hs⟩
    · cases z
    rcases hat e2 with z|⟨k',hk',hs'⟩
    · subst z;exact fun z=>by cases z
    exact W.cR k k' c t (fun z=>by subst z;exact hij (xM hm hk hk')) hs hs' a ha
def GS(ρ:Rh)(acc:Addr):Prop:=(∀(j:Nat) a f ds,ρ[j]?=some (.own a f ds)->a≠acc)/\∀(j:Nat) c,ρ[j]?=some (.cu c)->acc∉c.F
def gP(G:Gx)(cB:Rh)(n:Nat)(it:Nat->PyData->Prop)(fi:Bool)(gt:TG)(tc:TT)(te:TE)(Θ:Bool->List PyData->Prop):Prop:=
 ∃(fl:Bool) (I:Nat->List PyData->Prop),I 0 []/\(∀i d ds,it i d->ds.length<=i->I i ds->Gv G cB gt fi d fun fB=>Wk cB fB/\Tv G fB tc fun b=>if b=true then Ev G fB te fun f e=>(fl=true->f=true)/\I (i+1) (ds++[e]) else I (i+1) ds)/\
  ∀ds,ds.length<=n->I n ds->Θ (fl||fu ds) ds
theorem wY{gt:TG}{tc:TT}{nb:Addr->Prop}{acc:Addr}{σ:St}{H H1:Hp}{x:V}{fi fl:Bool}{I:Nat->List PyData->Prop}{xs:List V}{N:St->Hp->Prop}{ds:List PyData}{n:Nat}(hn:n<=10000)(hi:i<n)
    (W:Wd G nb cB σ H) (ha:nb acc) (hN:NB G.B acc) (hno:GS cB acc) (st:Step G.B H1 H) (hacc:H1 acc=none) (hx:H acc=some (.lst xs)) (hd:af (G.S nb fl) H ds xs) (hl:ds.length<=i) (hxd:ah (G.S nb fi) H d x)
    (h:Gv G cB gt fi d fun fB=>Wk cB fB/\Tv G fB tc fun b=>if b=true then Ev G fB te fun f e=>(fl=true->f=true)/\I (i+1) (ds++[e]) else I (i+1) ds)
    (z:∀σ' H' ds' xs',Wd G nb cB σ' H'->Step G.B H1 H'->H' acc=some (.lst xs')->af (G.S nb fl) H' ds' xs'->ds'.length<=i+1->I (i+1) ds'->N σ' H'):
    gt x σ H fun σ2 H2=>tc σ2 H2 fun b H3=>if b=true then te σ2 H3 fun v H4=>∃ys,H4 acc=some (.lst ys)/\ys.length<sizeLine/\N σ2 (upd H4 acc (.lst (ys++[v]))) else N σ2 H3:=by
  refine h nb σ H x _ W hxd fun σ2 fB ⟨wk,q⟩ W2=>q nb σ2 H _ W2 fun b H3 q3 s3=>?_
  have rK:=s3.1 _ _ hN hx
  have sV:=hd.keep (s3.dj (nb:=nb) (f:=fl))
  cases b with
  | false =>
    rw[if_neg bz] at q3⊢
    exact z σ2 H3 ds xs ((W2.step s3).wk wk) (st.trans s3) rK sV (by omega) q3
  | true =>
    rw[if_pos rfl] at q3⊢
    refine q3 nb σ2 H3 _ (W2.step s3) fun f v H4 e ⟨hf,hI⟩ s4 hv=>?_
    have Gs:=s4.1 _ _ hN rK
    have M5:=sV.keep (s4.dj (nb:=nb) (f:=fl))
    have hlen:=hd.length
    refine⟨xs,Gs,cT (show xs.length<10001 by omega) (by decide),?_⟩
    have W4:Wd G nb cB σ2 H4:=((W2.step s3).step s4).wk wk
    have bt:aI (G.S nb fl) H4 (upd H4 acc (.lst (xs++[v]))):=aI.set (.inl ha)
    have W5:Wd G nb cB σ2 (upd H4 acc (.lst (xs++[v]))):=W4.write ha hN hno.1 (fun j a f ds e z=>by
      subst z
      obtain⟨_,_,_,_,_,ps,hp,_⟩:=W4.ok j _ e
      rw[Gs] at hp;cases hp) hno.2
    refine z σ2 _ (ds++[e]) (xs++[v]) W5 ⟨fun a o n q=>?_,W5.az⟩ aS (af.snoc ((hv.av (bF hf fun _ z=>z)).keep bt) (M5.keep bt)) (by rw[bR,jT];omega) hI
    have hne:a≠acc:=fun z=>by subst z;rw[hacc] at q;cases q
    rw[aH hne]
    exact(st.trans (s3.trans s4)).1 a o n q
theorem sW{nb:Addr->Prop}{σ:St}{H:Hp}{a:Addr}(W:Wd G nb ρ σ H)(ha:H a=none):GS ρ a:=by
 refine⟨fun j c f ds e z=>?_,fun j c e z=>?_⟩
 ·subst z
  obtain⟨x,e1,h1,h2,h3,ys,hy,_⟩:=W.ok j _ e
  rw[hy] at ha;cases ha
 ·obtain⟨x,e1,h1,h2,h3⟩:=W.ok j _ e
  exact W.live a (h2 a z).1 ha
theorem HU{nb:Addr->Prop}{a:Addr}{f:Bool}:∀x,(G.S nb f x\/x=a)->G.S (fun x=>nb x\/x=a) f x:=fun x z=>by
 rcases z with (z|z|z|z)|z
 ·exact .inl (.inl z)
 ·exact .inr (.inl z)
 ·exact .inr (.inr (.inl z))
 ·exact .inr (.inr (.inr z))
 ·exact .inl (.inr z)
theorem zu{nb:Addr->Prop}{acc:Addr}{H H1 H':Hp}{σ:St}{Q:VK}{Θ:Bool->List PyData->Prop}{xs:List V}{ds:List PyData}{fl:Bool}(W:Wd G nb ρ σ H)(s1:Step G.B H H1)(hacc:H1 acc=none)(s2:Step G.B H1 H')(hx:H' acc=some (.lst xs))(hd:af (G.S (fun x=>nb x\/x=acc) fl) H' ds xs)(p:Θ (fl||fu ds) ds)
  (z:∀f a xs H' ds,Θ f ds->Step G.B H H'->H a=none->H' a=some (.lst xs)->af (fun x=>G.S nb f x\/x=a) H' ds xs->Q (.ref a) H'):Q (.ref acc) H':=by
 refine z _ acc xs H' ds p (s1.trans s2) (W.none_of s1 hacc) hx ?_
 cases hs:fu ds with
 |true=>exact af.jN hs hd
 |false=>rw[mH];exact hd.av HU
theorem NB.new{B:Bg}{H:Hp}{a:Addr}(h:jd B H)(ha:H a=none):NB B a:=jP fun z=>NB.nF h z ha
namespace ay
variable{Θ:Bool->List PyData->Prop}{gt:TG}{tc:TT}{mp:List (Option Nat)}
theorem Qd{lo:Int}{n:Nat}{nb:Addr->Prop}{σ:St}{H H1:Hp}{Q:VK}(W:Wd G nb ρ σ H)(s1:Step G.B H H1)(hm:(mp.filterMap id).Nodup)(eu:jF mp ρ=cB)(hn:n<=10000)(h:gP G cB n (fun i d=>i<n/\d= .int (lo+i)) true gt tc te Θ)
  (z:∀f a xs H' ds,Θ f ds->Step G.B H H'->H a=none->H' a=some (.lst xs)->af (fun x=>G.S nb f x\/x=a) H' ds xs->Q (.ref a) H') (acc:Addr) (hacc:H1 acc=none):o5 (ir lo n) gt tc te acc (fun H'=>Q (.ref acc) H') (eL mp σ) (upd H1 acc (.lst [])):=by
 obtain⟨fl,I,h0,ht,he⟩:=h
 have W0:Wd G nb cB (L2.eL mp σ) H1:=by rw[<-eu];exact(W.step s1).eL hm
 have W1:=W0.more hacc (o:= .lst [])
 have hN:=NB.new s1.2 hacc
 have hno:=sW W0 hacc
 have cS:Step G.B H1 (upd H1 acc (.lst [])):= .same s1.2 (cD hacc)
 refine R.rT (fun i σ H=>∃ds xs,Wd G (fun x=>nb x\/x=acc) cB σ H/\Step G.B H1 H/\H acc=some (.lst xs)/\af (G.S (fun x=>nb x\/x=acc) fl) H ds xs/\ds.length<=i/\I i ds) ⟨[],[],W1,cS,aS, .nil,aA _,h0⟩ ?_ ?_
 ·rintro i σ H hi ⟨ds,xs,W,st,hx,hd,hl,hI⟩
  exact wY hn hi W (.inr rfl) hN hno st hacc hx hd hl (.int _) (ht i _ ds ⟨hi,rfl⟩ hl hI) fun σ' H' ds' xs' W' st' hx' hd' hl' hI'=>⟨ds',xs',W',st',hx',hd',hl',hI'⟩
 ·rintro σ H' ⟨ds,xs,W',st,hx,hd,hl,hI⟩
  exact zu W s1 hacc st hx hd (he ds hl hI) z
theorem kr{t0:TE}(hm:(mp.filterMap id).Nodup)(eu:jF mp ρ=cB)(h:Ev G ρ t0 fun _ x=>∃n:Int,x= .int n/\ -10000<=n/\n<=10000/\gP G cB n.toNat (fun i d=>i<n.toNat/\d= .int (0+i)) true gt tc te Θ):ay G ρ (jm (oZ (aK t0 aQ)) gt tc te mp) Θ:=fun nb σ H Q W z=>
 h nb σ H _ W fun f v H1 x ⟨n,ex,h1,h2,q⟩ s1 hv=>by
  subst ex
  rw[hv.bL]
  exact⟨n,rfl,by omega,by omega,Qd W s1 hm eu (by omega) q z⟩
theorem gJ{t0:TE}(hm:(mp.filterMap id).Nodup)(eu:jF mp ρ=cB)(h:Ev G ρ t0 fun fi x=>∃es,x= .list es/\es.length<=10000/\∀v,gP (G.hd fi (.list es) v) cB es.length (fun i d=>es[i]?=some d) fi gt tc te Θ):ay G ρ (jm (oh K t0) gt tc te mp) Θ:=fun nb σ H Q W z=>
 h nb σ H _ W fun fi v H1 x ⟨es,ex,hn,q⟩ s1 hv=>by
  subst ex
  obtain⟨fl,I,h0,ht,he⟩:=q v
  have W0:=(W.step s1).hd hv
  obtain⟨a,xs,rfl,n,hx,hd⟩:=hv.cG
  refine⟨a,rfl,⟨xs, .of hx⟩,fun acc hacc=>?_⟩
  have p8:Wd (G.hd fi (.list es) (.ref a)) nb cB (L2.eL mp σ) H1:=by rw[<-eu];exact W0.eL hm
  have W1:=p8.more hacc (o:= .lst [])
  have hN:=NB.new s1.2 hacc
  have hno:=sW p8 hacc
  have cS:Step G.B H1 (upd H1 acc (.lst [])):= .same s1.2 (cD hacc)
  have pW:NB G.B a:=jP fun z=>n (.inr (.inr (.inl z)))
  refine R.FT (xs:=xs) (fun i σ H=>∃ds ys,Wd (G.hd fi (.list es) (.ref a)) (fun x=>nb x\/x=acc) cB σ H/\Step G.B H1 H/\H acc=some (.lst ys)/\af (G.S (fun x=>nb x\/x=acc) fl) H ds ys/\ds.length<=i/\I i ds) ⟨[],[],W1,cS,aS, .nil,aA _,h0⟩ ?_ ?_ ?_
  ·rintro i σ H hi ⟨ds,ys,W,st,_⟩
   exact .of (st.1 _ _ pW hx)
  ·rintro i x σ H hi ⟨ds,ys,W,st,hy,hd',hl,hI⟩
   obtain⟨a',xs',e',_,h',d'⟩:=W.nh.2.cG
   cases e'
   rw[st.1 _ _ pW hx] at h';cases h'
   have hil:i<es.length:=by have:=(aJ.mp hi).1;have:=d'.length;omega
   obtain⟨x',hx',dx⟩:=d'.get (aR hil)
   rw[hi] at hx';cases hx'
   exact wY (G:=G.hd fi (.list es) (.ref a)) hn hil W (.inr rfl) hN hno st hacc hy hd' hl dx (ht i _ ds (aR hil) hl hI) fun σ' H' ds' xs' W' st' hx' hd' hl' hI'=>⟨ds',xs',W',st',hx',hd',hl',hI'⟩
  ·rintro σ H' ⟨ds,ys,W',st,hy,hd',hl,hI⟩
   rw[hd.length] at hl hI
   exact zu W s1 hacc st hy hd' (he ds hl hI) z
end ay
end
end L2
set_option maxRecDepth 100000
set_option maxHeartbeats 1000000
namespace L2
open PySem PySem.Spec PyProof.Rows
section
variable{ρ:Rh}{t:TS}{N:List Str}{vs:List V}{ds:List PyData}{nb:Addr->Prop}{H:Hp}{Q:VK}{Φ:Pd}{b l:Addr}
theorem lV{xs:List V}(h:af nb H ds xs){i:Nat}{s:Sl}(e:(ds.map (Sl.d false))[i]?=some s):∃v d,xs[i]?=some v/\s= .d false d/\ah nb H d v:=by
 rw[bY] at e
 obtain⟨d,hd,e⟩:=jX.mp e
 obtain⟨v,hv,q⟩:=h.get hd
 exact⟨v,d,hv,e.symm,q⟩
theorem Sv.l9(hl:jW nb H)(hd:af nb H ds vs)(aW:∀f d v H',Φ f d->cH H H'->ah (fun a=>nb a\/(f=true/\H a≠none)) H' d v->Q v H')
  (eu:ρ=ds.map (Sl.d false)++List.replicate (N.length-ds.length) .no) (h:Sv ⟨none,H,nb,[]⟩ ρ t {nx:=fun _=>Φ true .none,rt:=Φ}):t {nx:=fun _ H'=>Q .aG H',rt:=Q} (start N vs) H:=by
 have hlen:=hd.length
 have sm:∀{bU ρ' σ' H'},Wd ⟨none,H,nb,[]⟩ bU ρ' σ' H'->cH H H':=fun W a o e=>W.old a o (fun _ _ z=>(by cases z)) e
 refine h (fun _=>False) _ H _ ⟨fun _ _ z=>(by cases z),fun _ z=>z.elim,fun _ _ _ e=>e,fun _ z=>z.elim,hl,?_,fun _ _ z=>(by cases z),fun _ m=>(by cases m),fun i s e=>?_,?_,?_,?_⟩ ⟨fun bU ρ' σ' H' q W=>aW _ _ _ _ q (sm W) .aG,fun _ _ _ _ q _=>q.elim,fun _ _ _ _ q _=>q.elim,fun bU ρ' σ' f v H' d q W hv=>aW f d v H' q (sm W) (hv.av fun a z=>?_),fun _ _ _ _ _ q _=>q.elim⟩
 ·rw[eu];unfold start;simp[hlen]
 ·rw[eu] at e
  unfold start
  by_cases hi:i<ds.length
  ·rw[eZ (by rw[ak];exact hi)] at e
   obtain⟨v,d,hv,rfl,q⟩:=lV hd e
   refine⟨some v,?_,v,rfl,q.av fun a z=>?_⟩
   ·rw[eZ (by rw[ak,hlen];exact hi),bY,hv];rfl
   ·rcases z with z|z|z|z
    ·exact z.elim
    ·exact z
    ·exact absurd (fun _ _ z=>(by cases z)) z
    ·cases z.1
  ·rw[ff (by rw[ak];omega),fh] at e
   split at e
   ·rename_i h'
    cases e
    refine⟨none,?_,trivial⟩
    rw[ak] at h'
    rw[ff (by rw[ak];omega),fh,if_pos (by rw[ak,hlen];exact h')]
   ·cases e
 ·intro i j a f as c g cs hij e1
  rw[eu] at e1
  by_cases hi:i<ds.length
  ·rw[eZ (by rw[ak];exact hi)] at e1
   obtain⟨_,_,_,z,_⟩:=lV hd e1
   cases z
  ·rw[ff (by rw[ak];omega),fh] at e1
   split at e1<;>cases e1
 ·intro i j a f as c g cs hij e1
  rw[eu] at e1
  by_cases hi:i<ds.length
  ·rw[eZ (by rw[ak];exact hi)] at e1
   obtain⟨_,_,_,z,_⟩:=lV hd e1
   cases z
  ·rw[ff (by rw[ak];omega),fh] at e1
   split at e1<;>cases e1
 ·intro i j c t hij e1
  rw[eu] at e1
  by_cases hi:i<ds.length
  ·rw[eZ (by rw[ak];exact hi)] at e1
   obtain⟨_,_,_,z,_⟩:=lV hd e1
   cases z
  ·rw[ff (by rw[ak];omega),fh] at e1
   split at e1<;>cases e1
 ·rcases z with z|z
  ·exact .inr (.inl z)
  ·exact .inr (.inr (.inr z))
theorem Sv.mP(hB:cW H b l)(hl:jW nb H)(hb:nb b)(hd:af nb H ds vs)(aW:∀f d v H',Φ f d->aI (Nb b) H H'->cW H' b l->ah (fun a=>nb a\/(f=true/\H a≠none)) H' d v->Q v H')
    (eu:ρ= .az::ds.map (Sl.d false)++List.replicate (N.length-(ds.length+1)) .no) (h:Sv ⟨some (b,l),H,nb,[]⟩ ρ t {nx:=fun _=>Φ true .none,rt:=Φ}):t {nx:=fun _ H'=>Q .aG H',rt:=Q} (start N (.ref b::vs)) H:=by
  have hlen:=hd.length
  have sF:∀a,a≠b->NB (some (b,l)) a:=fun a n b' l' e=>by cases e;exact n
  have Je:∀a,¬NB (some (b,l)) a->a=b:=fun a n=>jP fun z=>n (sF a z)
  have bt:∀{bU ρ' σ' H'},Wd ⟨some (b,l),H,nb,[]⟩ bU ρ' σ' H'->aI (Nb b) H H':=fun W a o n e=>W.old a o (sF a n) e
  have bg:∀{bU ρ' σ' H'},Wd ⟨some (b,l),H,nb,[]⟩ bU ρ' σ' H'->cW H' b l:=fun W=>W.az b l rfl
  refine h (fun _=>False) _ H _ ⟨fun b' l' e=>(by cases e;exact hB),fun _ z=>z.elim,fun _ _ _ e=>e,fun _ z=>z.elim,hl,?_,fun b' l' e=>(by cases e;exact hB),fun _ m=>(by cases m),fun i s e=>?_,?_,?_,?_⟩ ⟨fun bU ρ' σ' H' q W=>aW _ _ _ _ q (bt W) (bg W) .aG,fun _ _ _ _ q _=>q.elim,fun _ _ _ _ q _=>q.elim,fun bU ρ' σ' f v H' d q W hv=>aW f d v H' q (bt W) (bg W) (hv.av fun a z=>?_),fun _ _ _ _ _ q _=>q.elim⟩
  · rw[eu];unfold start;simp[hlen]
  · rw[eu] at e
    unfold start
    cases i with
    |zero=>simp at e;subst e;exact⟨some (.ref b),by simp,b,l,rfl,rfl⟩
    | succ i =>
      simp only[nv,lY,aZ,fP] at e⊢
      by_cases hi:i<ds.length
      · rw[eZ (by rw[ak];exact hi)] at e
        obtain⟨v,d,hv,rfl,q⟩:=lV hd e
        refine⟨some v,?_,v,rfl,q.av fun a z=>?_⟩
        · rw[eZ (by rw[ak,hlen];exact hi),bY,hv];rfl
        · rcases z with z|z|z|z
          · exact z.elim
          · exact z
          · rw[Je a z];exact hb
          · cases z.1
      · rw[ff (by rw[ak];omega),fh] at e
        split at e
        · rename_i h'
          cases e
          refine⟨none,?_,trivial⟩
          rw[ak] at h'
          rw[ff (by rw[ak];omega),fh,if_pos (by rw[ak,hlen];exact h')]
        · cases e
  · intro i j a f as c g cs hij e1
    rw[eu] at e1
    cases i with
    |zero=>simp at e1
    | succ i =>
      simp only[nv,lY] at e1
      by_cases hi:i<ds.length
      · rw[eZ (by rw[ak];exact hi)] at e1
        obtain⟨_,_,_,z,_⟩:=lV hd e1
        cases z
      · rw[ff (by rw[ak];omega),fh] at e1
        split at e1<;>cases e1
  · intro i j a f as c g cs hij e1
    rw[eu] at e1
    cases i with
    |zero=>simp at e1
    | succ i =>
      simp only[nv,lY] at e1
      by_cases hi:i<ds.length
      · rw[eZ (by rw[ak];exact hi)] at e1
        obtain⟨_,_,_,z,_⟩:=lV hd e1
        cases z
      · rw[ff (by rw[ak];omega),fh] at e1
        split at e1<;>cases e1
  · intro i j c t hij e1
    rw[eu] at e1
    cases i with
    |zero=>simp at e1
    | succ i =>
      simp only[nv,lY] at e1
      by_cases hi:i<ds.length
      · rw[eZ (by rw[ak];exact hi)] at e1
        obtain⟨_,_,_,z,_⟩:=lV hd e1
        cases z
      · rw[ff (by rw[ak];omega),fh] at e1
        split at e1<;>cases e1
  · rcases z with z|z
    · exact .inr (.inl z)
    · exact .inr (.inr (.inr z))
def AB(b l:Addr)(H:Hp):Gx:=⟨some (b,l),H,fun _=>False,[]⟩
theorem Lp{a:Addr}{m:Nat}(hB:cW H b l):Wd (AB b l H) (fun _=>False) (.raw (.ref a):: .az::List.replicate m .no) (some (.ref a)::some (.ref b)::List.replicate m none) H:=by
  refine⟨fun b' l' e=>(by cases e;exact hB),fun _ z=>z.elim,fun _ _ _ e=>e,fun _ z=>z.elim,fun _ z=>z.elim,by simp,fun b' l' e=>(by cases e;exact hB),fun _ m=>(by cases m),fun i s e=>?_,?_,?_,?_⟩
  · match i with
    |0=>simp at e;subst e;exact⟨_,rfl,rfl⟩
    |1=>simp at e;subst e;exact⟨some (.ref b),rfl,b,l,rfl,rfl⟩
    | i + 2 =>
      simp only[lY,fh] at e⊢
      split at e
      · rename_i h;cases e;exact⟨none,if_pos h,trivial⟩
      · cases e
  · intro i j a f as c g cs hij e1
    match i with
    |0=>simp at e1
    |1=>simp at e1
    | i + 2 =>
      simp only[lY,fh] at e1
      split at e1<;>cases e1
  · intro i j a f as c g cs hij e1
    match i with
    |0=>simp at e1
    |1=>simp at e1
    | i + 2 =>
      simp only[lY,fh] at e1
      split at e1<;>cases e1
  · intro i j c t hij e1
    match i with
    |0=>simp at e1
    |1=>simp at e1
    | i + 2 =>
      simp only[lY,fh] at e1
      split at e1<;>cases e1
theorem Ev.Sj{G:Gx}{i:Nat}{a:Addr}{ns:List Int}{K:PySem.W.Frag}(e:ρ[i]?=some (.raw (.ref a)))(hS:aF K G.H0 a (ns.map V.int))(h:Φ true (.int ns.length)):Ev G ρ (dw (eT K) (aK (bE i) aQ)) Φ:=fun nb σ H Q W z=>by
 obtain⟨x,e1,h1⟩:=W.ok i _ e
 have h1:x=some (.ref a):=h1
 subst h1
 have hS':aF K H a (ns.map V.int):=by
  rcases hS with hr|hk
  ·have hn:NB G.B a:=fun b l hb z=>by
    subst z
    obtain⟨_,_,_,_,_,g1,_⟩:=W.gB _ _ hb
    rcases hr with hr|⟨o,hr⟩
    ·rw[g1] at hr
     have:=HO.lst.inj (eS hr)
     cases ns with
     |nil=>cases this
     |cons n r=>rw[aZ] at this;cases (pA this).1
    ·rw[g1] at hr;cases hr
   rcases hr with hr|⟨o,hr⟩
   ·exact .inl (.inl (W.old _ _ hn hr))
   ·exact .inl (.inr ⟨o,W.old _ _ hn hr⟩)
  ·exact .inr hk
 refine⟨.ref a,e1,a,_,rfl, .inl hS',?_⟩
 rw[ak]
 exact z true _ H _ h (.refl W.az) (.int _)
theorem Rf{D:Ends}(h2:∀H,D.rt (.bl true) H):Am (AB b l H) {nx:=fun _=>False,rt:=fun _ d=>d= .bool true} D:=
 ⟨fun _ _ _ _ q _=>q.elim,fun _ _ _ _ q _=>q.elim,fun _ _ _ _ q _=>q.elim,fun _ _ _ f v H d q _ hv=>by subst q;unfold ah at hv;subst hv;exact h2 H,fun _ _ _ _ _ q _=>q.elim⟩
end
namespace R
theorem di{P:Int->Prop}{i:Int}(h:P i):∃j,PyData.int i= .int j/\P j:=⟨i,rfl,h⟩
theorem db{P:Bool->Prop}{i:Bool}(h:P i):∃j,PyData.bool i= .bool j/\P j:=⟨i,rfl,h⟩
theorem dl{P:List PyData->Prop}{i:List PyData}(h:P i):∃j,PyData.list i= .list j/\P j:=⟨i,rfl,h⟩
theorem dt{P:List PyData->Prop}{i:List PyData}(h:P i):∃j,PyData.tuple i= .tuple j/\P j:=⟨i,rfl,h⟩
theorem Jk{P:List PyData->Prop}{i:List PyData}(h:P i):∃j,(PyData.list i= .list j\/PyData.list i= .tuple j)/\P j:=⟨i, .inl rfl,h⟩
theorem QG{P:List PyData->Prop}{i:List PyData}(h:P i):∃j,(PyData.tuple i= .list j\/PyData.tuple i= .tuple j)/\P j:=⟨i, .inr rfl,h⟩
theorem Lm{P:Bool->Prop}{i j:Int}(h:P (decide (i=j))):∃b,fV (.int i) (.int j) b/\P b:=⟨_, .ii i j,h⟩
theorem Ob{P:Bool->Prop}{x y:Bool}(h:P (x==y)):∃b,fV (.bool x) (.bool y) b/\P b:=⟨_, .bb x y,h⟩
theorem at_{ds:List PyData}{k:Int}{e:PyData}{P:PyData->Prop}(h:bh ds k=some e)(q:P e):∃e,bh ds k=some e/\P e:=⟨e,h,q⟩
theorem ON{A:Prop}(q:A):([]:List Fd).length<=10000/\A:=⟨by decide,q⟩
theorem Ko{C A:Prop}(c:C)(q:A):C/\A:=⟨c,q⟩
end R
theorem mh{n:Nat}{F:DF}{vs:List V}{H:Hp}{Q:VK}{E:XK}(h:dh n F vs H Q E):∃(nb:Addr->Prop) (ds:List PyData) (Φ:Pd),jW nb H/\af nb H ds vs/\(∀f d v H',Φ f d->cH H H'->ah (fun a=>nb a\/(f=true/\H a≠none)) H' d v->Q v H')/\F ds Φ:=by
 obtain⟨_,nb,ds,h1,h2,h3⟩:=h
 exact⟨nb,ds,_,h1,h2,fun f d v H' q=>q v H',h3⟩
theorem nA{n:Nat}{F:DF}{vs:List V}{H:Hp}{Q:VK}{E:XK}(h:eO n F vs H Q E):∃(b l:Addr) (ws:List V) (nb:Addr->Prop) (ds:List PyData) (Φ:Pd),vs= .ref b::ws/\cW H b l/\jW nb H/\nb b/\af nb H ds ws/\(∀f d v H',Φ f d->aI (Nb b) H H'->cW H' b l->ah (fun a=>nb a\/(f=true/\H a≠none)) H' d v->Q v H')/\F ds Φ:=by
 obtain⟨_,b,l,ws,nb,ds,e,hB,h1,hb,h2,h3⟩:=h
 exact⟨b,l,ws,nb,ds,_,e,hB,h1,hb,h2,fun f d v H' q=>q v H',h3⟩
end L2
set_option maxRecDepth 100000
set_option maxHeartbeats 1000000
namespace L2
open PySem PySem.Spec PyProof.Rows
abbrev aB:=List (Int×Int)
abbrev Wo:=List (Option Int)
abbrev cN(prs:aB):PyData:= .list (prs.map pairD)
abbrev gC(p n:Int)(cs:List aB):PyData:= .tuple [.int p, .int n, .list (cs.map cN)]
theorem zI{α β:Type}{xs:List α}(φ:α->β){k:Int}{m:Nat}(h0:0<=k)(h1:k<m)(hm:m=xs.length):∃x,xs[k.toNat]?=some x/\bh (xs.map φ) k=some (φ x):=by
 have hk:k.toNat<xs.length:=by omega
 exact⟨xs[k.toNat],aR hk,jw h0 (by rw[bY,aR hk];rfl)⟩
theorem dP{α β:Type}{xs:List α}{φ:α->β}{i:Nat}{d:β}(h:(xs.map φ)[i]?=some d):∃x,xs[i]?=some x/\d=φ x:=by
 rw[bY] at h
 obtain⟨x,hx,e⟩:=jX.mp h
 exact⟨x,hx,e.symm⟩
theorem take_snoc{α:Type}{xs:List α}{i:Nat}{x:α}(h:xs[i]?=some x):xs.take (i+1)=xs.take i++[x]:=by
 rw[List.take_add_one,h];rfl
end L2
set_option maxRecDepth 100000
set_option maxHeartbeats 4000000
namespace L2
open PySem PySem.Spec PyProof.Rows
theorem EJ{α:Type}{us:List α}(h:us.length=1):∃a,us=[a]:=by
  cases us with
  |nil=>cases h
  | cons a us =>
    cases us with
    |nil=>exact⟨a,rfl⟩
    |cons _ _=>cases h
theorem ln2{α:Type}{us:List α}(h:us.length=2):∃a b,us=[a,b]:=by
  cases us with
  |nil=>cases h
  | cons a us =>
    obtain⟨b,rfl⟩:=EJ (us:=us) (zF h)
    exact⟨a,b,rfl⟩
theorem BO{α:Type}{us:List α}(h:us.length=3):∃a b c,us=[a,b,c]:=by
  cases us with
  |nil=>cases h
  | cons a us =>
    obtain⟨b,c,rfl⟩:=ln2 (us:=us) (zF h)
    exact⟨a,b,c,rfl⟩
theorem HS{α:Type}{us:List α}(h:us.length=4):∃a b c d,us=[a,b,c,d]:=by
  cases us with
  |nil=>cases h
  | cons a us =>
    obtain⟨b,c,d,rfl⟩:=BO (us:=us) (zF h)
    exact⟨a,b,c,d,rfl⟩
end L2
set_option maxRecDepth 100000
set_option maxHeartbeats 1000000
namespace L2
open PySem PySem.Spec PyProof.Rows
def jB(xs:Array Nat):Prop:=∀(i j x y:Nat),i<j->xs[i]?=some x->xs[j]?=some y->x<y
theorem O3{xs:Array Nat}{q:Nat}(hr:jB xs):∀(f lo hi:Nat),hi<=xs.size->lo<=hi->hi-lo<=f->(∀i x,i<lo->xs[i]?=some x->x<q)->(∀i x,hi<=i->xs[i]?=some x->q<=x)->
    lo<=SetTable.below.go xs q f lo hi/\SetTable.below.go xs q f lo hi<=hi/\(∀i x,i<SetTable.below.go xs q f lo hi->xs[i]?=some x->x<q)/\(∀i x,SetTable.below.go xs q f lo hi<=i->xs[i]?=some x->q<=x):=by
  intro f
  induction f with
  | zero =>
    intro lo hi h1 h2 h3 h4 h5
    have e:lo=hi:=by omega
    subst e
    exact⟨aA _,aA _,h4,h5⟩
  | succ f ih =>
    intro lo hi h1 h2 h3 h4 h5
    unfold SetTable.below.go
    by_cases hlt:lo<hi
    · rw[if_pos hlt]
      have hm:(lo+hi)/2<xs.size:=by omega
      have hg:xs[(lo+hi)/2]?=some xs[(lo+hi)/2]:=jL hm
      have hgd:xs.getD ((lo+hi)/2) q=xs[(lo+hi)/2]:=by rw[vD,hg];rfl
      dsimp only
      rw[hgd]
      by_cases hc:xs[(lo+hi)/2]<q
      · rw[if_pos hc]
        obtain⟨a1,a2,a3,a4⟩:=ih ((lo+hi)/2+1) hi h1 (by omega) (by omega) (fun i x hi' e=>by
          rcases wW i ((lo+hi)/2) with z|z
          · exact kZ (hr i _ x _ z e hg) hc
          · have:i=(lo+hi)/2:=by omega
            subst this;rw[hg] at e;cases e;exact hc) h5
        exact⟨by omega,a2,a3,a4⟩
      · rw[if_neg hc]
        obtain⟨a1,a2,a3,a4⟩:=ih lo ((lo+hi)/2) (by omega) (by omega) (by omega) h4 (fun i x hi' e=>by
          rcases wW ((lo+hi)/2) i with z|z
          · exact gH (tR (zq hc) (hr _ i _ x z hg e))
          · have:i=(lo+hi)/2:=by omega
            subst this;rw[hg] at e;cases e;exact zq hc)
        exact⟨a1,by omega,a3,a4⟩
    · rw[if_neg hlt]
      have e:lo=hi:=by omega
      subst e
      exact⟨aA _,aA _,h4,h5⟩
theorem below_at{xs:Array Nat}{q:Nat}(hr:jB xs):SetTable.below xs q<=xs.size/\(∀i x,i<SetTable.below xs q->xs[i]?=some x->x<q)/\(∀i x,SetTable.below xs q<=i->xs[i]?=some x->q<=x):=by
 obtain⟨_,h2,h3,h4⟩:=O3 (q:=q) hr xs.size 0 xs.size (aA _) (eg _) (by omega) (fun i x h=>absurd h (Nat.not_lt_zero _)) (fun i x h e=>by
  have:=(qd.mp e).1;omega)
 exact⟨h2,h3,h4⟩
theorem Q9{α:Type}{xs:Array α}{p:Nat}{x:α}(hp:p<=xs.size)(i:Nat):(SetTable.insertAt xs p x)[i]?=if i<p then xs[i]? else if i=p then some x else xs[i-1]?:=by
 unfold SetTable.insertAt
 rw[G4]
 have e1:((xs.extract 0 p).push x).size=p+1:=by rw[qy,eB];omega
 rw[e1]
 by_cases h1:i<p
 ·rw[if_pos (show i<p+1 by omega),if_pos h1,yJ,if_neg (by rw[eB];omega),Gb (by omega)]
  simp
 ·rw[if_neg h1]
  by_cases h2:i=p
  ·rw[if_pos (show i<p+1 by omega),if_pos h2,yJ,if_pos (by rw[eB];omega)]
  ·rw[if_neg (show¬i<p+1 by omega),if_neg h2]
   by_cases h3:i-(p+1)<xs.size-p
   ·rw[Gb (by omega),<-jL,show p+(i-(p+1))=i-1 by omega]
   ·rw[vR (by rw[eB];omega),vR (by omega)]
theorem jB.insert{xs:Array Nat}{q:Nat}(hr:jB xs)(hq:xs[SetTable.below xs q]?≠some q):jB (SetTable.insertAt xs (SetTable.below xs q) q):=by
 obtain⟨h1,h2,h3⟩:=below_at (q:=q) hr
 have h3':∀i x,SetTable.below xs q<=i->xs[i]?=some x->q<x:=fun i x hi e=>by
  rcases wV (h3 i x hi e) with z|z
  ·exact z
  ·subst z
   rcases wV hi with z|z
   ·have hb:SetTable.below xs q<xs.size:=cT z (gH (qd.mp e).1)
    have hg:xs[SetTable.below xs q]?=some xs[SetTable.below xs q]:=jL hb
    have:=hr _ i _ q z hg e
    have:=h3 _ _ (aA _) hg
    omega
   ·rw[<-z] at e;exact absurd e hq
 intro i j x y hij ex ey
 rw[Q9 h1] at ex ey
 by_cases a:i<SetTable.below xs q
 ·rw[if_pos a] at ex
  by_cases b:j<SetTable.below xs q
  ·rw[if_pos b] at ey;exact hr i j x y hij ex ey
  ·rw[if_neg b] at ey
   by_cases c:j=SetTable.below xs q
   ·rw[if_pos c] at ey;cases ey;exact h2 i x a ex
   ·rw[if_neg c] at ey;exact hr i (j-1) x y (by omega) ex ey
 ·rw[if_neg a] at ex
  by_cases c:i=SetTable.below xs q
  ·rw[if_pos c] at ex;cases ex
   rw[if_neg (by omega),if_neg (by omega)] at ey
   exact h3' (j-1) y (by omega) ey
  ·rw[if_neg c] at ex
   rw[if_neg (by omega),if_neg (by omega)] at ey
   exact hr (i-1) (j-1) x y (by omega) ex ey
theorem J4{t:SetTable}{ha:Nat->Int}{h:Int}:∀(f:Nat) (p:SetTable.Probe) (j:Nat) (dm:Option Nat),(∀d,p.dummy=some d->t.slot d= .dummy)->SetTable.probe.go t ha h f p=some (.empty j dm)->t.slot j= .empty/\∀d,dm=some d->t.slot d= .dummy:=by
  intro f
  induction f with
  |zero=>intro p j dm _ e;unfold SetTable.probe.go at e;cases e
  | succ f ih =>
    intro p j dm hd e
    have BY:∀p:SetTable.Probe,(t.advance p).dummy=p.dummy:=fun p=>by unfold SetTable.advance;split<;>rfl
    unfold SetTable.probe.go at e
    cases hs:t.slot p.j with
    |empty=>rw[hs] at e;cases e;exact⟨hs,hd⟩
    |dummy=>rw[hs] at e;exact ih _ j dm (fun d h'=>by rw[BY] at h';cases h';exact hs) e
    | live i =>
      rw[hs] at e
      dsimp only at e
      split at e
      · cases e
      · exact ih _ j dm (fun d h'=>by rw[BY] at h';exact hd d h') e
theorem Eb{t:SetTable}{h:Int}{j:Nat}{wd:Bool}(e:t.freeSlot h=some (j,wd)):∀i,t.slot j≠ .live i:=by
 unfold SetTable.freeSlot SetTable.probe at e
 intro i z
 split at e
 ·rename_i j0 dm he
  obtain⟨h1,h2⟩:=J4 (10*SetTable.turns t.mask) (t.probeStart h) j0 dm (fun d h'=>by unfold SetTable.probeStart at h';cases h') he
  cases dm with
  |none=>cases e;simp at z;rw[h1] at z;cases z
  |some d=>cases e;simp at z;rw[h2 d rfl] at z;cases z
 ·cases e
structure dH(bt:Bool)(t:SetTable):Prop where
 led:bt=false->t.led=true
 xO:t.plain=true->jB t.place
theorem dH.standIn{bt:Bool}{t:SetTable}(h:dH bt t)(n:Nat):dH bt (t.standIn n):=⟨h.led,fun z=>by cases z⟩
theorem dH.off{bt:Bool}{t:SetTable}(h:dH bt t):dH bt {t with plain:=false}:=⟨h.led,fun z=>by cases z⟩
theorem dH.put{bt:Bool}{t:SetTable}{j:Nat}(h:dH bt t)(hj:∀i,t.slot j≠ .live i):dH bt (t.put j).1:=by
 refine⟨h.led,fun z=>?_⟩
 refine jB.insert (h.xO z) fun e=>hj (SetTable.below t.place j) ?_
 unfold SetTable.slot
 dsimp only
 rw[if_pos (by rw[e];exact beq_self_eq_true _)]
theorem dH.layNew{bt:Bool}{t:SetTable}{es:Array (Int×Value)}{h:Int}{x:Value}(ok:dH bt t):dH bt (layNew t es h x).2.1:=by
 unfold PySem.layNew
 split
 ·rename_i slot wd e
  dsimp only
  unfold SetTable.orStandIn
  split
  ·exact ok.put (Eb e)
  ·exact(ok.put (Eb e)).standIn _
 ·exact ok.standIn _
theorem Ql(n:Nat)(φ:Nat->Option Nat):jB (((List.range n).filterMap fun j=>(φ j).map (j,·)).map (·.1)).toArray:=by
  have hp:(((List.range n).filterMap fun j=>(φ j).map (j,·)).map (·.1)).Pairwise (· < ·):=by
    have hs:List.Sublist (((List.range n).filterMap fun j=>(φ j).map (j,·)).map (·.1)) (List.range n):=by
      induction List.range n with
      |nil=>simp
      | cons a r ih =>
        rw[nK]
        cases φ a with
        |none=>exact ih.cons a
        |some y=>exact ih.cons₂ a
    exact vh.sublist hs
  intro i j x y hij ex ey
  rw[Dn] at ex ey
  obtain⟨hi,rfl⟩:=aJ.mp ex
  obtain⟨hj,rfl⟩:=aJ.mp ey
  exact rj.mp hp i j hi hj hij
theorem dH.QL{bt:Bool}{t:SetTable}{es:Array (Int×Value)}{n:Nat}(ok:dH bt t):dH bt (relayAll t es n).2.1:=by
  unfold relayAll
  split
  · rename_i t' order e
    dsimp only
    split
    · unfold SetTable.relaid SetTable.laid at e
      cases hl:SetTable.layClean (SetTable.sizeAbove n-1) (es.map (·.1)) with
      |none=>rw[hl] at e;cases e
      | some owner =>
        rw[hl] at e
        cases e
        exact⟨ok.led,fun _=>Ql _ _⟩
    · exact ok.standIn _
  · exact ok.standIn _
theorem dH.fresh{bt:Bool}:dH bt (.fresh 0 0 (!bt)):=⟨fun h=>by rw[h];rfl,fun _ i j x y _ e=>by simp[SetTable.fresh] at e⟩
end L2
set_option maxRecDepth 100000
set_option maxHeartbeats 4000000
namespace L2
open PySem PySem.Spec PyProof.Rows
def fJ(bt:Bool)(h:Heap)(a:Addr):Prop:=∀o es ep t,h.get? a=some o->o.data= .set es ep t->dH bt t
theorem fJ.of{bt:Bool}{h:Heap}{a:Addr}{o:Obj}{es:Array (Int×Value)}{ep:Nat}{t:SetTable}(e:h.get? a=some o)(d:o.data= .set es ep t)(k:dH bt t):fJ bt h a:=fun o' es' tZ t' e' d'=>by
 rw[e] at e';cases e';rw[d] at d';cases d';exact k
theorem fJ.keep{bt:Bool}{h h':Heap}{a:Addr}{o:Obj}(k:fJ bt h a)(e:h.get? a=some o)(e':h'.get? a=some o):fJ bt h' a:=fun o1 es ep t x d=>by
 rw[e'] at x;cases x;exact k o es ep t e d
section
variable{prog:Program}{w:World}{A:Around}{E:Value->Shared->Prop}{s:Shared}{a:Addr}{bt:Bool}
abbrev IK(prog:Program)(w:World):=intKind prog w
theorem ER{o:Obj}{es es':Array (Int×Value)}{ep:Nat}{t t':SetTable}{T:Int->Bool}{h:Heap}(g1:h.get? a=some o)(g2:o.ExactSet)(g3:o.data= .set es ep t)(l1:ElemsOf (IK prog w) es'.toList)
  (l2:∀k,T k=true↔∃e∈es'.toList,(IK prog w).is k e.2=true) (l3:es'.size<scanBound) (l4:t'.fits es'.size=true) (tk:dH bt t'):
  (∃o',(h.update a (Obj.putSet es' t')).get? a=some o'/\o'.ExactSet/\o'.data= .set es' (ep+1) t')/\(h.update a (Obj.putSet es' t')).SetOf (IK prog w) a T es'.size/\fJ bt (h.update a (Obj.putSet es' t')) a:=by
 obtain⟨q1,q2⟩:=SetOf_store (knd:=IK prog w) (es':=es') (t':=t') (S':=T) g1 g2 g3 l1 l2 l3 l4
 exact⟨⟨_,q1,g2,rfl⟩,q2, .of q1 rfl tk⟩
theorem DP{gg:Bool->Sem Unit}(Lv:∀(b:Bool) (s₁:Shared) (Q₁:Unit->Shared->Prop),Q₁ () s₁->wpAny (model prog w) A (gg b) Q₁ E s₁){o:Obj}{es:Array (Int×Value)}{ep:Nat}{t:SetTable}
    (g1:s.heap.get? a=some o) (g2:o.ExactSet) (g3:o.data= .set es ep t) {es1:Array (Int×Value)} {t2:SetTable} {T:Int->Bool} (l1:ElemsOf (IK prog w) es1.toList) (l2:∀k,T k=true↔∃e∈es1.toList,(IK prog w).is k e.2=true)
    (l3:es1.size<scanBound) (l4:t2.fits es1.size=true) (tk:dH bt t2) {wd:Bool} {R:Option Bool->Shared->Prop}
    (fin:∀h',Heap.SameBut a s.heap h'->h'.SetOf (IK prog w) a T es1.size->fJ bt h' a->R (some true) {s with heap:=h'}):
    wpAny (model prog w) A (do storeSet a es1 t2
                               if(!wd && t2.tooFull)=true then do
                                 gg (relayAll t2 es1 (SetTable.grown es1.size)).2.2
                                 storeSet a (relayAll t2 es1 (SetTable.grown es1.size)).1 (relayAll t2 es1 (SetTable.grown es1.size)).2.1
                                 pure (some true)
                               else pure (some true)) R E s:=by
  obtain⟨⟨o1,k1,k2,k3⟩,q1,q2⟩:=ER (T:=T) g1 g2 g3 l1 l2 l3 l4 tk
  have sb:=Heap.SameBut.update s.heap a (Obj.putSet es1 t2)
  refine wpAny_bind (wpAny_storeSet_of g1 g3 ?_ (fits_of_scanBound l3))
  by_cases c:(!wd && t2.tooFull)=true
  · rw[if_pos c]
    have pp:=relayAll_perm t2 es1 (SetTable.grown es1.size)
    have pf:=relayAll_fits t2 es1 (SetTable.grown es1.size)
    have pt:=tk.QL (es:=es1) (n:=SetTable.grown es1.size)
    generalize relayAll t2 es1 (SetTable.grown es1.size)=Z at pp pf pt⊢
    obtain⟨G5,t3,PN⟩:=Z
    dsimp only at pp pf pt⊢
    have sz:G5.size=es1.size:=by have:=pp.length_eq;rwa[cF,cF] at this
    have Qu:∀k,T k=true↔∃e∈G5.toList,(IK prog w).is k e.2=true:=fun k=>(l2 k).trans ⟨fun⟨e,m,z⟩=>⟨e,pp.mem_iff.mpr m,z⟩,fun⟨e,m,z⟩=>⟨e,pp.mem_iff.mp m,z⟩⟩
    obtain⟨_,r1,r2⟩:=ER (T:=T) k1 k2 k3 (l1.perm pp) Qu (by rw[sz];exact l3) pf pt
    refine wpAny_bind (Lv _ _ _ (wpAny_bind (wpAny_storeSet_of k1 k3 ?_ (fits_of_scanBound (by rw[sz];exact l3)))))
    rw[sz] at r1
    exact wpAny_pure (fin _ (sb.trans (Heap.SameBut.update _ a _)) r1 r2)
  · rw[if_neg c]
    exact wpAny_pure (fin _ sb q1 q2)
theorem O9{S:Int->Bool}{n:Nat}{k:Int}{x:Value}{Q:Bool->Shared->Prop}(hx:(IK prog w).is k x=true)(sc:x.scannable=true)(hS:s.heap.SetOf (IK prog w) a S n)(hT:fJ bt s.heap a)(room:n+1<scanBound)
    (fin:∀h',Heap.SameBut a s.heap h'->h'.SetOf (IK prog w) a (fun j=>S j||decide (j=k)) (if S k then n else n+1)->fJ bt h' a->Q (!S k) {s with heap:=h'}):
    wpAny (model prog w) A (setAddHashed a x ((IK prog w).hash k)) Q E s:=by
  obtain⟨o,es,ep,t,g1,g2,g3,l1,l2,l3,l4,sz⟩:=hS
  have tk:=hT o es ep t g1 g3
  unfold setAddHashed setAddHashedIn
  refine wpAny_holding (wpAny_bind (wpAny_setState_of g1 g3 l4 ?_))
  dsimp only
  rw[if_pos (byScan_of sc l3 l1)]
  unfold setAddByScan
  refine wpAny_bind (wpAny_bind (wpAny_rule (wpAny_bind (wpAny_setScan_of hx g1 g3 l4 l1 ?_))))
  cases fr:List.findIdx? (fun e=>(IK prog w).is k e.2) es.toList with
  | some j =>
    obtain⟨hj,pj,_⟩:=List.findIdx?_eq_some_iff_getElem.mp fr
    have yes:S k=true:=(l2 k).mpr ⟨_,jk hj,pj⟩
    have z:=fin s.heap (.refl a s.heap) ⟨o,es,ep,t,g1,g2,g3,l1,fun j=>by
      rw[Bool.or_eq_true,decide_eq_true_eq,<-l2 j]
      exact⟨fun q=>q.elim id fun e=>e▸yes, .inl⟩,l3,l4,by rw[if_pos yes];exact sz⟩ hT
    rw[yes] at z
    exact wpAny_pure (wpAny_pure z)
  | none =>
    have no:S k=false:=by
      cases q:S k with
      |false=>rfl
      | true =>
        obtain⟨e,m,p⟩:=(l2 k).mp q
        rw[List.findIdx?_eq_none_iff.mp fr e m] at p;cases p
    have pp:=layNew_perm t es ((IK prog w).hash k) x
    have pf:=layNew_fits t es ((IK prog w).hash k) x
    have pt:=tk.layNew (es:=es) (h:=(IK prog w).hash k) (x:=x)
    dsimp only
    generalize layNew t es ((IK prog w).hash k) x=Z at pp pf pt⊢
    obtain⟨es1,t1,wd,PN⟩:=Z
    dsimp only at pp pf pt⊢
    rw[jy] at pp
    have kC:es1.size=n+1:=by have:=pp.length_eq;rw[bR,cF,cF,sz] at this;exact this
    have fin':∀h',Heap.SameBut a s.heap h'->h'.SetOf (IK prog w) a (fun j=>S j||decide (j=k)) es1.size->fJ bt h' a->Q true {s with heap:=h'}:=fun h' x1 x2 x3=>by
      have:=fin h' x1;rw[no,if_neg bz] at this;rw[kC] at x2;exact this x2 x3
    have gw:∀(b:Bool) (s₁:Shared) (Q₁:Unit->Shared->Prop),Q₁ () s₁->wpAny (model prog w) A (match b with|true=>rule "set.scan.the-table-gave-way" |false=>pure ()) Q₁ E s₁:=fun b s₁ Q₁ q=>by
      cases b
      · exact wpAny_pure q
      · exact wpAny_rule q
    refine wpAny_bind (gw _ _ _ ?_)
    have e1:=(l1.push hx sc).perm pp
    have e2:=mem_push_iff hx l2 pp
    have e3:es1.size<scanBound:=by rw[kC];exact room
    by_cases pl:t1.plain=true
    · rw[if_pos pl,hashByValue_scannable 8 sc]
      refine wpAny_bind (wpAny_pure ?_)
      refine DP gw g1 g2 g3 e1 e2 e3 ?_ ?_ fun h' x1 x2 x3=>wpAny_pure (fin' h' x1 x2 x3)
      · split
        · exact pf
        · exact SetTable.fits_plain_off pf
      · split
        · exact pt
        · exact pt.off
    · rw[if_neg pl]
      refine wpAny_bind (wpAny_pure ?_)
      rw[if_pos rfl]
      exact DP gw g1 g2 g3 e1 e2 e3 pf pt fun h' x1 x2 x3=>wpAny_pure (fin' h' x1 x2 x3)
end
end L2
set_option maxRecDepth 100000
set_option maxHeartbeats 4000000
namespace L2
open PySem PySem.Spec PyProof.Rows
section
variable{prog:Program}{w:World}{A:Around}{R:Result->Shared->Prop}{I:Addr}{fp wr:List Addr}{G:Array GenState->Array GenState->Prop}{n:Nat}{P:Nat->Value->Prop}{St:Nat->Shared->Prop}{bt:Bool}
abbrev met(val:Nat->Int)(i:Nat):Int->Bool:=fun k=>(firstMet val i).any (· ==k)
theorem RM(W:WalksS prog w A.in1 I fp wr G n P St)(C:Addr)(nC:C∉fp)(val:Nat->Int)(hv:∀i v,P i v->∃t,v= .int (val i) t)(room:n+1<scanBound)(fuel:Nat):
    ∀(i:Nat) (s:Shared),n-i=fuel->i<=n->St i s->s.heap.SetOf (IK prog w) C (met val i) (firstMet val i).length->fJ bt s.heap C->
      (∀s',Moved (C::wr) G s s'->s'.heap.SetOf (IK prog w) C (met val n) (firstMet val n).length->fJ bt s'.heap C->R (.ok (.ret .none)) s')->
      codeAny (model prog w) A (.builtin "set.update.loop" ⟨[.ref C, .ref I],[]⟩) R s:=by
  have nw:C∉wr:=fun z=>nC (W.sub _ z)
  have up:∀b∈wr,b∈C::wr:=fun b z=>dN _ z
  have mv:∀{s s':Shared} {T:Int->Bool} {m:Nat},Moved wr G s s'->s.heap.SetOf (IK prog w) C T m->fJ bt s.heap C->s'.heap.SetOf (IK prog w) C T m/\fJ bt s'.heap C:=fun mo q tt=>by
    obtain⟨o,es,ep,t,ho,r⟩:=q
    exact⟨⟨o,es,ep,t,mo.heap C _ nw ho,r⟩,tt.keep ho (mo.heap C _ nw ho)⟩
  induction fuel with
  | zero =>
    intro i s e1 e2 st q tt fin
    obtain rfl:i=n:=by omega
    refine codeAny_builtin F.entry_set_update_loop ?_
    rw[kE wL _]
    refine wpAny_bind (W.done s _ _ st fun s' mo=>?_)
    exact wpAny_pure (fin s' (mo.mono up) (mv mo q tt).1 (mv mo q tt).2)
  | succ fuel ih =>
    intro i s e1 e2 st q tt fin
    have lt:i<n:=by omega
    refine codeAny_builtin F.entry_set_update_loop ?_
    rw[kE wL _]
    refine wpAny_bind (W.item i s _ _ lt st fun v s' hP st' mo=>?_)
    obtain⟨tok,rfl⟩:=hv i v hP
    obtain⟨q',RS⟩:=mv mo q tt
    show wpAny _ A.in1 (holding [Value.int (val i) tok] (setAdd C (.int (val i) tok))>>=_) _ _ s'
    unfold setAdd
    refine wpAny_bind (wpAny_holding (wpAny_holding (wpAny_bind ((IK prog w).pyHash (k:=val i) (intKind_is _ _ _ _) ?_))))
    refine O9 (bt:=bt) (s:={s' with toks:=s'.toks+1}) (intKind_is _ _ _ _) rfl q' RS (by have:=firstMet_length_le val i;omega) fun h' sb q2 Kh=>?_
    have q3:h'.SetOf (IK prog w) C (met val (i+1)) (firstMet val (i+1)).length:=SetOf_congr q2 (fun j=>by unfold met;rw[firstMet_succ,step_any]) (by rw[firstMet_succ,step_length])
    refine wpAny_pure ⟨plainId_quiet wL _,ih (i+1) _ (by omega) lt (W.frame _ s' _ _ st' (iD _) fun b hb o e=>?_) q3 Kh fun s2 L4 q4 PK=>?_⟩
    · rw[sb.2 b fun z:b=C=>nC (z▸hb)];exact e
    · refine fin s2 (Moved.trans W.gtrans ((mo.mono up).then_heap (iD _) fun b o hb e=>?_) L4) q4 PK
      rw[sb.2 b fun z:b=C=>hb (z▸dB)];exact e
end
section
variable{prog:Program}{w:World}{A:Around}{E:Value->Shared->Prop}{s:Shared}
abbrev ez(w:World):Bool:=w.params.followText "set-order"
abbrev j4(w:World):Obj:={cls:= .type "set",dict:=none,data:= .set #[] 0 (.fresh 0 0 (!ez w))}
theorem Pn(a:Value){Q₁:Value->Shared->Prop}(fin:Q₁ (.ref s.heap.objs.size) {s with heap:=s.heap.push (j4 w)}):codeAny (model prog w) A (.call (.builtin "set.__new__") ⟨[.type "set",a],[]⟩) (wants Q₁ E) s:=by
 refine codeAny_of_tree ?_
 show wpAny _ A.in1 (do checkBuiltinCall "set.__new__" ⟨[.type "set",a],[]⟩;again (.builtin "set.__new__" ⟨[.type "set",a],[]⟩)) _ _ s
 refine wpAny_bind (wpAny_of_eq (F.newCall_set_1 a) (wpAny_pure ⟨plainId_quiet F.plain_set_new _,codeAny_builtin F.entry_set_new ?_⟩))
 rw[kE F.plain_set_new _]
 unfold Builtin.«set.__new__» Builtin.Frozenset.newClass
 have hsub:=sub_set_self
 obtain⟨hp,g,d,tk,os⟩:=s
 dsimp only at fin⊢
 wp_walk
 refine wpAny_askSetting (wpAny_pure ?_)
 dsimp only
 simp only[newObj]
 exact wpAny_bind (wpAny_alloc (wpAny_pure (wpAny_pure fin)))
theorem RI{l:Addr}{items:Array Value}{ns:List Int}{Q:Value->Shared->Prop}(hh:A.handled=none)(hl:s.heap.IsList l items)(hi:IntsAre items.toList ns)(room:items.size+1<scanBound)
    (fin:∀(h':Heap) (tk:Nat),h'.SetOf (IK prog w) s.heap.objs.size (met (fun i=>ns.getD i 0) items.size) (firstMet (fun i=>ns.getD i 0) items.size).length->fJ (ez w) h' s.heap.objs.size->
      (∀b o,b<s.heap.objs.size->s.heap.get? b=some o->h'.get? b=some o)->Q (.ref s.heap.objs.size) {s with heap:=h',toks:=tk}):wpAny (model prog w) A (call (.type "set") [.ref l]) Q E s:=by
  obtain⟨c,tl,SR⟩:=lO.mro
  have hmade:=lO.made
  have hsub:=lO.sub
  have h1:=lO.notType
  have h2:=lO.canCreate
  have hct:=F.typeCall_set_1 (.ref l)
  refine wpAny_call (codeAny_of_tree ?_)
  show wpAny _ _ (callAny (.type "set") _) _ _ _
  refine wpAny_pure ⟨Code.quiet_builtin _ (by decide+kernel),codeAny_builtin F.entry_type_call ?_⟩
  rw[Around.under_plain (weight_type_call_type "set" [.ref l] []) rfl]
  repeat (any_goals (first|assumption|wp_step))
  refine codeAny_mono (Pn (.ref l) (E:=E) (Q₁:=fun obj s₁=>obj= .ref s.heap.objs.size/\s₁={s with heap:=s.heap.push (j4 w)}) ⟨rfl,rfl⟩) fun r s₁ hr=>?_
  cases r with
  |error e=>exact hr
  | ok fl =>
    cases fl with
    | ret obj =>
      obtain⟨rfl,rfl⟩:=hr
      have hS:(s.heap.push (j4 w)).get? s.heap.objs.size=some (j4 w):=dX _ rfl
      have hT:Shared.TypeIs {s with heap:=s.heap.push (j4 w)} (.ref s.heap.objs.size) "set":=⟨_,hS,rfl⟩
      have hli:=lO.init.lookup
      have hbi:=lO.init.bind (.ref s.heap.objs.size)
      repeat (any_goals (first|assumption|wp_step))
      refine codeAny_mono (codeAny_call_builtin (R:=wants (fun r s₂=>r= .none/\∃h' tk,s₂={s with heap:=h',toks:=tk}/\h'.SetOf (IK prog w) s.heap.objs.size (met (fun i=>ns.getD i 0) items.size) (firstMet (fun i=>ns.getD i 0) items.size).length/\fJ (ez w) h' s.heap.objs.size/\
          (∀b o,b<s.heap.objs.size->s.heap.get? b=some o->h'.get? b=some o)) E) lO.init.plain F.entry_set_init (check_set_init_1 hT ?_)) fun r₂ s₂ xS=>?_
      · obtain⟨ol,kL,hcl,nl,hdl⟩:=hl
        obtain⟨Sx,SH,SM,SY⟩:=ol
        simp only at hcl hdl
        subst hcl;subst hdl
        have KP:=bC (j4 w) kL
        have Sd:=F.sub_list_set
        have Su:=F.sub_list_frozenset
        have hne:(Value.type "list"==Value.type "dict")=false:=by decide
        have hl1:(s.heap.push (j4 w)).IsList l items:=⟨_,KP,rfl,nl,rfl⟩
        unfold Builtin.«set.__init__» noKeywords Builtin.Frozenset.updateFrom
        generalize Qy:pyIter=PI
        wp_walk
        subst Qy
        refine wpAny_pyIter_list hl1 (wpAny_bind (wpAny_runValue ?_))
        have hlS:l<s.heap.objs.size:=aX kL
        have kC:(s.heap.push (j4 w)).objs.size=s.heap.objs.size+1:=ju ..
        have n1:l≠(s.heap.push (j4 w)).objs.size:=by rw[kC];exact bS (gY hlS)
        have n2:s.heap.objs.size∉[(s.heap.push (j4 w)).objs.size,l]:=by
          rw[kC];intro z;rcases bQ.mp z with z|z
          · exact absurd z (bS (nN _))
          · exact absurd (aC.mp z) (mW hlS)
        have h3:A.in1.in1.in1.handled=none:=by simp[hh]
        have hS':=bC ({cls:= .type "list_iterator",data:= .fields #[.ref l, .int 0 0]}:Obj) hS
        refine RM (bt:=ez w) ((Walks.list h3 _ l n1 items).toS) s.heap.objs.size n2 (fun i=>ns.getD i 0) (fun i v e=>IntsAre.int_at hi i v (by rw[gz];exact e)) room (items.size-0) 0 _ (by omega) (eg _)
          ⟨⟨_,dX _ rfl,rfl,rfl⟩,(hl1.push _)⟩ (SetOf_congr ((setObjOf_fresh (knd:=IK prog w) (!ez w)).setOf hS' (by unfold scanBound;omega)) (fun _=>rfl) rfl) (.of hS' rfl .fresh) ?_
        intro s' mo q tt
        obtain⟨h',g',d',tk',os'⟩:=s'
        obtain rfl:g'=s.gens:=mo.gens
        obtain rfl:d'=s.drawn:=mo.drawn
        obtain rfl:os'=s.os:=mo.os
        refine wpAny_pure (wpAny_pure ⟨rfl,h',tk',rfl,q,tt,fun b o hb e=>?_⟩)
        refine mo.heap b o (fun z=>?_) (bC _ (bC _ e))
        rcases bQ.mp z with z|z
        · exact absurd z (bS hb)
        · rw[kC] at z;exact absurd (aC.mp z) (bS (gY hb))
      · cases r₂ with
        |error e=>exact xS
        | ok fl₂ =>
          cases fl₂ with
          | ret r =>
            obtain⟨rfl,h',tk,rfl,q1,q2,q3⟩:=xS
            repeat (any_goals (first|assumption|wp_step))
            exact fin _ _ q1 q2 q3
          |_=>exact xS.elim
    |_=>exact hr.elim
end
end L2
set_option maxRecDepth 100000
set_option maxHeartbeats 4000000
namespace L2
open PySem PySem.Spec PyProof.Rows
theorem iw:Slot "set_iterator" "__next__" "set_iterator.__next__":= .of (owner:="set_iterator") (n:="__next__") (by rw[typeLookup_type,builtinLookup_eq_fast];kernel_rfl) (by decide+kernel) (by decide+kernel) (by decide+kernel) (by first|exact .inl (by decide+kernel)|exact .inr (by decide+kernel)) (by rw[isSubtype_type];kernel_rfl)
theorem rW:entryFor table "set_iterator.__next__"=some Builtin.«set_iterator.__next__» :=entryFor_of_tree (by kernel_rfl)
theorem uP(a:Value):argsOk "set_iterator.__next__" ⟨[a],[]⟩:=by unfold argsOk;kernel_rfl
theorem Bx:Slot "set" "__iter__" "set.__iter__":= .of (owner:="set") (n:="__iter__") (by rw[typeLookup_type,builtinLookup_eq_fast];kernel_rfl) (by decide+kernel) (by decide+kernel) (by decide+kernel) (by first|exact .inl (by decide+kernel)|exact .inr (by decide+kernel)) (by rw[isSubtype_type];kernel_rfl)
theorem Oh:entryFor table "set.__iter__"=some Builtin.«frozenset.__iter__» :=entryFor_alias (id':="frozenset.__iter__") (by kernel_rfl) rfl (by decide+kernel) (by kernel_rfl)
theorem Kn(a:Value):argsOk "set.__iter__" ⟨[a],[]⟩:=by unfold argsOk;kernel_rfl
theorem n9:Slot "set_iterator" "__iter__" "set_iterator.__iter__":= .of (owner:="set_iterator") (n:="__iter__") (by rw[typeLookup_type,builtinLookup_eq_fast];kernel_rfl) (by decide+kernel) (by decide+kernel) (by decide+kernel) (by first|exact .inl (by decide+kernel)|exact .inr (by decide+kernel)) (by rw[isSubtype_type];kernel_rfl)
theorem zc:entryFor table "set_iterator.__iter__"=some Builtin.«dict_keyiterator.__iter__» :=entryFor_alias (id':="dict_keyiterator.__iter__") (by kernel_rfl) rfl (by decide+kernel) (by kernel_rfl)
theorem Al(a:Value):argsOk "set_iterator.__iter__" ⟨[a],[]⟩:=by unfold argsOk;kernel_rfl
end L2
set_option maxRecDepth 100000
set_option maxHeartbeats 4000000
namespace L2
open PySem PySem.Spec PyProof.Rows
section
variable{prog:Program}{w:World}{A:Around}{E:Value->Shared->Prop}{s:Shared}{a it tp:Addr}{o:Obj}{es:Array (Int×Value)}{ep:Nat}{t:SetTable}
theorem vK{α:Type}:∀{l:List α} {i:Nat} (h:i<l.length),(l[i]::l.eraseIdx i).Perm l
  |b::r,0,_=>by simp
  | b :: r, i + 1, h => by
    have:=vK (l:=r) (i:=i) (by simpa using h)
    simp only[List.getElem_cons_succ,Ed]
    exact(List.Perm.swap b _ _).trans (this.cons b)
theorem yf{α:Type}(nx:Nat->Nat):∀(f k:Nat) (l:List α) (out:Array α),l.length<=f->(pickOrder.go nx f k l out).toList.Perm (out.toList++l):=by
  intro f
  induction f with
  | zero =>
    intro k l out h
    have:l=[]:=kH.mp (by omega)
    subst this
    unfold pickOrder.go
    simp
  | succ f ih =>
    intro k l out h
    unfold pickOrder.go
    cases l with
    |nil=>simp
    | cons b r =>
      have hlt:nx k%(b::r).length<(b::r).length:=Nat.mod_lt _ (by simp)
      rw[aR hlt]
      dsimp only
      refine(ih (k+1) _ _ (by rw[v7 hlt];omega)).trans ?_
      rw[jy,dM]
      refine j3 _ ?_
      exact vK hlt
theorem CL(bt:ez w=true)(g1:s.heap.get? a=some o)(g3:o.data= .set es ep t)(g4:t.fits es.size=true){i sl:Nat}{Q:Option (Value×Nat)->Shared->Prop}
  (h:Q (((pickOrder (w.params.setOrder a ep) es)[i]?).map fun e=>(e.2,sl)) s):wpAny (model prog w) A (setNext a sl i ep) Q E s:=by
 unfold setNext
 refine wpAny_bind (wpAny_setState_of g1 g3 g4 ?_)
 dsimp only
 unfold setsByText
 refine wpAny_bind (wpAny_bind (wpAny_askSetting (wpAny_pure ?_)))
 show wpAny _ _ (if ez w=true then _ else _) _ _ _
 rw[if_pos bt]
 rw[if_neg (by simp)]
 refine wpAny_bind ?_
 unfold setWalk
 refine wpAny_bind (wpAny_setState_of g1 g3 g4 ?_)
 dsimp only
 unfold setsByText
 refine wpAny_bind (wpAny_bind (wpAny_askSetting (wpAny_pure ?_)))
 show wpAny _ _ (if ez w=true then _ else _) _ _ _
 rw[if_pos bt]
 refine wpAny_bind (wpAny_askSetting (wpAny_pure ?_))
 exact wpAny_pure h
theorem CP(bt:ez w=false)(g1:s.heap.get? a=some o)(g3:o.data= .set es ep t)(g4:t.fits es.size=true)(tk:dH (ez w) t)(pl:t.plain=true\/es.size<=1){i sl:Nat}{Q:Option (Value×Nat)->Shared->Prop}
  (h:Q (match es[SetTable.below t.place sl]?,t.place[SetTable.below t.place sl]? with|some (_,x),some j=>some (x,j+1)|_,_=>none) s):wpAny (model prog w) A (setNext a sl i ep) Q E s:=by
 unfold setNext
 refine wpAny_bind (wpAny_setState_of g1 g3 g4 ?_)
 dsimp only
 unfold setsByText
 refine wpAny_bind (wpAny_bind (wpAny_askSetting (wpAny_pure ?_)))
 show wpAny _ _ (if ez w=true then _ else _) _ _ _
 rw[bt,if_neg bz]
 show wpAny _ _ (if(!t.plain && decide (es.size>1))=true then _ else _) _ _ _
 rw[if_neg (by
  intro z
  rw[cV,Bool.not_eq_true',decide_eq_true_eq] at z
  rcases pl with p|p
  ·rw[p] at z;cases z.1
  ·omega)]
 refine wpAny_bind ?_
 show wpAny _ _ (if(!t.led && !es.isEmpty)=true then _ else _) _ _ _
 rw[if_neg (by rw[tk.led bt];simp)]
 refine wpAny_pure ?_
 exact wpAny_pure h
theorem O5(g1:s.heap.get? a=some o)(g3:o.data= .set es ep t)(g4:t.fits es.size=true){pl:Nat}{hx:Int}{x:Value}{Q:Value->Shared->Prop}(e:es[pl]?=some (hx,x))(h:Q x s):wpAny (model prog w) A (setNextDrawn a pl ep) Q E s:=by
 unfold setNextDrawn
 refine wpAny_bind (wpAny_setState_of g1 g3 g4 ?_)
 dsimp only
 rw[if_neg (by simp)]
 rw[e]
 exact wpAny_pure h
def je(h:Heap)(it a:Addr)(first:Value)(i n ep:Nat):Prop:=∃o,h.get? it=some o/\o.cls= .type "set_iterator" /\o.data= .fields #[first, .int i 0, .ref a, .int n 0, .int ep 0]
theorem je.ty{first:Value}{i n:Nat}(h:je s.heap it a first i n ep):s.TypeIs (.ref it) "set_iterator":=let ⟨o,e,c,_⟩:=h;⟨o,e,c⟩
theorem tO{first:Value}{i n:Nat}{QQ:Fin->Shared->Prop}{EE:Value->Shared->Prop}(hit:je s.heap it a first i n ep)(g1:s.heap.get? a=some o)(g3:o.data= .set es ep t)(g4:t.fits es.size=true)(hn:es.size=n)
    (h:wpAny (model prog w) A (match first with
      | .int slot _ => (do
        match<-setNext a slot.toNat i ep with
        | some (x, next) => do
          setField (.ref it) 0 (rawInt next)
          setField (.ref it) 1 (rawInt ((i:Int)+1))
          ret x
        | none => do
          setField (.ref it) 2 .none
          raiseNew (<-newExc (.type "StopIteration") []))
      | _ => (do
        let some places<-seqItems? first|unsupported "internal:set_iterator"
        match places[i]? with
        | some (.int place _) => do
          let x<-setNextDrawn a place.toNat ep
          setField (.ref it) 1 (rawInt ((i:Int)+1))
          ret x
        |some _=>unsupported "internal:set_iterator"
        | none => do
          setField (.ref it) 0 (rawInt 0)
          setField (.ref it) 2 .none
          raiseNew (<-newExc (.type "StopIteration") []))) QQ EE s):wpAny (model prog w) A (Builtin.«set_iterator.__next__» ⟨[.ref it],[]⟩) QQ EE s:=by
  obtain⟨oi,ho,hc,hd⟩:=hit
  unfold Builtin.«set_iterator.__next__»
  refine wpAny_bind (wpAny_pure ?_)
  refine wpAny_bind (wpAny_fieldsOf ho hd ?_)
  dsimp only
  refine wpAny_bind (wpAny_setEntries_of g1 g3 g4 ?_)
  rw[if_neg (by rw[hn];simp)]
  cases first<;>exact h
theorem rP{h:Heap}{first:Value}{i n k:Nat}{x:Value}{oi:Obj}{vs:Array Value}(ho:h.get? it=some oi)(hc:oi.cls= .type "set_iterator")(hd:oi.data= .fields vs):
  (h.update it (Obj.mapFields (·.setIfInBounds k x))).get? it=some (Obj.mapFields (·.setIfInBounds k x) oi)/\(Obj.mapFields (·.setIfInBounds k x) oi).cls= .type "set_iterator" /\(Obj.mapFields (·.setIfInBounds k x) oi).data= .fields (vs.setIfInBounds k x):=by
 refine⟨sy _ ho (Obj.isFreed_of_fields (Obj.data_mapFields hd _)),(Obj.cls_mapFields ..).trans hc,Obj.data_mapFields hd _⟩
theorem BE{sl i n nx:Nat}{x:Value}{Q:Option Value->Shared->Prop}(hit:je s.heap it a (.int sl 0) i n ep)(g1:s.heap.get? a=some o)(g3:o.data= .set es ep t)(g4:t.fits es.size=true)(hn:es.size=n)
  (hN:∀(Q:Option (Value×Nat)->Shared->Prop) (E:Value->Shared->Prop),Q (some (x,nx)) s->wpAny (model prog w) A.in1 (setNext a sl i ep) Q E s)
  (hQ:∀h',je h' it a (.int nx 0) (i+1) n ep->(∀b,b≠it->h'.get? b=s.heap.get? b)->Q (some x) {s with heap:=h'}):wpAny (model prog w) A (pyNext (.ref it)) Q E s:=by
 obtain⟨oi,ho,hc,hd⟩:=id hit
 unfold pyNext
 refine wpAny_bind (wpAny_attempt (wpAny_callSpecial?_slot (name:=Str.ofString "__next__") hit.ty iw (wpAny_call_entry iw hit.ty rW ?_ (uP _))))
 refine tO hit g1 g3 g4 hn ?_
 dsimp only
 refine wpAny_bind (hN _ _ ?_)
 dsimp only
 obtain⟨u1,u2,u3⟩:=rP (first:= .none) (i:=0) (n:=0) (k:=0) (x:=rawInt nx) ho hc hd
 obtain⟨w1,w2,w3⟩:=rP (first:= .none) (i:=0) (n:=0) (k:=1) (x:=rawInt ((i:Int)+1)) u1 u2 u3
 refine wpAny_bind (wpAny_setField ho hd (by simp) ?_)
 refine wpAny_bind (wpAny_setField u1 u3 (by simp) ?_)
 refine wpAny_pure ⟨x,rfl,wpAny_pure (hQ _ ⟨_,w1,w2,?_⟩ fun b hb=>?_)⟩
 ·rw[w3];simp[rawInt]
 ·exact((jK _ _ (br hb))).trans (jK _ _ (br hb))
theorem En{QQ:Fin->Shared->Prop}{B:Around}{Q:Option Value->Shared->Prop}(hh:B.handled=none)(hQ:∀o1 o2,Q none {s with heap:=(s.heap.push o1).push o2}):wpAny (model prog w) B (do raiseNew (<-newExc (.type "StopIteration") [])) QQ
  (fun e s'=>wpAny (model prog w) A (do if<-isInstance e (.type "StopIteration") then pure none else throw e) Q E s') s:=by
 refine wpAny_bind ?_
 simp only[newExc,newTuple]
 refine wpAny_bind (wpAny_newObj_type ?_ (by size_fits))
 refine wpAny_bind (m:=firstArgMember _ _) (wpAny_of_eq (a:=Value.none) (by first|rfl|(simp only[firstArgMember];rfl)) (wpAny_newObj_type ?_ (by size_fits)))
 simp only[raiseNew]
 refine wpAny_bind (wpAny_handled ?_)
 rw[hh]
 refine wpAny_bind (wpAny_pure (wpAny_throw ?_))
 refine wpAny_bind (wpAny_isInstance (b:=true) (T:="StopIteration") ⟨_,dX _ rfl,rfl⟩ isSubtype_stop ?_)
 exact wpAny_pure (hQ _ _)
theorem FZ{sl i n:Nat}{Q:Option Value->Shared->Prop}(hh:A.handled=none)(hit:je s.heap it a (.int sl 0) i n ep)(g1:s.heap.get? a=some o)(g3:o.data= .set es ep t)(g4:t.fits es.size=true)(hn:es.size=n)
  (hN:∀(Q:Option (Value×Nat)->Shared->Prop) (E:Value->Shared->Prop),Q none s->wpAny (model prog w) A.in1 (setNext a sl i ep) Q E s)
  (hQ:∀h',(∀b o,b≠it->s.heap.get? b=some o->h'.get? b=some o)->Q none {s with heap:=h'}):wpAny (model prog w) A (pyNext (.ref it)) Q E s:=by
 obtain⟨oi,ho,hc,hd⟩:=id hit
 unfold pyNext
 refine wpAny_bind (wpAny_attempt (wpAny_callSpecial?_slot (name:=Str.ofString "__next__") hit.ty iw (wpAny_call_entry iw hit.ty rW ?_ (uP _))))
 refine tO hit g1 g3 g4 hn ?_
 dsimp only
 refine wpAny_bind (hN _ _ ?_)
 dsimp only
 refine wpAny_bind (wpAny_setField ho hd (by simp) ?_)
 exact En (B:=A.in1) hh fun o1 o2=>hQ _ fun b o hb e=>bC _ (bC _ ((jK _ _ (br hb)).trans e))
theorem N4{i n pl:Nat}{hx:Int}{x:Value}{qH:Array Value}{Q:Option Value->Shared->Prop}(hit:je s.heap it a (.ref tp) i n ep)(g1:s.heap.get? a=some o)(g3:o.data= .set es ep t)(g4:t.fits es.size=true)(hn:es.size=n)
  (htp:∃ot m,s.heap.get? tp=some ot/\ot.data= .seq qH m) (hp:qH[i]?=some (.int pl 0)) (he:es[pl]?=some (hx,x))
  (hQ:∀h',je h' it a (.ref tp) (i+1) n ep->(∀b,b≠it->h'.get? b=s.heap.get? b)->Q (some x) {s with heap:=h'}):wpAny (model prog w) A (pyNext (.ref it)) Q E s:=by
 obtain⟨oi,ho,hc,hd⟩:=id hit
 obtain⟨ot,m,t1,t2⟩:=htp
 unfold pyNext
 refine wpAny_bind (wpAny_attempt (wpAny_callSpecial?_slot (name:=Str.ofString "__next__") hit.ty iw (wpAny_call_entry iw hit.ty rW ?_ (uP _))))
 refine tO hit g1 g3 g4 hn ?_
 dsimp only
 refine wpAny_bind (wpAny_seqItems t1 t2 ?_)
 dsimp only
 rw[hp]
 dsimp only
 refine wpAny_bind (O5 g1 g3 g4 (by simpa using he) ?_)
 obtain⟨w1,w2,w3⟩:=rP (first:= .none) (i:=0) (n:=0) (k:=1) (x:=rawInt ((i:Int)+1)) ho hc hd
 refine wpAny_bind (wpAny_setField ho hd (by simp) (wpAny_pure ⟨x,rfl,wpAny_pure (hQ _ ⟨_,w1,w2,?_⟩ fun b hb=>jK _ _ (br hb))⟩))
 rw[w3];simp[rawInt]
theorem Lg{i n:Nat}{qH:Array Value}{Q:Option Value->Shared->Prop}(hh:A.handled=none)(hit:je s.heap it a (.ref tp) i n ep)(g1:s.heap.get? a=some o)(g3:o.data= .set es ep t)(g4:t.fits es.size=true)(hn:es.size=n)
  (htp:∃ot m,s.heap.get? tp=some ot/\ot.data= .seq qH m) (hp:qH[i]?=none)
  (hQ:∀h',(∀b o,b≠it->s.heap.get? b=some o->h'.get? b=some o)->Q none {s with heap:=h'}):wpAny (model prog w) A (pyNext (.ref it)) Q E s:=by
 obtain⟨oi,ho,hc,hd⟩:=id hit
 obtain⟨ot,m,t1,t2⟩:=htp
 unfold pyNext
 refine wpAny_bind (wpAny_attempt (wpAny_callSpecial?_slot (name:=Str.ofString "__next__") hit.ty iw (wpAny_call_entry iw hit.ty rW ?_ (uP _))))
 refine tO hit g1 g3 g4 hn ?_
 dsimp only
 refine wpAny_bind (wpAny_seqItems t1 t2 ?_)
 dsimp only
 rw[hp]
 dsimp only
 obtain⟨u1,u2,u3⟩:=rP (first:= .none) (i:=0) (n:=0) (k:=0) (x:=rawInt 0) ho hc hd
 refine wpAny_bind (wpAny_setField ho hd (by simp) (wpAny_bind (wpAny_setField u1 u3 (by simp) ?_)))
 exact En (B:=A.in1) hh fun o1 o2=>hQ _ fun b o hb e=>bC _ (bC _ ((jK _ _ (br hb)).trans ((jK _ _ (br hb)).trans e)))
end
end L2
set_option maxRecDepth 100000
set_option maxHeartbeats 4000000
namespace L2
open PySem PySem.Spec PyProof.Rows
def slotAt(xs:Array Nat):Nat->Nat
 |0=>0
 |i+1=>xs.getD i 0+1
theorem JB(xs:Array Nat):slotAt xs 0=0:=rfl
theorem Cq(xs:Array Nat)(i:Nat):slotAt xs (i+1)=xs.getD i 0+1:=rfl
theorem Dc{xs:Array Nat}(hr:jB xs){i:Nat}(hi:i<=xs.size):SetTable.below xs (slotAt xs i)=i:=by
  obtain⟨h1,h2,h3⟩:=below_at (q:=slotAt xs i) hr
  have g:∀{j:Nat},j<xs.size->∃y,xs[j]?=some y/\xs.getD j 0=y:=fun{j} hj=>⟨xs[j],jL hj,by rw[vD,jL hj];rfl⟩
  rcases uV (SetTable.below xs (slotAt xs i)) i with z|z|z
  · obtain⟨y,e,_⟩:=g (cT z hi)
    have:=h3 _ y (aA _) e
    cases i with
    |zero=>omega
    | succ i =>
      obtain⟨y',e',d'⟩:=g (j:=i) (by omega)
      have es:=Cq xs i
      rw[d'] at es
      rcases wV (Nat.le_of_lt_succ z) with z|z
      · have:=hr _ _ _ _ z e e';omega
      · rw[z,e'] at e;cases e;omega
  · exact z
  · obtain⟨y,e,d⟩:=g (j:=i) (by omega)
    have:=h2 i y z e
    cases i with
    |zero=>rw[JB] at this;omega
    | succ i =>
      obtain⟨y',e',d'⟩:=g (j:=i) (by omega)
      rw[Cq,d'] at this
      have:=hr i (i+1) _ _ (by omega) e' e
      omega
section
variable{prog:Program}{w:World}{a I tp:Addr}{o:Obj}{es:Array (Int×Value)}{ep:Nat}{t:SetTable}
theorem CQ(h:t.fits es.size=true):t.place.size=es.size:=by
 unfold SetTable.fits at h
 rw[cV] at h
 exact eq_of_beq h.1
theorem RG{A:Around}(hh:A.handled=none)(bt:ez w=true)(g3:o.data= .set es ep t)(g4:t.fits es.size=true)(hne:a≠I):
  Walks prog w A I [I,a] [I] es.size (fun i v=>((pickOrder (w.params.setOrder a ep) es).toList.map (·.2))[i]?=some v) (fun i h=>je h I a (.int (0:Nat) 0) i es.size ep/\h.get? a=some o) where
 sub:=fun b hb=>by simp at hb;simp[hb]
 frame:=fun i h h' st hk=>by
  obtain⟨⟨oi,h1,h2,h3⟩,h4⟩:=st
  exact⟨⟨oi,hk I (by simp) _ h1,h2,h3⟩,hk a (by simp) _ h4⟩
 item:=fun i s Q E hi st hQ=>by
  have hsz:(pickOrder (w.params.setOrder a ep) es).toList.length=es.size:=by
   have:=(yf (w.params.setOrder a ep) es.size 0 es.toList #[] (by simp)).length_eq
   simpa[pickOrder] using this
  have hlt:i<(pickOrder (w.params.setOrder a ep) es).toList.length:=by omega
  have e1:(pickOrder (w.params.setOrder a ep) es)[i]?=some (pickOrder (w.params.setOrder a ep) es).toList[i]:=by rw[<-gz];exact aR hlt
  refine BE st.1 st.2 g3 g4 rfl (x:=(pickOrder (w.params.setOrder a ep) es).toList[i].2) (nx:=0) (fun Q E q=>CL bt st.2 g3 g4 (by rw[e1];exact q)) fun h' x1 x2=>?_
  refine hQ _ h' s.toks (by rw[bY,aR hlt];rfl) ⟨x1,(x2 a hne).trans st.2⟩ fun b o' hb e=>(x2 b (fun z=>hb (by simp[z]))).trans e
 done:=fun s Q E st hQ=>by
  have hsz:(pickOrder (w.params.setOrder a ep) es).toList.length=es.size:=by
   have:=(yf (w.params.setOrder a ep) es.size 0 es.toList #[] (by simp)).length_eq
   simpa[pickOrder] using this
  refine FZ hh st.1 st.2 g3 g4 rfl (fun Q E q=>CL bt st.2 g3 g4 (by rw[<-gz,j5 (by omega)];exact q)) fun h' x1=>hQ h' s.toks fun b o' hb e=>x1 b o' (fun z=>hb (by simp[z])) e
 self:=fun i s Q E st hQ=>by
  refine wpAny_pyIter_slot st.1.ty n9 (wpAny_call_entry n9 st.1.ty zc ?_ (Al _))
  exact wpAny_pure ⟨_,rfl,"set_iterator",_,st.1.ty,iw.lookup,hQ⟩
theorem Nv{A:Around}(hh:A.handled=none)(bt:ez w=false)(g3:o.data= .set es ep t)(g4:t.fits es.size=true)(tk:dH (ez w) t)(pl:t.plain=true\/es.size<=1)(hne:a≠I):
  Walks prog w A I [I,a] [I] es.size (fun i v=>(es.toList.map (·.2))[i]?=some v) (fun i h=>je h I a (.int (slotAt t.place i) 0) i es.size ep/\h.get? a=some o) where
 sub:=fun b hb=>by simp at hb;simp[hb]
 frame:=fun i h h' st hk=>by
  obtain⟨⟨oi,h1,h2,h3⟩,h4⟩:=st
  exact⟨⟨oi,hk I (by simp) _ h1,h2,h3⟩,hk a (by simp) _ h4⟩
 item:=fun i s Q E hi st hQ=>by
  have hps:=CQ g4
  have hr:jB t.place:=by
   rcases pl with p|p
   ·exact tk.xO p
   ·intro i j x y hij ex ey
    have:=(qd.mp ey).1;omega
  have hlt:i<es.toList.length:=by simpa using hi
  have e1:es[i]?=some es.toList[i]:=by rw[<-gz];exact aR hlt
  have e2:t.place[i]?=some (t.place.getD i 0):=by rw[vD,jL (by omega)];rfl
  refine BE st.1 st.2 g3 g4 rfl (x:=es.toList[i].2) (nx:=slotAt t.place (i+1)) (fun Q E q=>CP bt st.2 g3 g4 tk pl (by rw[Dc hr (by omega),e1,e2];exact q)) fun h' x1 x2=>?_
  refine hQ _ h' s.toks (by rw[bY,aR hlt];rfl) ⟨x1,(x2 a hne).trans st.2⟩ fun b o' hb e=>(x2 b (fun z=>hb (by simp[z]))).trans e
 done:=fun s Q E st hQ=>by
  have hps:=CQ g4
  have hr:jB t.place:=by
   rcases pl with p|p
   ·exact tk.xO p
   ·intro i j x y hij ex ey
    have:=(qd.mp ey).1;omega
  refine FZ hh st.1 st.2 g3 g4 rfl (fun Q E q=>CP bt st.2 g3 g4 tk pl (by rw[Dc hr (by omega),vR (aA _)];exact q)) fun h' x1=>hQ h' s.toks fun b o' hb e=>x1 b o' (fun z=>hb (by simp[z])) e
 self:=fun i s Q E st hQ=>by
  refine wpAny_pyIter_slot st.1.ty n9 (wpAny_call_entry n9 st.1.ty zc ?_ (Al _))
  exact wpAny_pure ⟨_,rfl,"set_iterator",_,st.1.ty,iw.lookup,hQ⟩
theorem Nj{A:Around}{ks:List Nat}(hh:A.handled=none)(g3:o.data= .set es ep t)(g4:t.fits es.size=true)(hk:ks.Perm (List.range es.size))(hne:a≠I)(hnt:tp≠I):
    Walks prog w A I [I,a,tp] [I] es.size (fun i v=>((ks.filterMap (es[·]?)).map (·.2))[i]?=some v) (fun i h=>je h I a (.ref tp) i es.size ep/\h.get? a=some o/\∃ot m,h.get? tp=some ot/\ot.data= .seq (ks.map fun(k:Nat)=>rawInt k).toArray m) where
  sub:=fun b hb=>by simp at hb;simp[hb]
  frame:=fun i h h' st hk=>by
    obtain⟨⟨oi,h1,h2,h3⟩,h4,ot,m,h5,h6⟩:=st
    exact⟨⟨oi,hk I (by simp) _ h1,h2,h3⟩,hk a (by simp) _ h4,ot,m,hk tp (by simp) _ h5,h6⟩
  item:=fun i s Q E hi st hQ=>by
    have hlen:ks.length=es.size:=by rw[hk.length_eq];simp
    have hin:∀k∈ks,k<es.size:=fun k m=>by simpa using hk.mem_iff.mp m
    have hi':i<ks.length:=by omega
    have hki:=hin ks[i] (jk hi')
    have e1:es[ks[i]]?=some es[ks[i]]:=jL hki
    have fm:∀(l:List Nat),(∀k∈l,k<es.size)->∀j (hj:j<l.length),(l.filterMap (es[·]?))[j]?=es[l[j]]?:=by
      intro l
      induction l with
      |nil=>intro _ j hj;simp at hj
      | cons b r ih =>
        intro hl j hj
        have hb:=hl b (dB ..)
        rw[nK,jL hb]
        cases j with
        |zero=>simp[jL hb]
        |succ j=>simpa using ih (fun k m=>hl k (dN _ m)) j (by simpa using hj)
    refine N4 st.1 st.2.1 g3 g4 rfl st.2.2 (pl:=ks[i]) (hx:=es[ks[i]].1) (x:=es[ks[i]].2) (by simp[aR hi',rawInt]) e1 fun h' x1 x2=>?_
    obtain⟨ot,m,t1,t2⟩:=st.2.2
    refine hQ _ h' s.toks ?_ ⟨x1,(x2 a hne).trans st.2.1,ot,m,(x2 tp hnt).trans t1,t2⟩ fun b o' hb e=>(x2 b (fun z=>hb (by simp[z]))).trans e
    rw[bY,fm ks hin i hi',e1];rfl
  done:=fun s Q E st hQ=>by
    have hlen:ks.length=es.size:=by rw[hk.length_eq];simp
    exact Lg hh st.1 st.2.1 g3 g4 rfl st.2.2 (by simp;omega) fun h' x1=>hQ h' s.toks fun b o' hb e=>x1 b o' (fun z=>hb (by simp[z])) e
  self:=fun i s Q E st hQ=>by
    refine wpAny_pyIter_slot st.1.ty n9 (wpAny_call_entry n9 st.1.ty zc ?_ (Al _))
    exact wpAny_pure ⟨_,rfl,"set_iterator",_,st.1.ty,iw.lookup,hQ⟩
end
section
variable{prog:Program}{w:World}{A:Around}{E:Value->Shared->Prop}{s:Shared}{a:Addr}{o:Obj}{es:Array (Int×Value)}{ep:Nat}{t:SetTable}
theorem FJ{α:Type}:∀l:List α,(List.range l.length).filterMap (fun i=>l[i]?)=l
  |[]=>rfl
  | x :: l => by
    have:=FJ l
    rw[fP,yi,nK,List.filterMap_map]
    simpa[Function.comp_def] using this
theorem JF{src:Source}{n:Nat}{Q:Nat->Shared->Prop}(hn:n≠0)(h:∀i d',i<n->Q i {s with drawn:=d'}):wpAny (model prog w) A (choose src n) Q E s:=fun Γ p _=>⟨hn,h _ _ (Nat.mod_lt _ (Nat.pos_of_ne_zero hn))⟩
theorem Hv{α:Type}:∀(n:Nat) (xs:List α) (s:Shared) (Q:List α->Shared->Prop),xs.length<=n->(∀ks d',ks.Perm xs->Q ks {s with drawn:=d'})->wpAny (model prog w) A (drawOrder n xs) Q E s
  | 0, xs, s, Q, hl, h => by
    have:xs=[]:=kH.mp (by omega)
    subst this
    unfold drawOrder
    exact wpAny_pure (h [] s.drawn .nil)
  | n + 1, [], s, Q, hl, h => by
    unfold drawOrder
    exact wpAny_pure (h [] s.drawn .nil)
  | n + 1, x :: xs, s, Q, hl, h => by
    unfold drawOrder
    refine wpAny_bind (JF (by simp) fun i d' hi=>?_)
    rw[aR hi]
    dsimp only
    refine wpAny_bind (Hv n _ _ _ (by rw[v7 hi];simp at hl⊢;omega) fun ks d2 hk=>?_)
    exact wpAny_pure (h _ d2 ((hk.cons _).trans (vK hi)))
theorem Jz(g1:s.heap.get? a=some o)(g3:o.data= .set es ep t)(g4:t.fits es.size=true){Q:Bool->Shared->Prop}(h:Q (!ez w &&(!t.plain && decide (es.size>1))) s):wpAny (model prog w) A (setDrawn a) Q E s:=by
 unfold setDrawn
 refine wpAny_bind (wpAny_setState_of g1 g3 g4 ?_)
 dsimp only
 unfold setsByText
 refine wpAny_bind (wpAny_bind (wpAny_askSetting (wpAny_pure ?_)))
 exact wpAny_pure h
theorem Ey(g1:s.heap.get? a=some o)(g3:o.data= .set es ep t)(g4:t.fits es.size=true){Q:Nat->Shared->Prop}(h:Q ep s):wpAny (model prog w) A (setEpoch a) Q E s:=by
 unfold setEpoch
 exact wpAny_bind (wpAny_setState_of g1 g3 g4 (wpAny_pure h))
theorem Jf{Q:Value->Shared->Prop}(hb:es.size<scanBound)(g1:s.heap.get? a=some o)(g2:o.ExactSet)(g3:o.data= .set es ep t)(g4:t.fits es.size=true)(tk:dH (ez w) t)
    (hQ:∀(I:Addr) (h':Heap) d' (items:List Value) (fp:List Addr) (St:Nat->Heap->Prop),(∀b o,s.heap.get? b=some o->h'.get? b=some o)->s.heap.objs.size<=I->(∀b∈fp,b=a\/s.heap.objs.size<=b)->I∈fp->(∀b∈fp,b<h'.objs.size)->items.Perm (es.toList.map (·.2))->
      (∀B:Around,B.handled=none->Walks prog w B I fp [I] items.length (fun i v=>items[i]?=some v) St)->St 0 h'->Q (.ref I) {s with heap:=h',drawn:=d'}):wpAny (model prog w) A (pyIter (.ref a)) Q E s:=by
  have hT:s.TypeIs (.ref a) "set":=⟨o,g1,g2.1⟩
  have hlt:=aX g1
  refine wpAny_pyIter_slot hT Bx (wpAny_call_entry Bx hT Oh ?_ (Kn _))
  unfold Builtin.«frozenset.__iter__»
  unfold Builtin.Frozenset.slot0 slotArgs
  simp only[List.isEmpty_nil,ql,gq,↓reduceIte,bind_assoc,zO,bne_self_eq_false]
  unfold Builtin.Frozenset.addrOf Builtin.Frozenset.sizeOf
  refine wpAny_bind (wpAny_pure ?_)
  try dsimp only
  refine wpAny_bind (wpAny_pure ?_)
  refine wpAny_bind (wpAny_bind (wpAny_setEntries_of g1 g3 g4 (wpAny_pure ?_)))
  refine wpAny_bind (Jz g1 g3 g4 ?_)
  by_cases c:(!ez w &&(!t.plain && decide (es.size>1)))=true
  · rw[if_pos c]
    refine wpAny_bind (Hv es.size (List.range es.size) s _ (by simp) fun ks d' hk=>?_)
    unfold newTuple
    refine wpAny_bind (wpAny_newObj_type ?_ ?_)
    rotate_left
    · have hk0:ks.length=es.size:=by rw[hk.length_eq];simp
      show(List.map (fun(i:Nat)=>rawInt i) ks).toArray.size<=sizeLine
      rw[bT,ak,hk0]
      exact fits_of_scanBound hb
    have lH:=bC ({cls:= .type "tuple",data:= .seq (ks.map fun(i:Nat)=>rawInt i).toArray}:Obj) g1
    refine wpAny_bind (Ey (s:={s with heap:=_,drawn:=d'}) lH g3 g4 ?_)
    unfold newFields
    refine wpAny_bind (wpAny_newObj_type ?_)
    have hk0:ks.length=es.size:=by rw[hk.length_eq];simp
    have fin:=hQ
    clear hQ
    have kC:(s.heap.push ({cls:= .type "tuple",data:= .seq (ks.map fun(i:Nat)=>rawInt i).toArray}:Obj)).objs.size=s.heap.objs.size+1:=ju ..
    have gT:(s.heap.push ({cls:= .type "tuple",data:= .seq (ks.map fun(i:Nat)=>rawInt i).toArray}:Obj)).get? s.heap.objs.size=some {cls:= .type "tuple",data:= .seq (ks.map fun(i:Nat)=>rawInt i).toArray}:=dX _ rfl
    have gO:∀b o,s.heap.get? b=some o->(s.heap.push ({cls:= .type "tuple",data:= .seq (ks.map fun(i:Nat)=>rawInt i).toArray}:Obj)).get? b=some o:=fun b o e=>bC _ e
    generalize MC:s.heap.push ({cls:= .type "tuple",data:= .seq (ks.map fun(i:Nat)=>rawInt i).toArray}:Obj)=h1 at lH kC gT gO⊢
    have gI:(h1.push ({cls:= .type "set_iterator",data:= .fields #[.ref s.heap.objs.size,rawInt 0, .ref a,rawInt es.size,rawInt ep]}:Obj)).get? h1.objs.size=some {cls:= .type "set_iterator",data:= .fields #[.ref s.heap.objs.size,rawInt 0, .ref a,rawInt es.size,rawInt ep]}:=dX _ rfl
    have gS:=bC ({cls:= .type "set_iterator",data:= .fields #[.ref s.heap.objs.size,rawInt 0, .ref a,rawInt es.size,rawInt ep]}:Obj) lH
    have Qw:=bC ({cls:= .type "set_iterator",data:= .fields #[.ref s.heap.objs.size,rawInt 0, .ref a,rawInt es.size,rawInt ep]}:Obj) gT
    have OT:(h1.push ({cls:= .type "set_iterator",data:= .fields #[.ref s.heap.objs.size,rawInt 0, .ref a,rawInt es.size,rawInt ep]}:Obj)).objs.size=h1.objs.size+1:=ju ..
    subst MC
    refine wpAny_pure ⟨_,rfl,"set_iterator",_,⟨_,gI,rfl⟩,iw.lookup,?_⟩
    have pp:(ks.filterMap (es[·]?)).Perm es.toList:=by
      have:=hk.filterMap (es[·]?)
      have e:(List.range es.size).filterMap (es[·]?)=es.toList:=by
        have:=FJ es.toList
        simpa using this
      rwa[e] at this
    have hn:((ks.filterMap (es[·]?)).map (·.2)).length=es.size:=by rw[ak,pp.length_eq];simp
    have nM:=vQ (nN s.heap.objs.size) kC.symm
    refine fin _ _ d' ((ks.filterMap (es[·]?)).map (·.2)) [_,a,s.heap.objs.size] _ (fun b o e=>bC _ (gO b o e)) (gH nM) (fun b m=>?_) (dB ..) (fun b m=>?_) (pp.map _) (fun B hB=>by rw[hn];exact Nj hB g3 g4 hk (bS (kZ hlt nM)) (bS nM)) ?_
    · rcases bQ.mp m with e|m
      · exact .inr (by rw[e];exact gH nM)
      · rcases bQ.mp m with e|m
        · exact .inl e
        · exact .inr (mQ (aC.mp m).symm)
    · refine vQ ?_ OT.symm
      rcases bQ.mp m with e|m
      · rw[e];exact nN _
      · rcases bQ.mp m with e|m
        · rw[e];exact gY (kZ hlt nM)
        · rw[aC.mp m];exact gY nM
    · exact⟨⟨_,gI,rfl,rfl⟩,gS,_,_,Qw,rfl⟩
  · rw[if_neg c]
    refine wpAny_bind (wpAny_pure ?_)
    refine wpAny_bind (Ey g1 g3 g4 ?_)
    unfold newFields
    refine wpAny_bind (wpAny_newObj_type ?_)
    have gI:(s.heap.push ({cls:= .type "set_iterator",data:= .fields #[rawInt 0,rawInt 0, .ref a,rawInt es.size,rawInt ep]}:Obj)).get? s.heap.objs.size=some {cls:= .type "set_iterator",data:= .fields #[rawInt 0,rawInt 0, .ref a,rawInt es.size,rawInt ep]}:=dX _ rfl
    have gS:=bC ({cls:= .type "set_iterator",data:= .fields #[rawInt 0,rawInt 0, .ref a,rawInt es.size,rawInt ep]}:Obj) g1
    have hfp:∀b∈[s.heap.objs.size,a],b=a\/s.heap.objs.size<=b:=fun b m=>by
      rcases bQ.mp m with e|m
      · exact .inr (mQ e.symm)
      · exact .inl (aC.mp m)
    have hsz:(s.heap.push ({cls:= .type "set_iterator",data:= .fields #[rawInt 0,rawInt 0, .ref a,rawInt es.size,rawInt ep]}:Obj)).objs.size=s.heap.objs.size+1:=ju ..
    have DN:∀b∈[s.heap.objs.size,a],b<(s.heap.push ({cls:= .type "set_iterator",data:= .fields #[rawInt 0,rawInt 0, .ref a,rawInt es.size,rawInt ep]}:Obj)).objs.size:=fun b m=>by
      rw[hsz]
      rcases bQ.mp m with e|m
      · rw[e];exact nN _
      · rw[aC.mp m];exact gY hlt
    refine wpAny_pure ⟨_,rfl,"set_iterator",_,⟨_,gI,rfl⟩,iw.lookup,?_⟩
    cases bt:ez w with
    | true =>
      have pp:(pickOrder (w.params.setOrder a ep) es).toList.Perm es.toList:=by simpa[pickOrder] using yf (w.params.setOrder a ep) es.size 0 es.toList #[] (by simp)
      have hn:((pickOrder (w.params.setOrder a ep) es).toList.map (·.2)).length=es.size:=by rw[ak,pp.length_eq];simp
      refine hQ _ _ s.drawn ((pickOrder (w.params.setOrder a ep) es).toList.map (·.2)) [s.heap.objs.size,a] _ (fun b o e=>bC _ e) (aA _) hfp (by simp) DN (pp.map _) (fun B hB=>by rw[hn];exact RG hB bt g3 g4 (bS hlt)) ?_
      exact⟨⟨_,gI,rfl,rfl⟩,gS⟩
    | false =>
      have pl:t.plain=true\/es.size<=1:=by
        rw[bt,Bool.not_false,Bool.true_and] at c
        cases hp:t.plain with
        |true=>exact .inl rfl
        | false =>
          rw[hp,Bool.not_false,Bool.true_and,decide_eq_true_eq] at c
          exact .inr (by omega)
      have hn:(es.toList.map (·.2)).length=es.size:=by simp
      refine hQ _ _ s.drawn (es.toList.map (·.2)) [s.heap.objs.size,a] _ (fun b o e=>bC _ e) (aA _) hfp (by simp) DN (.refl _) (fun B hB=>by rw[hn];exact Nv hB bt g3 g4 tk pl (bS hlt)) ?_
      exact⟨⟨_,gI,rfl,rfl⟩,gS⟩
end
end L2
set_option maxRecDepth 100000
set_option maxHeartbeats 4000000
namespace L2
open PySem PySem.Spec PyProof.Rows
section
variable{prog:Program}{w:World}{A:Around}{E:Value->Shared->Prop}{s:Shared}{a:Addr}{o:Obj}{es:Array (Int×Value)}{ep:Nat}{t:SetTable}
theorem K7{Q:Bool->Shared->Prop}(hT:s.TypeIs (.ref a) "set")(h:Q false s):wpAny (model prog w) A (Builtin.List.listLengthHint (.ref a)) Q E s:=by
 unfold Builtin.List.listLengthHint
 refine wpAny_bind (wpAny_specialOf hT PySem.F.slot_set_len.lookup ?_)
 generalize hid:("set.__len__":String)=id0
 wp_delta
 rw[show splitId id0=some ("set","__len__") from by subst hid;decide+kernel]
 subst hid
 refine wpAny_bind (wpAny_isInstance (b:=true) (T:="set") hT (by rw[isSubtype_type];kernel_rfl) ?_)
 refine wpAny_ite_split (fun z=>absurd z (by decide)) fun _=>wpAny_ite_split (fun _=>?_) fun z=>absurd (by decide+kernel) z
 exact wpAny_bind (wpAny_typeOf hT (wpAny_pure h))
theorem PZ{items:List Value}{acc:Array Value}(h:ItemsOf (fun i v=>items[i]?=some v) acc items.length):acc.toList=items:=by
 apply jC
 intro i
 by_cases hi:i<acc.size
 ·have e:acc[i]?=some acc[i]:=jL hi
  rw[gz,e,h.2 i _ e]
 ·have:=h.1
  rw[j5 (by simp;omega),j5 (by omega)]
theorem ML{Q:List Value->Shared->Prop}(hh:A.handled=none)(hb:es.size<scanBound)(g1:s.heap.get? a=some o)(g2:o.ExactSet)(g3:o.data= .set es ep t)(g4:t.fits es.size=true)(tk:dH (ez w) t)
  (hQ:∀h' d' tk' items,(∀b o,s.heap.get? b=some o->h'.get? b=some o)->s.heap.objs.size<=h'.objs.size->items.Perm (es.toList.map (·.2))->Q items {s with heap:=h',drawn:=d',toks:=tk'}):wpAny (model prog w) A (collect (.ref a)) Q E s:=by
 have hlt:=aX g1
 unfold collect
 refine wpAny_bind (wpAny_runValue (codeAny_builtin BD ?_))
 rw[kE Dr _]
 show wpAny _ A.in1 (newList []>>=fun l=>again (.builtin "list.__iadd__" ⟨[l, .ref a],[]⟩)) _ _ s
 refine wpAny_bind (wpAny_newObj_type ?_)
 refine wpAny_pure ⟨plainId_quiet uC _,codeAny_builtin Gk ?_⟩
 rw[kE uC _]
 have gL:(s.heap.push ({cls:= .type "list",data:= .seq ([]:List Value).toArray}:Obj)).get? s.heap.objs.size=some {cls:= .type "list",data:= .seq ([]:List Value).toArray}:=dX _ rfl
 have gA:=bC ({cls:= .type "list",data:= .seq ([]:List Value).toArray}:Obj) g1
 have BF:(s.heap.push ({cls:= .type "list",data:= .seq ([]:List Value).toArray}:Obj)).objs.size=s.heap.objs.size+1:=ju ..
 show wpAny _ A.in1 (Builtin.List.listExtendWith (.ref s.heap.objs.size) (.ref a) (.ref s.heap.objs.size)) _ _ {s with heap:=s.heap.push ({cls:= .type "list",data:= .seq ([]:List Value).toArray}:Obj)}
 have hkeep:∀b o,s.heap.get? b=some o->(s.heap.push ({cls:= .type "list",data:= .seq ([]:List Value).toArray}:Obj)).get? b=some o:=fun b o e=>bC _ e
 generalize s.heap.push ({cls:= .type "list",data:= .seq ([]:List Value).toArray}:Obj)=h1 at gL gA BF hkeep⊢
 unfold Builtin.List.listExtendWith
 refine wpAny_bind (wpAny_typeOf (T:="set") ⟨o,gA,g2.1⟩ ?_)
 have n1:Builtin.List.listSameRef (.ref s.heap.objs.size) (.ref a)=false:=by
  show(s.heap.objs.size==a)=false
  exact beq_eq_false_iff_ne.mpr (mW hlt)
 have n2:(Value.type "set"==Value.type "list")=false:=by decide
 have n3:(Value.type "set"==Value.type "tuple")=false:=by decide
 simp only[n1,n2,n3,mH,gq,if_false]
 refine wpAny_bind (Jf (s:={s with heap:=h1}) hb gA g2 g3 g4 tk fun I h2 d' items fp St k1 k2 k3 k4 k5 pp W st=>?_)
 have NQ:=k1 _ _ gA
 have yW:=k1 _ _ gL
 refine wpAny_bind (wpAny_holding (K7 (s:={s with heap:=h2,drawn:=d'}) ⟨o,NQ,g2.1⟩ ?_))
 have lS:s.heap.objs.size<h1.objs.size:=vQ (nN _) BF.symm
 have nS:s.heap.objs.size∉fp:=fun m=>by
  rcases k3 _ m with e|e
  ·exact absurd e (mW hlt)
  ·exact absurd (cT lS e) (fG _)
 have hil:items.length<=sizeLine:=by
  rw[pp.length_eq,ak,cF];exact fits_of_scanBound hb
 have key:∀(h3:Heap) (c:Nat),St 0 h3->(∀b o,b≠s.heap.objs.size->h2.get? b=some o->h3.get? b=some o)->h3.get? s.heap.objs.size=some {cls:= .type "list",data:= .seq #[] c}->
   codeAny (model prog w) A (.builtin "list.extend.loop" ⟨[.ref s.heap.objs.size, .ref I, .ref s.heap.objs.size],[]⟩) (fun r s'=>match r with
    | .ok (.ret v)=>wpAny (model prog w) A (match v with| .ref x=>(do match(<-load x).data with| .seq xs _=>pure xs.toList|_=>unsupported "internal:collect")|_=>unsupported "internal:collect") Q E s'
    | .ok _=>False
    | .error e=>E e s') {s with heap:=h3,drawn:=d'}:=by
  intro h3 c st3 q1 q2
  refine codeAny_extend_loopS ((W A.in1 hh).toS) hil _ nS _ items.length 0 _ #[] c rfl (eg _) st3 q2 (ItemsOf.nil _) fun s' acc c' mo q3 q4=>?_
  refine wpAny_bind (wpAny_load q3 (wpAny_pure ?_))
  rw[PZ q4,Moved.eq_with mo]
  refine hQ s'.heap d' s'.toks items (fun b o e=>?_) ?_ pp
  ·have nb:b≠s.heap.objs.size:=bS (aX e)
   refine mo.heap b o (fun m=>?_) (q1 b o nb (k1 b o (hkeep b o e)))
   rcases bQ.mp m with z|z
   ·exact nb z
   ·have z:=aC.mp z
    rw[z] at e
    exact absurd (cT (kZ (aX e) lS) k2) (fG _)
  ·exact gH (aX q3)
 refine wpAny_ite_split (fun _=>?_) fun _=>wpAny_pure ⟨plainId_quiet GG _,key h2 _ st (fun _ _ _ e=>e) yW⟩
 refine wpAny_bind (wpAny_rule (wpAny_bind ?_))
 show wpAny _ A.in1 (updateSeq s.heap.objs.size (·.push .none)>>=fun _=>updateSeq s.heap.objs.size (·.pop)) _ _ _
 have u1:=sy (Obj.mapSeq (·.push Value.none)) yW rfl
 have u2:=sy (Obj.mapSeq (·.pop)) u1 rfl
 refine wpAny_bind (wpAny_updateSeq yW rfl (wpAny_updateSeq (hz:=by seq_fits) u1 rfl ?_))
 have BZ:∀b o,b≠s.heap.objs.size->h2.get? b=some o->((h2.update s.heap.objs.size (Obj.mapSeq (·.push Value.none))).update s.heap.objs.size (Obj.mapSeq (·.pop))).get? b=some o:=fun b o nb e=>(jK _ _ (br nb)).trans ((jK _ _ (br nb)).trans e)
 exact wpAny_pure ⟨plainId_quiet GG _,key _ _ ((W A.in1 hh).frame 0 _ _ st fun b m o e=>BZ b o (fun z=>nS (z▸m)) e) BZ u2⟩
theorem FF{ks:List Int->Prop}:∀{vs:List Value},(∀v∈vs,∃k t,v= .int k t)->∃ns,IntsAre vs ns
  |[],_=>⟨[], .nil⟩
  | v :: vs, h => by
    obtain⟨k,t,rfl⟩:=h v (dB ..)
    obtain⟨ns,hn⟩:=FF (ks:=ks) fun v m=>h v (dN _ m)
    exact⟨k::ns, .cons k t hn⟩
theorem Ep:∀{vs:List Value} {ns:List Int},IntsAre vs ns->∀k,k∈ns↔∃t, .int k t∈vs
  |_,_, .nil,k=>by simp
  | _, _, .cons j t h, k => by
    rw[bQ,Ep h k]
    constructor
    · rintro(rfl|⟨t',m⟩)
      · exact⟨_,dB ..⟩
      · exact⟨t',dN _ m⟩
    · rintro⟨t',m⟩
      rcases bQ.mp m with e|m
      · cases e;exact .inl rfl
      · exact .inr ⟨t',m⟩
theorem NK{S:Int->Bool}{n:Nat}{Q:Value->Shared->Prop}(hh:A.handled=none)(hS:s.heap.SetOf (IK prog w) a S n)(hT:fJ (ez w) s.heap a)(h64:n<64)
  (h : ∀ h' d' tk' (l : Addr) (out : List Value) (ns : List Int) (e : Nat), (∀ b o, s.heap.get? b = some o -> h'.get? b = some o) -> s.heap.objs.size <= l -> h'.get? l = some (seqObj "list" out.toArray e) -> IntsAre out ns -> ns.Pairwise (· <= ·) -> (∀ k, S k = true ↔ k ∈ ns) -> ns.length = n ->
   Q (.ref l) {s with heap:=h',drawn:=d',toks:=tk'}):wpAny (model prog w) A (call (.builtin "sorted") [.ref a]) Q E s:=by
 obtain⟨o,es,ep,t,g1,g2,g3,l1,l2,l3,l4,sz⟩:=hS
 refine qg kind_sorted plain_sorted entry_sorted (args_sorted1 _) ?_
 unfold Builtin.«sorted»
 refine wpAny_bind (m:=checkCount "sorted" 1 1 _) (wpAny_pure (wpAny_bind ?_))
 refine ML (A:=A.in1) hh l3 g1 g2 g3 l4 (hT o es ep t g1 g3) fun h1 d1 wO items k1 k2 pp=>?_
 have hint:∀v∈items,∃k t,v= .int k t:=fun v m=>by
  obtain⟨e,m',rfl⟩:=cY.mp (pp.mem_iff.mp m)
  obtain⟨⟨k,hk,_⟩,_⟩:=l1 e m'
  obtain⟨t,ht⟩:=rE hk
  exact⟨k,t,ht⟩
 obtain⟨ns,hI⟩:=FF (ks:=fun _=>True) hint
 have hlen:items.length=n:=by rw[pp.length_eq,ak,cF,sz]
 refine wpAny_bind (wpAny_newList ?_)
 have gL:(h1.push (seqObj "list" items.toArray 0)).get? h1.objs.size=some (seqObj "list" items.toArray 0):=dX _ rfl
 refine wpAny_bind (wpAny_holding (wpAny_call_entry slot_list_sort ⟨_,gL,rfl⟩ entry_list_sort (list_sort_tree gL hI (by omega) fun out ns' a1 a2 a3=>⟨_,rfl,?_⟩) (args_list_sort _)))
 obtain⟨e,he⟩:=sortedHeap_at (out:=out) gL
 refine wpAny_pure ⟨_,rfl,h _ d1 wO h1.objs.size out.toList ns' e (fun b o q=>?_) k2 (by simpa using he) a1 a3 (fun k=>?_) ?_⟩
 ·have lb:=aX (k1 b o q)
  rw[sortedHeap_old (bS lb) (by rw[ju];exact gY lb)]
  exact bC _ (k1 b o q)
 ·rw[a2.mem_iff,Ep hI,l2 k]
  constructor
  ·rintro⟨e,m,q⟩
   obtain⟨t,ht⟩:=rE q
   exact⟨t,pp.mem_iff.mpr (ht▸cY.mpr ⟨e,m,rfl⟩)⟩
  ·rintro⟨t,m⟩
   obtain⟨e,m',q⟩:=cY.mp (pp.mem_iff.mp m)
   exact⟨e,m',by rw[q];exact intKind_is _ _ _ _⟩
 ·rw[a2.length_eq,<-hI.length,hlen]
end
end L2
set_option maxRecDepth 100000
set_option maxHeartbeats 4000000
namespace L2
open PySem PySem.Spec PyProof.Rows
def pC(P:Program)(w:World)(a:Addr)(S:Int->Bool)(n:Nat):HO:= .ext fun h=>h.SetOf (IK P w) a S n/\fJ (ez w) h a
theorem Inv.dr{X:Cx}{pins:List (Addr×Obj)}{σ:St}{H:Hp}{s:Shared}(I:Inv X pins σ H s)(d:Drawn):Inv X pins σ H {s with drawn:=d}:=
 ⟨I.ok,I.os,I.bare,I.base,I.loc,I.cell,I.free,I.jr,I.pin,I.hok,I.len⟩
theorem qe:∀{ns:List Int} {us:List Value},Vals (ns.map V.int) us->IntsAre us ns
  |[],_, .nil=> .nil
  | n :: ns, _, .cons r t => by
    obtain⟨k,rfl⟩:=r
    exact .cons n k (qe t)
theorem pT:∀{us:List Value} {ns:List Int},IntsAre us ns->Vals (ns.map V.int) us
 |_,_, .nil=> .nil
 |_,_, .cons k t h=> .cons ⟨t,rfl⟩ (pT h)
theorem NY{σ:List Int}{k:Int}(h:σ.Nodup):(step_dedup σ k).Nodup:=by
 unfold step_dedup
 split
 ·exact h
 ·rename_i q
  rw[lQ]
  refine⟨h,by simp,fun x hx y hy=>?_⟩
  rw[aC.mp hy]
  intro e
  subst e
  exact q (by simp[hx])
theorem El(val:Nat->Int):∀i,(firstMet val i).Nodup
 |0=>sC
 |i+1=>by rw[firstMet_succ];exact NY (El val i)
theorem C7:∀{ds ns:List Int},ds.Nodup->(∀k∈ds,k∈ns)->ns.length<=ds.length->ds.Perm ns
  | [], ns, _, _, hl => by
    have:ns=[]:=kH.mp (by simpa using hl)
    rw[this]
  | d :: ds, ns, hd, hs, hl => by
    have hm:=hs d (dB ..)
    obtain⟨h1,h2⟩:=kQ.mp hd
    have hp:=List.perm_cons_erase hm
    refine(List.Perm.cons d (C7 h2 (fun k hk=>?_) ?_)).trans hp.symm
    · rcases bQ.mp (hp.mem_iff.mp (hs k (dN _ hk))) with e|e
      · subst e;exact absurd hk h1
      · exact e
    · have:=hp.length_eq;simp at this hl⊢;omega
def qx(P:Program)(w:World)(K:PySem.W.Frag):List V->Hp->VK->Prop:=fun xs H Q=>∃p,∃ns:List Int,xs=[.ref p]/\aF K H p (ns.map V.int)/\ns.length<=4000/\∀a (ms:List Int),H a=none->ms.Nodup->(∀k,k∈ms↔k∈ns)->Q (.ref a) (upd H a (pC P w a (fun k=>ms.any (· ==k)) ms.length))
def qf(P:Program)(w:World):List V->Hp->VK->Prop:=fun xs H Q=>∃a,∃ms:List Int,xs=[.ref a]/\H a=some (pC P w a (fun k=>ms.any (· ==k)) ms.length)/\ms.Nodup/\ms.length<64/\
 ∀l (rs:List Int),H l=none->rs.Pairwise (· < ·)->(∀k,k∈rs↔k∈ms)->Q (.ref l) (upd H l (.lst (rs.map V.int)))
section
variable{X:Cx}
theorem Ft(hc:X.calm=true):eF X (.type "set") (qx X.prog X.w X.K):=by
 intro pins s σ H xs us Q I rv h
 obtain⟨p,ns,rfl,hp,hn,q⟩:=h
 obtain⟨u,rfl,ru⟩:=vals1 rv
 cases ru
 obtain⟨its,rs,il,hz⟩:=I.list hp
 have hI:=qe rs
 have hlen:=hI.length
 refine RI (I.ok.hd hc) il.isList (by simpa using hI) (by rw[bT];unfold scanBound;omega) fun h' tk q1 q2 q3=>?_
 have hmem:∀k,k∈firstMet (fun i=>ns.getD i 0) its.toArray.size↔k∈ns:=fun k=>by
  have e:=firstMet_any (fun i=>ns.getD i 0) its.toArray.size k
  have e2:(List.range its.toArray.size).map (fun i=>ns.getD i 0)=ns:=by
   rw[bT,hlen]
   apply List.ext_getElem
   ·simp
   ·intro i h1 h2
    simp[g8,aR h2]
  rw[e2] at e
  have a1:∀(l:List Int),(l.any (· ==k))=true↔k∈l:=fun l=>by
   rw[pU]
   exact⟨fun⟨x,m,z⟩=>(beq_iff_eq.mp z)▸m,fun m=>⟨k,m,beq_self_eq_true _⟩⟩
  rw[<-a1,<-a1,e]
 have kp:∀b u,s.heap.get? b=some u->h'.get? b=some u:=fun b u e=>q3 b u (aX e) e
 have new:bB X.prog X.w (upd H s.heap.objs.size (pC X.prog X.w s.heap.objs.size (fun k=>(firstMet (fun i=>ns.getD i 0) its.toArray.size).any (· ==k)) (firstMet (fun i=>ns.getD i 0) its.toArray.size).length)) h' s.heap.objs.size (pC X.prog X.w s.heap.objs.size (fun k=>(firstMet (fun i=>ns.getD i 0) its.toArray.size).any (· ==k)) (firstMet (fun i=>ns.getD i 0) its.toArray.size).length):=by
  refine⟨⟨q1,q2⟩,?_,fun h1 h2 z k=>?_⟩
  ·obtain⟨o,_,_,_,ho,_⟩:=q1;exact⟨o,ho⟩
  ·obtain⟨⟨o,es,ep,t,ho,r⟩,tt⟩:=z
   exact⟨⟨o,es,ep,t,k o ho,r⟩,tt.keep ho (k o ho)⟩
 exact⟨.ref s.heap.objs.size,_,I.laid (t':=tk) kp (aA _) new,rfl,q _ _ (I.hok.fresh (aA _)) (El _ _) hmem⟩
theorem C4(hc:X.calm=true):eF X (.builtin "sorted") (qf X.prog X.w):=by
 intro pins s σ H xs us Q I rv h
 obtain⟨a,ms,rfl,hH,nd,h64,q⟩:=h
 obtain⟨u,rfl,ru⟩:=vals1 rv
 cases ru
 obtain⟨⟨q1,q2⟩,_,_⟩:=I.hok a _ hH
 refine NK (I.ok.hd hc) q1 q2 h64 fun h' d' tk' l out ns e kp hl gl hI pw hm hn=>?_
 have a1:∀k,(ms.any (· ==k))=true↔k∈ms:=fun k=>by
  rw[pU]
  exact⟨fun⟨x,m,z⟩=>(beq_iff_eq.mp z)▸m,fun m=>⟨k,m,beq_self_eq_true _⟩⟩
 have hm':∀k,k∈ns↔k∈ms:=fun k=>by rw[<-hm k,a1]
 have pp:=C7 nd (fun k m=>(hm' k).mpr m) (mQ hn)
 have Ky:ns.Nodup:=pp.nodup_iff.mp nd
 have lt:ns.Pairwise (· < ·):=by
  have:=pw.and Ky
  exact this.imp fun⟨x,y⟩=>by omega
 have new:bB X.prog X.w (upd H l (.lst (ns.map V.int))) h' l (.lst (ns.map V.int)):=by
  refine⟨?_,out,e,pT hI,gl⟩
  rw[ak,hn];exact cL (gH h64) (by decide)
 exact⟨.ref l,_,(I.laid (t':=tk') kp hl new).dr d',rfl,q _ _ (I.hok.fresh hl) lt hm'⟩
end
theorem ay.Bf{G:Gx}{ρ:Rh}{te:TE}{P:Program}{w:World}{K:PySem.W.Frag}{Θ:Bool->List PyData->Prop}(h:Ev G ρ te fun _ x=>∃ns:List Int,x= .list (ns.map .int)/\ns.length<64/\∀rs:List Int,rs.Pairwise (· < ·)->(∀k,k∈rs↔k∈ns)->Θ true (rs.map .int)):
  ay G ρ (dw (qf P w) (aK (dw (qx P w K) (aK te aQ)) aQ)) Θ:=fun nb σ H Q W z=>
 h nb σ H _ W fun f v H1 x ⟨ns,ex,hn,q⟩ s1 hv=>by
  subst ex
  obtain⟨a,xs,rfl,na,hx,hd⟩:=hv.cG
  have e:=kN hd
  subst e
  refine⟨a,ns,rfl, .of hx,by omega,fun b ms hb nd hm=>?_⟩
  have hms:ms.length<=ns.length:=mw nd fun k m=>(hm k).mp m
  refine⟨b,ms,rfl,aS,nd,by omega,fun l rs hl lt hm'=>?_⟩
  have s2:Step G.B H1 (upd H1 b (pC P w b (fun k=>ms.any (· ==k)) ms.length)):= .same s1.2 (cD hb)
  exact ay.fin (f:=true) W (s1.trans s2) hl (lI rs) (q rs lt fun k=>(hm' k).trans (hm k)) z
end L2
set_option maxRecDepth 100000
set_option maxHeartbeats 4000000
namespace L2
open PySem PySem.Spec PyProof.Rows
def kP:Bool->Keyed->Array Keyed->Nat->Nat->Nat->StateT SortSt Sem (Option Nat):=sortPriv%PySem.Builtin.gallop
def zp:Array Keyed->Array Keyed->StateT SortSt Sem (Array Keyed):=sortPriv%PySem.Builtin.mergeLo
def AY:Array Keyed->Array Keyed->StateT SortSt Sem (Array Keyed):=sortPriv%PySem.Builtin.mergeHi
def nc:Nat->StateT SortSt Sem Unit:=sortPriv%PySem.Builtin.setMinGallop
def mL(left:Bool)(key:Keyed)(arr:Array Keyed)(base:Nat)(i:Nat):StateT SortSt Sem (Option Bool):=do
 let x<-elem' arr (base+i)
 if left then lt' x key else return (<-lt' key x).map (!·)
theorem JC(left:Bool)(key:Keyed)(arr:Array Keyed)(base n hint:Nat):kP left key arr base n hint=(do
 let mut t9:=0
 let mut i8:=1
 let mut lo:=0
 let mut hi:=0
 let some right<-mL left key arr base hint|return none
 if right then
  let q9:=n-hint
  for _ in[0:n] do
   if i8≥q9 then break
   let some more<-mL left key arr base (hint+i8)|return none
   if !more then break
   t9:=i8
   i8:=2*i8+1
  lo:=hint+t9+1
  hi:=hint+min i8 q9
 else
  let q9:=hint+1
  for _ in[0:n] do
   if i8≥q9 then break
   let some found<-mL left key arr base (hint-i8)|return none
   if found then break
   t9:=i8
   i8:=2*i8+1
  lo:=hint+1-min i8 q9
  hi:=hint-t9
 for _ in[0:n] do
  if lo≥hi then break
  let m:=lo+(hi-lo)/2
  let some more<-mL left key arr base m|return none
  if more then lo:=m+1 else hi:=m
 return some hi):=rfl
theorem Mz(g:Nat):nc g=modify fun s=>SortSt.mk' (kindOf s) (arrOf s) (pendingOf s) g (failedOf s):=rfl
theorem J9(a b:Array Keyed):zp a b=(do
 rule "list.sort.merge-lo"
 let total:=a.size+b.size
 let done (out:Array Keyed) (ia ib:Nat):=out++a.extract ia a.size++b.extract ib b.size
 let sj (out:Array Keyed) (ia ib:Nat):=out++b.extract ib b.size++a.extract ia a.size
 let mut out:Array Keyed:= #[<-elem' b 0]
 let mut ia:=0
 let mut ib:=1
 if ib==b.size then return done out ia ib
 if ia+1==a.size then return sj out ia ib
 let mut minGallop:=gallopOf (<-get)
 for _ in[0:total] do
  let mut iB:=0
  let mut iG:=0
  for _ in[0:total] do
   let some bWins<-lt' (<-elem' b ib) (<-elem' a ia)|return done out ia ib
   if bWins then
    out:=out.push (<-elem' b ib);ib:=ib+1;iG:=iG+1;iB:=0
    if ib==b.size then return done out ia ib
    if iG≥minGallop then break
   else
    out:=out.push (<-elem' a ia);ia:=ia+1;iB:=iB+1;iG:=0
    if ia+1==a.size then return sj out ia ib
    if iB≥minGallop then break
  rule "list.sort.gallop"
  minGallop:=minGallop+1
  for _ in[0:total] do
   if minGallop>1 then minGallop:=minGallop-1
   nc minGallop
   let some k<-kP false (<-elem' b ib) a ia (a.size-ia) 0|return done out ia ib
   iB:=k
   if k>0 then
    out:=out++a.extract ia (ia+k);ia:=ia+k
    if ia+1==a.size then return sj out ia ib
    if ia==a.size then return done out ia ib
   out:=out.push (<-elem' b ib);ib:=ib+1
   if ib==b.size then return done out ia ib
   let some k<-kP true (<-elem' a ia) b ib (b.size-ib) 0|return done out ia ib
   iG:=k
   if k>0 then
    out:=out++b.extract ib (ib+k);ib:=ib+k
    if ib==b.size then return done out ia ib
   out:=out.push (<-elem' a ia);ia:=ia+1
   if ia+1==a.size then return sj out ia ib
   if iB<7 && iG<7 then break
  minGallop:=minGallop+1
  nc minGallop
 unsupported "internal:list.sort.merge-bound"):=rfl
def j9(x:Keyed):Prop:=∃n t,x.1= .int n t
def dc(xs:Array Keyed):Prop:=∀(i:Nat) (x:Keyed),xs[i]?=some x->j9 x
section
variable{prog:Program}{w:World}{A:Around}{E:Value->Shared->Prop}{s:Shared}{st:SortSt}
theorem kU{arr:Array Keyed}{i:Nat}{Q:Keyed->SortSt->Prop}(hi:i<arr.size)(h:Q arr[i] st):wpS (model prog w) A E s (elem' arr i) Q st:=by
 rw[elem'_eq,getElem?_pos arr i hi]
 exact wpS_pure h
theorem dc.at{arr:Array Keyed}(h:dc arr){i:Nat}(hi:i<arr.size):j9 arr[i]:=h i _ (getElem?_pos arr i hi)
def ef(st st':SortSt):Prop:=kindOf st'=kindOf st/\arrOf st'=arrOf st/\pendingOf st'=pendingOf st/\failedOf st'=failedOf st
theorem ef.trans{s1 s2 s3:SortSt}(h:ef s1 s2)(g:ef s2 s3):ef s1 s3:=⟨g.1.trans h.1,g.2.1.trans h.2.1,g.2.2.1.trans h.2.2.1,g.2.2.2.trans h.2.2.2⟩
theorem ef.refl(s1:SortSt):ef s1 s1:=⟨rfl,rfl,rfl,rfl⟩
def Mg(a b:Array Keyed)(i j:Nat)(out:Array Keyed):Prop:=out.toList.Perm (a.toList.take i++b.toList.take j)
theorem AO{l:List Keyed}{i:Nat}(h:i<l.length):l.take (i+1)=l.take i++[l[i]]:=by rw[List.take_succ,aR h];rfl
theorem Mg.iQ{a b:Array Keyed}{i j:Nat}{out:Array Keyed}(h:Mg a b i j out)(hj:j<b.size):Mg a b i (j+1) (out.push b[j]):=by
 unfold Mg at*
 rw[jy,AO (l:=b.toList) (by simpa using hj),<-dM]
 exact h.append (by simp)
theorem Mg.i9{a b:Array Keyed}{i j:Nat}{out:Array Keyed}(h:Mg a b i j out)(hi:i<a.size):Mg a b (i+1) j (out.push a[i]):=by
 unfold Mg at*
 rw[jy,AO (l:=a.toList) (by simpa using hi),dM]
 refine(h.append (wN [a[i]])).trans ?_
 rw[dM]
 refine j3 _ ?_
 simpa using ko
theorem iO(a:Array Keyed)(i j:Nat):(a.extract i j).toList=(a.toList.take j).drop i:=by
 rw[Array.toList_extract,List.extract_eq_take_drop,List.drop_take]
theorem Mg.l0{a b:Array Keyed}{i j k:Nat}{out:Array Keyed}(h:Mg a b i j out):Mg a b (i+k) j (out++a.extract i (i+k)):=by
 unfold Mg at*
 rw[gf,iO]
 have e:a.toList.take (i+k)=a.toList.take i++(a.toList.take (i+k)).drop i:=by
  have:=(iW i (a.toList.take (i+k))).symm
  rwa[List.take_take,zf (by omega)] at this
 generalize (a.toList.take (i+k)).drop i=z at e⊢
 rw[e]
 refine(h.append_right z).trans ?_
 rw[dM,dM]
 exact j3 _ ko
theorem Mg.k8{a b:Array Keyed}{i j k:Nat}{out:Array Keyed}(h:Mg a b i j out):Mg a b i (j+k) (out++b.extract j (j+k)):=by
 unfold Mg at*
 rw[gf,iO]
 have e:b.toList.take (j+k)=b.toList.take j++(b.toList.take (j+k)).drop j:=by
  have:=(iW j (b.toList.take (j+k))).symm
  rwa[List.take_take,zf (by omega)] at this
 generalize (b.toList.take (j+k)).drop j=z at e⊢
 rw[e,<-dM]
 exact h.append_right _
theorem Gi(a:Array Keyed)(i:Nat):(a.extract i a.size).toList=a.toList.drop i:=by
 rw[iO,qu (by simp)]
theorem Mg.done{a b:Array Keyed}{i j:Nat}{out:Array Keyed}(h:Mg a b i j out):(out++a.extract i a.size++b.extract j b.size).toList.Perm (a.toList++b.toList):=by
 unfold Mg at h
 rw[gf,gf,Gi,Gi]
 have ea:=(iW i a.toList).symm
 have eb:=(iW j b.toList).symm
 rw[show a.toList++b.toList=(a.toList.take i++a.toList.drop i)++(b.toList.take j++b.toList.drop j) by rw[<-ea,<-eb]]
 refine((h.append_right _).append_right _).trans ?_
 simp only[dM]
 refine j3 _ ?_
 rw[<-dM,<-dM]
 exact zk _ ko
theorem Mg.last{a b:Array Keyed}{i j:Nat}{out:Array Keyed}(h:Mg a b i j out):(out++b.extract j b.size++a.extract i a.size).toList.Perm (a.toList++b.toList):=by
 refine List.Perm.trans ?_ h.done
 rw[gf,gf,gf,gf,dM,dM]
 exact j3 _ ko
theorem QZ{g:Nat}{Q:Unit->SortSt->Prop}(h:∀st',ef st st'->Q () st'):wpS (model prog w) A E s (nc g) Q st:=by
 rw[Mz]
 exact wpS_modify (h _ ⟨rfl,rfl,rfl,rfl⟩)
theorem jJ{x y:Nat}{α:Type}{t e:StateT SortSt Sem α}{Q:α->SortSt->Prop}(h1:x=y->wpS (model prog w) A E s t Q st)(h2:x≠y->wpS (model prog w) A E s e Q st):wpS (model prog w) A E s (if(x==y)=true then t else e) Q st:=by
 by_cases c:x=y
 ·rw[if_pos (by simpa using c)];exact h1 c
 ·rw[if_neg (by simpa using c)];exact h2 c
theorem gc{c:Prop}[Decidable c]{α:Type}{t e:StateT SortSt Sem α}{Q:α->SortSt->Prop}(h1:c->wpS (model prog w) A E s t Q st)(h2:¬c->wpS (model prog w) A E s e Q st):wpS (model prog w) A E s (if c then t else e) Q st:=by
 by_cases c:c
 ·rw[if_pos c];exact h1 c
 ·rw[if_neg c];exact h2 c
theorem GB{c:Bool}{α:Type}{t e:StateT SortSt Sem α}{Q:α->SortSt->Prop}(h1:wpS (model prog w) A E s t Q st)(h2:wpS (model prog w) A E s e Q st):wpS (model prog w) A E s (if c=true then t else e) Q st:=by
 cases c
 ·exact h2
 ·exact h1
variable{cS:SortSt}
theorem uf{g:Nat}{α:Type}{f:Unit->StateT SortSt Sem α}{Q:α->SortSt->Prop}(S:ef cS st)(h:∀st',ef cS st'->wpS (model prog w) A E s (f ()) Q st'):wpS (model prog w) A E s (nc g>>=f) Q st:=
 wpS_bind (QZ fun st' z=>h st' (S.trans z))
theorem oQ{arr:Array Keyed}{i:Nat}{α:Type}{f:Keyed->StateT SortSt Sem α}{Q:α->SortSt->Prop}(hi:i<arr.size)(h:wpS (model prog w) A E s (f arr[i]) Q st):wpS (model prog w) A E s (elem' arr i>>=f) Q st:=wpS_bind (kU hi h)
end
end L2
set_option maxRecDepth 100000
set_option maxHeartbeats 4000000
namespace L2
open PySem PySem.Spec PyProof.Rows
section
variable{prog:Program}{w:World}{A:Around}{E:Value->Shared->Prop}{s:Shared}{st:SortSt}{cS:SortSt}
theorem JU(a b:Array Keyed):AY a b=(do
 rule "list.sort.merge-hi"
 let total:=a.size+b.size
 let done (out:Array Keyed) (na nb:Nat):=a.extract 0 na++b.extract 0 nb++out.reverse
 let sI (out:Array Keyed) (na nb:Nat):=b.extract 0 nb++a.extract 0 na++out.reverse
 let mut na:=a.size-1
 let mut nb:=b.size
 let mut out:Array Keyed:= #[<-elem' a na]
 if na==0 then return done out na nb
 if nb==1 then return sI out na nb
 let mut minGallop:=gallopOf (<-get)
 for _ in[0:total] do
  let mut iB:=0
  let mut iG:=0
  for _ in[0:total] do
   let some aWins<-lt' (<-elem' b (nb-1)) (<-elem' a (na-1))|return done out na nb
   if aWins then
    na:=na-1;out:=out.push (<-elem' a na);iB:=iB+1;iG:=0
    if na==0 then return done out na nb
    if iB≥minGallop then break
   else
    nb:=nb-1;out:=out.push (<-elem' b nb);iG:=iG+1;iB:=0
    if nb==1 then return sI out na nb
    if iG≥minGallop then break
  rule "list.sort.gallop"
  minGallop:=minGallop+1
  for _ in[0:total] do
   if minGallop>1 then minGallop:=minGallop-1
   nc minGallop
   let some at_<-kP false (<-elem' b (nb-1)) a 0 na (na-1)|return done out na nb
   let k:=na-at_
   iB:=k
   if k>0 then
    out:=out++(a.extract at_ na).reverse;na:=at_
    if na==0 then return done out na nb
   nb:=nb-1;out:=out.push (<-elem' b nb)
   if nb==1 then return sI out na nb
   let some at_<-kP true (<-elem' a (na-1)) b 0 nb (nb-1)|return done out na nb
   let k:=nb-at_
   iG:=k
   if k>0 then
    out:=out++(b.extract at_ nb).reverse;nb:=at_
    if nb==1 then return sI out na nb
    if nb==0 then return done out na nb
   na:=na-1;out:=out.push (<-elem' a na)
   if na==0 then return done out na nb
   if iB<7 && iG<7 then break
  minGallop:=minGallop+1
  nc minGallop
 unsupported "internal:list.sort.merge-bound"):=rfl
def Mh(a b:Array Keyed)(i j:Nat)(out:Array Keyed):Prop:=out.toList.Perm (a.toList.drop i++b.toList.drop j)
theorem ve{l:List Keyed}{i:Nat}(h:i<l.length):l.drop i=l[i]::l.drop (i+1):=qj h
theorem Mh.iQ{a b:Array Keyed}{i j:Nat}{out:Array Keyed}(h:Mh a b i j out)(hj:j-1<b.size)(h1:1<=j):Mh a b i (j-1) (out.push b[j-1]):=by
 unfold Mh at*
 rw[jy,ve (l:=b.toList) (i:=j-1) (by simpa using hj),show j-1+1=j by omega]
 refine(h.append_right _).trans ?_
 rw[dM]
 refine j3 _ ?_
 simp
theorem Mh.i9{a b:Array Keyed}{i j:Nat}{out:Array Keyed}(h:Mh a b i j out)(hi:i-1<a.size)(h1:1<=i):Mh a b (i-1) j (out.push a[i-1]):=by
 unfold Mh at*
 rw[jy,ve (l:=a.toList) (i:=i-1) (by simpa using hi),show i-1+1=i by omega]
 refine(h.append_right _).trans ?_
 refine ko.trans ?_
 simp
theorem Mh.Q6{a b:Array Keyed}{i j:Nat}{out:Array Keyed}(h:Mh a b i (j+1) out)(hj:j<b.size):Mh a b i j (out.push b[j]):=Mh.iQ (j:=j+1) h hj (by omega)
theorem Mh.QU{a b:Array Keyed}{i j:Nat}{out:Array Keyed}(h:Mh a b (i+1) j out)(hi:i<a.size):Mh a b i j (out.push a[i]):=Mh.i9 (i:=i+1) h hi (by omega)
theorem r6{l:List Keyed}{k i:Nat}(h:k<=i):l.drop k=(l.take i).drop k++l.drop i:=by
 have e:=(iW i l).symm
 conv=>lhs;rw[e]
 rw[List.drop_append]
 by_cases hl:k<=(l.take i).length
 ·rw[show k-(l.take i).length=0 by omega];rfl
 ·have:l.length<=k:=by rw[gG] at hl;omega
  rw[Ba (l:=l) (i:=i) (by omega)];simp
theorem Mh.l0{a b:Array Keyed}{i j k:Nat}{out:Array Keyed}(h:Mh a b i j out)(hk:k<=i):Mh a b k j (out++(a.extract k i).reverse):=by
 unfold Mh at*
 rw[gf,vH,iO,r6 (l:=a.toList) hk]
 refine(h.append (vE _)).trans ?_
 refine ko.trans ?_
 rw[dM]
theorem Mh.k8{a b:Array Keyed}{i j k:Nat}{out:Array Keyed}(h:Mh a b i j out)(hk:k<=j):Mh a b i k (out++(b.extract k j).reverse):=by
 unfold Mh at*
 rw[gf,vH,iO,r6 (l:=b.toList) hk]
 refine(h.append (vE _)).trans ?_
 rw[dM]
 exact j3 _ ko
theorem Mh.done{a b:Array Keyed}{i j:Nat}{out:Array Keyed}(h:Mh a b i j out):(a.extract 0 i++b.extract 0 j++out.reverse).toList.Perm (a.toList++b.toList):=by
 unfold Mh at h
 rw[gf,gf,iO,iO,vH,pV,pV]
 have ea:=(iW i a.toList).symm
 have eb:=(iW j b.toList).symm
 rw[show a.toList++b.toList=(a.toList.take i++a.toList.drop i)++(b.toList.take j++b.toList.drop j) by rw[<-ea,<-eb]]
 refine(j3 _ ((vE _).trans h)).trans ?_
 simp only[dM]
 refine j3 _ ?_
 rw[<-dM,<-dM]
 exact zk _ ko
theorem Mh.first{a b:Array Keyed}{i j:Nat}{out:Array Keyed}(h:Mh a b i j out):(b.extract 0 j++a.extract 0 i++out.reverse).toList.Perm (a.toList++b.toList):=by
 refine List.Perm.trans ?_ h.done
 rw[gf,gf,gf,gf]
 exact zk _ ko
end
end L2
set_option maxRecDepth 100000
set_option maxHeartbeats 4000000
namespace L2
open PySem PySem.Spec PyProof.Rows
theorem N8(i:Nat):mergeAt' i=(do
 let s<-get
 let (some (sa,na,power),some (sb,nb,_)):=((pendingOf s)[i]?,(pendingOf s)[i+1]?)|unsupported "internal:list.sort.pending"
 set (setPending s (((pendingOf s).setIfInBounds i (sa,na+nb,power)).eraseIdxIfInBounds (i+1)))
 let some k<-kP false (<-elem' (arrOf s) sb) (arrOf s) sa na 0|return false
 let (sa,na):=(sa+k,na-k)
 if na==0 then return true
 let some nb<-kP true (<-elem' (arrOf s) (sa+na-1)) (arrOf s) sb nb (nb-1)|return false
 if nb==0 then return true
 let x:=(arrOf s).extract sa sb
 let y:=(arrOf s).extract sb (sb+nb)
 let merged<-if na<=nb then zp x y else AY x y
 modify fun s=>setArr s (merged.toList.zipIdx.foldl (fun a (p,j)=>a.setIfInBounds (sa+j) p) (arrOf s))
 return (failedOf (<-get)).isNone):=rfl
def Ch:List (Nat×Nat×Nat)->Nat->Nat->Prop
 |[],x,y=>x=y
 |(s,n,_)::r,x,y=>s=x/\1<=n/\Ch r (x+n) y
theorem Ch.append:∀{l r:List (Nat×Nat×Nat)} {x z:Nat},Ch (l++r) x z↔∃y,Ch l x y/\Ch r y z
  |[],r,x,z=>⟨fun h=>⟨x,rfl,h⟩,fun⟨y,e,h⟩=>by cases e;exact h⟩
  | (s, n, p) :: l, r, x, z => by
    show(s=x/\1<=n/\Ch (l++r) (x+n) z)↔∃y,(s=x/\1<=n/\Ch l (x+n) y)/\Ch r y z
    rw[Ch.append]
    exact⟨fun⟨a,b,y,c,d⟩=>⟨y,⟨a,b,c⟩,d⟩,fun⟨y,⟨a,b,c⟩,d⟩=>⟨a,b,y,c,d⟩⟩
theorem Ch.le:∀{l:List (Nat×Nat×Nat)} {x y:Nat},Ch l x y->x<=y
 |[],x,y,h=>mQ h
 |(s,n,p)::l,x,y,⟨a,b,c⟩=>by have:=Ch.le c;omega
theorem Ch.two{l:List (Nat×Nat×Nat)}{lo i:Nat}{sa na pw sb nb kD:Nat}(h:Ch l 0 lo)(e1:l[i]?=some (sa,na,pw))(e2:l[i+1]?=some (sb,nb,kD)):
  sb=sa+na/\1<=na/\1<=nb/\sb+nb<=lo/\Ch ((l.set i (sa,na+nb,pw)).eraseIdx (i+1)) 0 lo:=by
 have hi:i<l.length:=(aJ.mp e1).1
 have hi2:i+1<l.length:=(aJ.mp e2).1
 have g1:=(aJ.mp e1).2
 have g2:=(aJ.mp e2).2
 have el:l=l.take i++(sa,na,pw)::(sb,nb,kD)::l.drop (i+2):=by
  have:=(iW i l).symm
  rwa[qj hi,qj hi2,g1,g2] at this
 have hl:(l.take i).length=i:=by rw[gG];omega
 generalize l.take i=A1 at*
 generalize l.drop (i+2)=A2 at*
 subst el
 obtain⟨y,c1,a1,a2,a3,a4,a5⟩:=Ch.append.mp h
 have:=a5.le
 refine⟨by omega,a2,a4,by omega,?_⟩
 have e:((A1++(sa,na,pw)::(sb,nb,kD)::A2).set i (sa,na+nb,pw)).eraseIdx (i+1)=A1++(sa,na+nb,pw)::A2:=by
  rw[Et _ _ (by omega),hl,nI,List.set_cons_zero,EA (by omega),show i+1-A1.length=1 by omega]
  rfl
 rw[e]
 exact Ch.append.mpr ⟨y,c1,a1,by omega,by rwa[<-Nat.add_assoc]⟩
theorem zY(sa:Nat):∀(ms:List Keyed) (k:Nat) (arr:Array Keyed),sa+k+ms.length<=arr.size->
    ((ms.zipIdx k).foldl (fun(a:Array Keyed) (pj:Keyed×Nat)=>a.setIfInBounds (sa+pj.2) pj.1) arr).toList=arr.toList.take (sa+k)++ms++arr.toList.drop (sa+k+ms.length)
  |[],k,arr,h=>by simp
  | m :: ms, k, arr, h => by
    rw[fP] at h
    rw[List.zipIdx_cons,List.foldl_cons,zY sa ms (k+1) _ (by rw[Array.size_setIfInBounds];omega)]
    have hs:(arr.setIfInBounds (sa+k) m).toList=arr.toList.set (sa+k) m:=Ek ..
    show List.take _ ((arr.setIfInBounds (sa+k) m).toList)++ms++List.drop _ ((arr.setIfInBounds (sa+k) m).toList)=_
    rw[hs]
    have h2:sa+k<arr.toList.length:=by simp;omega
    have e1:(arr.toList.set (sa+k) m).take (sa+(k+1))=arr.toList.take (sa+k)++[m]:=by
      rw[show sa+(k+1)=sa+k+1 by omega,List.take_succ,bx h2,List.take_set_of_le (aA _)]
      rfl
    have e2:(arr.toList.set (sa+k) m).drop (sa+(k+1)+ms.length)=arr.toList.drop (sa+k+(ms.length+1)):=by
      rw[List.drop_set_of_lt (by omega),show sa+(k+1)+ms.length=sa+k+(ms.length+1) by omega]
    rw[e1,e2,fP]
    simp
theorem MY{arr:Array Keyed}{merged:Array Keyed}{sa sb nb:Nat}(h1:sa<=sb)(h2:sb+nb<=arr.size)(hm:merged.toList.Perm ((arr.extract sa sb).toList++(arr.extract sb (sb+nb)).toList)):
  (merged.toList.zipIdx.foldl (fun(a:Array Keyed) (pj:Keyed×Nat)=>a.setIfInBounds (sa+pj.2) pj.1) arr).toList.Perm arr.toList:=by
 have hl:=hm.length_eq
 rw[bR,iO,iO,uq,uq,gG,gG,cF,cF] at hl
 have e:=zY sa merged.toList 0 arr (by rw[cF];omega)
 rw[cF,qb,show sa+merged.size=sb+nb by omega] at e
 rw[e]
 have e2:arr.toList=arr.toList.take sa++((arr.extract sa sb).toList++(arr.extract sb (sb+nb)).toList)++arr.toList.drop (sb+nb):=by
  rw[iO,iO]
  have a1:=r6 (l:=arr.toList) (k:=sb) (i:=sb+nb) (by omega)
  have a2:=r6 (l:=arr.toList) (k:=sa) (i:=sb) h1
  rw[dM,dM,<-a1,<-a2,iW]
 conv=>rhs;rw[e2]
 exact(j3 _ hm).append_right _
structure SI(a₀:Array Keyed)(lo:Nat)(st:SortSt):Prop where
 perm:(arrOf st).toList.Perm a₀.toList
 kind:kindOf st=oneType'
 failed:failedOf st=none
 ch:Ch (pendingOf st).toList 0 lo
theorem dc.perm{a b:Array Keyed}(h:dc a)(p:b.toList.Perm a.toList):dc b:=fun i x e=>by
 have:x∈b.toList:=by rw[uT];exact vF e
 have:x∈a.toList:=p.mem_iff.mp this
 obtain⟨j,hj⟩:=g6 this
 exact h j x (by rw[<-gz];exact hj)
theorem dc.ext{a:Array Keyed}(h:dc a)(i j:Nat):dc (a.extract i j):=fun k x e=>by
 have:x∈(a.extract i j).toList:=by rw[uT];exact vF e
 rw[iO] at this
 have:x∈a.toList:=Hw (List.mem_of_mem_drop this)
 obtain⟨j,hj⟩:=g6 this
 exact h j x (by rw[<-gz];exact hj)
theorem SI.size{a₀:Array Keyed}{lo:Nat}{st:SortSt}(h:SI a₀ lo st):(arrOf st).size=a₀.size:=by have:=h.perm.length_eq;simpa using this
section
variable{prog:Program}{w:World}{A:Around}{E:Value->Shared->Prop}{s:Shared}{st:SortSt}{a₀:Array Keyed}{lo:Nat}
theorem LD{st':SortSt}{Q:PUnit->SortSt->Prop}(h:Q ⟨⟩ st'):wpS (model prog w) A E s (set st':StateT SortSt Sem PUnit) Q st:=by
 unfold wpS;rw[StateT.run_set];exact wpAny_pure ⟨rfl,h⟩
theorem SI.arr{xs:Array Keyed}(hI:SI a₀ lo st)(hp:xs.Perm (arrOf st)):SI a₀ lo (setArr st xs):=⟨(Br.mp hp).trans hI.perm,hI.kind,hI.failed,hI.ch⟩
theorem Ch.pw{f:Nat×Nat×Nat->Nat×Nat×Nat}(hf:∀v,(f v).1=v.1/\(f v).2.1=v.2.1){l:List (Nat×Nat×Nat)}{i x y:Nat}(h:Ch l x y):Ch (l.modify i f) x y:=by
  induction l generalizing i x with
  |nil=>cases i<;>exact h
  | cons v l ih =>
    obtain⟨s,n,p⟩:=v
    obtain⟨a,b,c⟩:=h
    cases i with
    | zero =>
      have:=hf (s,n,p)
      rw[List.modify_zero_cons]
      generalize f (s,n,p)=u at this
      obtain⟨s2,n2,p2⟩:=u
      dsimp only at this
      exact⟨this.1.trans a,by omega,by rw[this.2];exact c⟩
    |succ i=>rw[List.modify_succ_cons];exact⟨a,b,ih c⟩
theorem PU{c:Prop}[Decidable c]{a:Nat}:(if c then a-1 else a)<=a:=by split<;>omega
end
end L2
set_option maxRecDepth 100000
set_option maxHeartbeats 4000000
namespace L2
open PySem PySem.Spec PyProof.Rows
theorem OQ{vs:List Value}{ns:List Int}(hI:IntsAre vs ns){xs:Array Keyed}(hp:xs.toList.Perm (pairsOf vs).toList):
  ∃ns',IntsAre (xs.map (·.2)).toList ns'/\ns'.Perm ns:=by
 have hl:xs.toList.Perm (vs.zip vs):=by rw[<-pairsOf_toList];exact hp
 have hmem:∀p,p∈xs.toList->p.1=p.2/\p.1∈vs:=fun p fF=>mem_zip_self (hl.mem_iff.mp fF)
 refine⟨xs.toList.map (fun p=>numOf p.1),?_,?_⟩
 ·have e:(xs.map (·.2)).toList=xs.toList.map (·.1):=by
   rw[zU];exact rQ fun p fF=>(hmem p fF).1.symm
  rw[e]
  have h1:=intsAre_map (xs.toList.map (·.1)) (by
   intro v hv
   obtain⟨p,fF,rfl⟩:=cY.mp hv
   exact hI.all _ (hmem p fF).2)
  rwa[jt] at h1
 ·have h1:=hl.map (fun p=>numOf p.1)
  have e2:(vs.zip vs).map (fun p=>numOf p.1)=ns:=by
   have:(vs.zip vs).map (fun p=>numOf p.1)=((vs.zip vs).map Prod.fst).map numOf:=by rw[jt];rfl
   rw[this,List.map_fst_zip (aA _),hI.nums]
  rwa[e2] at h1
theorem IL{vs:List Value}{ns:List Int}(hI:IntsAre vs ns):dc (pairsOf vs):=fun i x e=>by
 have:x∈(pairsOf vs).toList:=by rw[uT];exact vF e
 rw[pairsOf_toList] at this
 exact hI.all _ (mem_zip_self this).2
end L2
set_option maxRecDepth 100000
set_option maxHeartbeats 4000000
set_option maxRecDepth 100000
set_option maxHeartbeats 4000000
namespace L2
open PySem PySem.Spec PyProof.Rows
def kd(x:Keyed):Int:=match x.1 with| .int n _=>n|_=>0
def kz(a:Array Keyed)(i:Nat):Int:=match a[i]? with|some x=>kd x|none=>0
theorem c9{a:Array Keyed}{i:Nat}(h:i<a.size):kz a i=kd a[i]:=by unfold kz;rw[getElem?_pos a i h]
def Ra(a:Array Keyed)(lo hi:Nat):Prop:=∀i j,lo<=i->i<=j->j<hi->kz a i<=kz a j
def bJ(left:Bool)(key:Keyed)(v:Int):Prop:=if left=true then v<kd key else v<=kd key
theorem oq{left:Bool}{key:Keyed}{u v:Int}(h:bJ left key v)(hu:u<=v):bJ left key u:=by
 unfold bJ at*
 cases left with
 |true=>rw[if_pos rfl] at*;omega
 |false=>rw[if_neg bz] at*;omega
section
variable{prog:Program}{w:World}{A:Around}{E:Value->Shared->Prop}{s:Shared}{st:SortSt}
theorem uo{x y:Keyed}{Q:Option Bool->SortSt->Prop}(hk:kindOf st=oneType')(hx:j9 x)(hy:j9 y)(h1:kd x<kd y->Q (some true) st)(h2:kd y<=kd x->Q (some false) st):wpS (model prog w) A E s (lt' x y) Q st:=by
 obtain⟨n,t,e1⟩:=hx
 obtain⟨m,u,e2⟩:=hy
 have d1:kd x=n:=by unfold kd;rw[e1]
 have d2:kd y=m:=by unfold kd;rw[e2]
 rw[lt'_eq]
 refine wpS_bind (wpS_get ?_)
 rw[hk,keyLt'_oneType,e1,e2]
 refine wpS_bind (wpS_lift (wpAny_attempt (oneLt_int ⟨rfl,?_⟩)))
 refine wpS_pure ?_
 by_cases c:n<m
 ·rw[decide_eq_true c];exact h1 (by omega)
 ·rw[decide_eq_false c];exact h2 (by omega)
theorem tD{left:Bool}{key:Keyed}{arr:Array Keyed}{base i:Nat}{Q:Option Bool->SortSt->Prop}(hk:kindOf st=oneType')(hy:j9 key)(ha:dc arr)(hi:base+i<arr.size)(h1:bJ left key (kz arr (base+i))->Q (some true) st)(h2:¬bJ left key (kz arr (base+i))->Q (some false) st):wpS (model prog w) A E s (mL left key arr base i) Q st:=by
  unfold mL
  refine wpS_bind (kU hi ?_)
  rw[c9 hi] at h1 h2
  unfold bJ at h1 h2
  cases left with
  | true =>
    simp only[if_true] at h1 h2⊢
    exact uo hk (ha.at hi) hy h1 fun z=>h2 (by omega)
  | false =>
    simp only[gq,if_false] at h1 h2⊢
    exact wpS_bind (uo hk hy (ha.at hi) (fun z=>wpS_pure (h2 (by omega))) fun z=>wpS_pure (h1 z))
theorem Ew{left:Bool}{key:Keyed}{arr:Array Keyed}{base n lo hi:Nat}{Q:Option (Option Nat)×Nat×Nat->SortSt->Prop}(hk:kindOf st=oneType')(hy:j9 key)(ha:dc arr)(hb:base+n<=arr.size)(hR:Ra arr base (base+n))(hn:hi<=n)(hl:lo<=hi)(p1:∀x<lo,bJ left key (kz arr (base+x)))(p2:∀x,hi<=x->x<n->¬bJ left key (kz arr (base+x)))
    (h:∀l k,k<=n->(∀x<k,bJ left key (kz arr (base+x)))->(∀x,k<=x->x<n->¬bJ left key (kz arr (base+x)))->Q (none,l,k) st):
    wpS (model prog w) A E s (forIn [0:n] ((none,lo,hi):Option (Option Nat)×Nat×Nat) fun x __s=>
                if __s.snd.fst≥__s.snd.snd then pure (ForInStep.done (none,__s.snd.fst,__s.snd.snd))
                else do
                  let __x<-mL left key arr base (__s.snd.fst+(__s.snd.snd-__s.snd.fst)/2)
                  match __x with
                    | some more =>
                      if more=true then
                        pure (ForInStep.yield (none,__s.snd.fst+(__s.snd.snd-__s.snd.fst)/2+1,__s.snd.snd))
                      else pure (ForInStep.yield (none,__s.snd.fst,__s.snd.fst+(__s.snd.snd-__s.snd.fst)/2))
                    |_=>pure (ForInStep.done (some none,__s.snd.fst,__s.snd.snd))) Q st:=by
  refine wpS_forRange (I:=fun x c st'=>st'=st/\∃l k,c=(none,l,k)/\k<=n/\l<=k/\k-l+x<=n/\(∀y<l,bJ left key (kz arr (base+y)))/\∀y,k<=y->y<n->¬bJ left key (kz arr (base+y))) ?_ ?_ ⟨rfl,lo,hi,rfl,hn,hl,by omega,p1,p2⟩
  · rintro x c st' _ hx ⟨rfl,l,k,rfl,hkn,hlk,hm,q1,q2⟩
    dsimp only
    by_cases hge:l≥k
    · rw[if_pos hge];exact wpS_pure (h l k hkn (fun y hy=>q1 y (by omega)) q2)
    · rw[if_neg hge]
      obtain⟨m,em⟩:∃m,l+(k-l)/2=m:=⟨_,rfl⟩
      rw[em]
      refine wpS_bind (tD hk hy ha (by omega) (fun b=>?_) fun b=>?_)
      · exact wpS_pure ⟨rfl,_,_,rfl,hkn,by omega,by omega,fun y hy=>oq b (hR _ _ (by omega) (by omega) (by omega)),q2⟩
      · exact wpS_pure ⟨rfl,_,_,rfl,by omega,by omega,by omega,q1,fun y h1 h2 z=>b (oq z (hR _ _ (by omega) (by omega) (by omega)))⟩
  · rintro c st' ⟨rfl,l,k,rfl,hkn,hlk,hm,q1,q2⟩
    exact h l k hkn (fun y hy=>q1 y (by omega)) q2
theorem zV{left:Bool}{key:Keyed}{arr:Array Keyed}{base n hint:Nat}{Q:Option Nat->SortSt->Prop}(hk:kindOf st=oneType')(hy:j9 key)(ha:dc arr)(hb:base+n<=arr.size)(hR:Ra arr base (base+n))(hh:hint<n)
  (h:∀k,k<=n->(∀x<k,bJ left key (kz arr (base+x)))->(∀x,k<=x->x<n->¬bJ left key (kz arr (base+x)))->Q (some k) st):wpS (model prog w) A E s (kP left key arr base n hint) Q st:=by
 rw[JC]
 refine wpS_bind (tD hk hy ha (by omega) (fun b0=>?_) fun b0=>?_)
 ·dsimp only
  simp only[if_true]
  refine wpS_bind (wpS_mono (wpS_forRange (I:=fun x c st'=>st'=st/\∃l k,c=(none,l,k)/\hint+l<n/\l<k/\x+1<=k/\bJ left key (kz arr (base+(hint+l)))) (Q:=fun c st'=>st'=st/\∃l k,c=(none,l,k)/\hint+l<n/\l<k/\bJ left key (kz arr (base+(hint+l)))/\(n-hint<=k\/¬bJ left key (kz arr (base+(hint+k))))) ?_ ?_ ⟨rfl,_,_,rfl,by omega,by omega,by omega,b0⟩) ?_)
  ·rintro x c st' _ hx ⟨rfl,l,k,rfl,i1,i2,i3,i4⟩
   dsimp only
   by_cases hge:k≥n-hint
   ·rw[if_pos hge];exact wpS_pure ⟨rfl,_,_,rfl,i1,i2,i4, .inl hge⟩
   ·rw[if_neg hge]
    refine wpS_bind (tD hk hy ha (by omega) (fun b=>?_) fun b=>?_)
    ·exact wpS_pure ⟨rfl,_,_,rfl,by omega,by omega,by omega,b⟩
    ·exact wpS_pure ⟨rfl,_,_,rfl,i1,i2,i4, .inr b⟩
  ·rintro c st' ⟨rfl,l,k,rfl,i1,i2,i3,i4⟩
   exact⟨rfl,_,_,rfl,i1,i2,i4, .inl (by omega)⟩
  ·rintro c st' ⟨rfl,l,k,rfl,i1,i2,i4,i5⟩
   dsimp only
   refine wpS_bind (Ew hk hy ha hb hR (by omega) (by omega) (fun x hx=>oq i4 (hR _ _ (by omega) (by omega) (by omega))) (fun x h1 h2 z=>?_) fun l k hkn q1 q2=>wpS_pure (h k hkn q1 q2))
   rcases i5 with i5|i5
   ·omega
   ·exact i5 (oq z (hR _ _ (by omega) (by omega) (by omega)))
 ·dsimp only
  simp only[gq,if_false]
  refine wpS_bind (wpS_mono (wpS_forRange (I:=fun x c st'=>st'=st/\∃l k,c=(none,l,k)/\l<=hint/\l<k/\x+1<=k/\¬bJ left key (kz arr (base+(hint-l)))) (Q:=fun c st'=>st'=st/\∃l k,c=(none,l,k)/\l<=hint/\l<k/\¬bJ left key (kz arr (base+(hint-l)))/\(hint+1<=k\/bJ left key (kz arr (base+(hint-k))))) ?_ ?_ ⟨rfl,_,_,rfl,by omega,by omega,by omega,b0⟩) ?_)
  ·rintro x c st' _ hx ⟨rfl,l,k,rfl,i1,i2,i3,i4⟩
   dsimp only
   by_cases hge:k≥hint+1
   ·rw[if_pos hge];exact wpS_pure ⟨rfl,_,_,rfl,i1,i2,i4, .inl hge⟩
   ·rw[if_neg hge]
    refine wpS_bind (tD hk hy ha (by omega) (fun b=>?_) fun b=>?_)
    ·exact wpS_pure ⟨rfl,_,_,rfl,i1,i2,i4, .inr b⟩
    ·exact wpS_pure ⟨rfl,_,_,rfl,by omega,by omega,by omega,b⟩
  ·rintro c st' ⟨rfl,l,k,rfl,i1,i2,i3,i4⟩
   exact⟨rfl,_,_,rfl,i1,i2,i4, .inl (by omega)⟩
  ·rintro c st' ⟨rfl,l,k,rfl,i1,i2,i4,i5⟩
   dsimp only
   refine wpS_bind (Ew hk hy ha hb hR (by omega) (by omega) (fun x hx=>?_) (fun x h1 h2 z=>i4 (oq z (hR _ _ (by omega) (by omega) (by omega)))) fun l k hkn q1 q2=>wpS_pure (h k hkn q1 q2))
   rcases i5 with i5|i5
   ·omega
   ·exact oq i5 (hR _ _ (by omega) (by omega) (by omega))
theorem gk{a:Array Keyed}{x:Keyed}{i:Nat}(h:i<a.size+1):kz (a.push x) i=if i=a.size then kd x else kz a i:=by
 unfold kz
 rw[yJ]
 by_cases c:i=a.size
 ·rw[if_pos c,if_pos c]
 ·rw[if_neg c,if_neg c]
theorem dO{a b:Array Keyed}{i:Nat}:kz (a++b) i=if i<a.size then kz a i else kz b (i-a.size):=by
 unfold kz
 rw[G4]
 by_cases c:i<a.size
 ·rw[if_pos c,if_pos c]
 ·rw[if_neg c,if_neg c]
theorem c7{a:Array Keyed}{i j x:Nat}(hj:j<=a.size)(hx:i+x<j):kz (a.extract i j) x=kz a (i+x):=by
 unfold kz
 rw[DM,if_pos (by omega)]
structure Mo(a b:Array Keyed)(i j:Nat)(out:Array Keyed):Prop where
 up:Ra out 0 out.size
 oa:∀x y,x<out.size->i<=y->y<a.size->kz out x<=kz a y
 ob:∀x y,x<out.size->j<=y->y<b.size->kz out x<=kz b y
variable{a b out:Array Keyed}{i j k:Nat}
theorem Mo.iQ(h:Mo a b i j out)(hb:Ra b 0 b.size)(ha:Ra a 0 a.size)(hj:j<b.size)(hc:i<a.size->kz b j<=kz a i):Mo a b i (j+1) (out.push b[j]):=by
 have e:kd b[j]=kz b j:=(c9 hj).symm
 refine⟨fun x y h0 hxy hy=>?_,fun x y hx hi hy=>?_,fun x y hx hi hy=>?_⟩<;>rw[qy] at*
 ·rw[gk (by omega),gk (by omega),e]
  by_cases c1:y=out.size
  ·rw[if_pos c1]
   by_cases c2:x=out.size
   ·rw[if_pos c2];omega
   ·rw[if_neg c2];exact h.ob x j (by omega) (by omega) hj
  ·rw[if_neg c1,if_neg (by omega)];exact h.up x y (by omega) hxy (by omega)
 ·rw[gk (by omega),e]
  by_cases c2:x=out.size
  ·rw[if_pos c2]
   have h1:=hc (by omega)
   have h2:=ha i y (by omega) hi hy
   omega
  ·rw[if_neg c2];exact h.oa x y (by omega) hi hy
 ·rw[gk (by omega),e]
  by_cases c2:x=out.size
  ·rw[if_pos c2];exact hb j y (by omega) (by omega) hy
  ·rw[if_neg c2];exact h.ob x y (by omega) (by omega) hy
theorem Mo.i9(h:Mo a b i j out)(hb:Ra b 0 b.size)(ha:Ra a 0 a.size)(hi:i<a.size)(hc:j<b.size->kz a i<=kz b j):Mo a b (i+1) j (out.push a[i]):=by
 have e:kd a[i]=kz a i:=(c9 hi).symm
 refine⟨fun x y h0 hxy hy=>?_,fun x y hx hi' hy=>?_,fun x y hx hi' hy=>?_⟩<;>rw[qy] at*
 ·rw[gk (by omega),gk (by omega),e]
  by_cases c1:y=out.size
  ·rw[if_pos c1]
   by_cases c2:x=out.size
   ·rw[if_pos c2];omega
   ·rw[if_neg c2];exact h.oa x i (by omega) (by omega) hi
  ·rw[if_neg c1,if_neg (by omega)];exact h.up x y (by omega) hxy (by omega)
 ·rw[gk (by omega),e]
  by_cases c2:x=out.size
  ·rw[if_pos c2];exact ha i y (by omega) (by omega) hy
  ·rw[if_neg c2];exact h.oa x y (by omega) (by omega) hy
 ·rw[gk (by omega),e]
  by_cases c2:x=out.size
  ·rw[if_pos c2]
   have h1:=hc (by omega)
   have h2:=hb j y (by omega) hi' hy
   omega
  ·rw[if_neg c2];exact h.ob x y (by omega) hi' hy
theorem Mo.l0(h:Mo a b i j out)(hb:Ra b 0 b.size)(ha:Ra a 0 a.size)(hk:i+k<=a.size)(hc:∀y,i<=y->y<i+k->j<b.size->kz a y<=kz b j):Mo a b (i+k) j (out++a.extract i (i+k)):=by
 have hs:(a.extract i (i+k)).size=k:=by rw[eB];omega
 refine⟨fun x y h0 hxy hy=>?_,fun x y hx hi' hy=>?_,fun x y hx hi' hy=>?_⟩<;>rw[lN,hs] at*
 ·rw[dO,dO]
  by_cases c1:y<out.size
  ·rw[if_pos c1,if_pos (by omega)];exact h.up x y (by omega) hxy c1
  ·rw[if_neg c1,c7 (x:=y-out.size) hk (by omega)]
   by_cases c2:x<out.size
   ·rw[if_pos c2];exact h.oa x (i+(y-out.size)) c2 (by omega) (by omega)
   ·rw[if_neg c2,c7 hk (by omega)];exact ha _ _ (by omega) (by omega) (by omega)
 ·rw[dO]
  by_cases c2:x<out.size
  ·rw[if_pos c2];exact h.oa x y c2 (by omega) hy
  ·rw[if_neg c2,c7 hk (by omega)];exact ha _ _ (by omega) (by omega) hy
 ·rw[dO]
  by_cases c2:x<out.size
  ·rw[if_pos c2];exact h.ob x y c2 (by omega) hy
  ·rw[if_neg c2,c7 hk (by omega)]
   have h1:=hc (i+(x-out.size)) (by omega) (by omega) (by omega)
   have h2:=hb j y (by omega) hi' hy
   omega
theorem Mo.k8(h:Mo a b i j out)(hb:Ra b 0 b.size)(ha:Ra a 0 a.size)(hk:j+k<=b.size)(hc:∀y,j<=y->y<j+k->i<a.size->kz b y<=kz a i):Mo a b i (j+k) (out++b.extract j (j+k)):=by
 have hs:(b.extract j (j+k)).size=k:=by rw[eB];omega
 refine⟨fun x y h0 hxy hy=>?_,fun x y hx hi' hy=>?_,fun x y hx hi' hy=>?_⟩<;>rw[lN,hs] at*
 ·rw[dO,dO]
  by_cases c1:y<out.size
  ·rw[if_pos c1,if_pos (by omega)];exact h.up x y (by omega) hxy c1
  ·rw[if_neg c1,c7 (x:=y-out.size) hk (by omega)]
   by_cases c2:x<out.size
   ·rw[if_pos c2];exact h.ob x (j+(y-out.size)) c2 (by omega) (by omega)
   ·rw[if_neg c2,c7 hk (by omega)];exact hb _ _ (by omega) (by omega) (by omega)
 ·rw[dO]
  by_cases c2:x<out.size
  ·rw[if_pos c2];exact h.oa x y c2 (by omega) hy
  ·rw[if_neg c2,c7 hk (by omega)]
   have h1:=hc (j+(x-out.size)) (by omega) (by omega) (by omega)
   have h2:=ha i y (by omega) hi' hy
   omega
 ·rw[dO]
  by_cases c2:x<out.size
  ·rw[if_pos c2];exact h.ob x y c2 (by omega) hy
  ·rw[if_neg c2,c7 hk (by omega)];exact hb _ _ (by omega) (by omega) hy
theorem Mo.nE(h:Mo a b i j out)(ha:Ra a 0 a.size):Ra (out++a.extract i a.size) 0 (out++a.extract i a.size).size:=fun x y h0 hxy hy=>by
 rw[lN,eB] at hy
 rw[dO,dO]
 by_cases c1:y<out.size
 ·rw[if_pos c1,if_pos (by omega)];exact h.up x y (by omega) hxy c1
 ·rw[if_neg c1,c7 (x:=y-out.size) (aA _) (by omega)]
  by_cases c2:x<out.size
  ·rw[if_pos c2];exact h.oa x (i+(y-out.size)) c2 (by omega) (by omega)
  ·rw[if_neg c2,c7 (aA _) (by omega)];exact ha _ _ (by omega) (by omega) (by omega)
theorem Mo.uv(h:Mo a b i j out)(hb:Ra b 0 b.size):Ra (out++b.extract j b.size) 0 (out++b.extract j b.size).size:=fun x y h0 hxy hy=>by
 rw[lN,eB] at hy
 rw[dO,dO]
 by_cases c1:y<out.size
 ·rw[if_pos c1,if_pos (by omega)];exact h.up x y (by omega) hxy c1
 ·rw[if_neg c1,c7 (x:=y-out.size) (aA _) (by omega)]
  by_cases c2:x<out.size
  ·rw[if_pos c2];exact h.ob x (j+(y-out.size)) c2 (by omega) (by omega)
  ·rw[if_neg c2,c7 (aA _) (by omega)];exact hb _ _ (by omega) (by omega) (by omega)
structure Mp(a b:Array Keyed):Prop where
 ra:Ra a 0 a.size
 rb:Ra b 0 b.size
 kA:dc a
 kB:dc b
 hd:kz b 0<=kz a 0
 tl:∀y,y<b.size->kz b y<=kz a (a.size-1)
def cz(z:Array Keyed):Prop:=Ra z 0 z.size
theorem Mo.qY(P:Mp a b)(h:Mo a b i j out)(hj:j=b.size):cz (out++a.extract i a.size++b.extract j b.size):=by
 have e:b.extract j b.size= #[]:=by rw[hj];simp
 unfold cz
 rw[e,yy]
 exact h.nE P.ra
theorem Mo.tX(P:Mp a b)(h:Mo a b i j out)(hi:i=a.size):cz (out++a.extract i a.size++b.extract j b.size):=by
 have e:a.extract i a.size= #[]:=by rw[hi];simp
 unfold cz
 rw[e,yy]
 exact h.uv P.rb
theorem Mo.ym(P:Mp a b)(h:Mo a b i j out)(hi:i+1=a.size)(hj:j<=b.size):cz (out++b.extract j b.size++a.extract i a.size):=by
 have:=h.k8 (k:=b.size-j) P.rb P.ra (by omega) (fun y _ h2 _=>by have:=P.tl y (by omega);rwa[show a.size-1=i by omega] at this)
 rw[show j+(b.size-j)=b.size by omega] at this
 exact this.nE P.ra
def LQ(a b:Array Keyed)(cS:SortSt)(B:Nat)(r:Option (Array Keyed))(out:Array Keyed)(ia ib:Nat)(st':SortSt):Prop:=
 ef cS st'/\(match r with|some z=>z.toList.Perm (a.toList++b.toList)/\cz z|none=>Mg a b ia ib out/\Mo a b ia ib out/\ia+1<a.size/\ib<b.size/\B<=ia+ib)
variable{cS st':SortSt}{B ia ib:Nat}{z:Array Keyed}
theorem LQ.some(S:ef cS st')(h:z.toList.Perm (a.toList++b.toList))(o:cz z):LQ a b cS B (some z) out ia ib st':=⟨S,h,o⟩
theorem LQ.none(S:ef cS st')(m:Mg a b ia ib out)(o:Mo a b ia ib out)(h1:ia+1<a.size)(h2:ib<b.size)(h3:B<=ia+ib):LQ a b cS B none out ia ib st':=⟨S,m,o,h1,h2,h3⟩
theorem Co{x y:Keyed}{α:Type}{f:Option Bool->StateT SortSt Sem α}{Q:α->SortSt->Prop}(hk:kindOf cS=oneType')(S:ef cS st)(hx:j9 x)(hy:j9 y)(h1:kd x<kd y->wpS (model prog w) A E s (f (some true)) Q st)(h2:kd y<=kd x->wpS (model prog w) A E s (f (some false)) Q st):wpS (model prog w) A E s (lt' x y>>=f) Q st:=wpS_bind (uo (S.1.trans hk) hx hy h1 h2)
theorem DA{left:Bool}{key:Keyed}{arr:Array Keyed}{base n hint:Nat}{α:Type}{f:Option Nat->StateT SortSt Sem α}{Q:α->SortSt->Prop}(hk:kindOf cS=oneType')(S:ef cS st)(hy:j9 key)(ha:dc arr)(hb:base+n<=arr.size)(hR:Ra arr base (base+n))(hh:hint<n)(h:∀k,k<=n->(∀x<k,bJ left key (kz arr (base+x)))->(∀x,k<=x->x<n->¬bJ left key (kz arr (base+x)))->wpS (model prog w) A E s (f (some k)) Q st):wpS (model prog w) A E s (kP left key arr base n hint>>=f) Q st:=wpS_bind (zV (S.1.trans hk) hy ha hb hR hh h)
theorem Ra.sub{x:Array Keyed}{l h l' h':Nat}(r:Ra x l h)(h1:l<=l')(h2:h'<=h):Ra x l' h':=fun i j a b c=>r i j (by omega) b (by omega)
theorem mZ{α:Type}{t e:StateT SortSt Sem α}{Q:α->SortSt->Prop}(h:wpS (model prog w) A E s t Q st):wpS (model prog w) A E s (if true=true then t else e) Q st:=by rw[if_pos rfl];exact h
theorem mK{α:Type}{t e:StateT SortSt Sem α}{Q:α->SortSt->Prop}(h:wpS (model prog w) A E s e Q st):wpS (model prog w) A E s (if false=true then t else e) Q st:=by rw[if_neg bz];exact h
theorem P1{x y:Array Keyed}{i j:Nat}{hi:i<x.size}{hj:j<y.size}(h:kd x[i]<kd y[j]):kz x i<=kz y j:=by rw[c9 hi,c9 hj];omega
theorem HJ{x y:Array Keyed}{i j:Nat}{hi:i<x.size}{hj:j<y.size}(h:kd y[j]<=kd x[i]):kz y j<=kz x i:=by rw[c9 hi,c9 hj];omega
theorem JE{x y:Array Keyed}{i j k:Nat}{hj:j<y.size}(h:∀z<k,bJ false y[j] (kz x (i+z))):∀z,i<=z->z<i+k->kz x z<=kz y j:=fun z h1 h2=>by
 have:=h (z-i) (by omega)
 unfold bJ at this
 rw[if_neg bz,show i+(z-i)=z by omega] at this
 rw[c9 hj];exact this
theorem DZ{x y:Array Keyed}{i j k n:Nat}{hj:j<y.size}(h:∀z,k<=z->z<n->¬bJ false y[j] (kz x (i+z)))(hk:k<n):kz y j<=kz x (i+k):=by
 have:=h k (aA _) hk
 unfold bJ at this
 rw[if_neg bz] at this
 rw[c9 hj];omega
theorem NH{x y:Array Keyed}{i j k:Nat}{hj:j<y.size}(h:∀z<k,bJ true y[j] (kz x (i+z))):∀z,i<=z->z<i+k->kz x z<=kz y j:=fun z h1 h2=>by
 have:=h (z-i) (by omega)
 unfold bJ at this
 rw[if_pos rfl,show i+(z-i)=z by omega] at this
 rw[c9 hj];omega
theorem Dy{x y:Array Keyed}{i j k n:Nat}{hj:j<y.size}(h:∀z,k<=z->z<n->¬bJ true y[j] (kz x (i+z)))(hk:k<n):kz y j<=kz x (i+k):=by
 have:=h k (aA _) hk
 unfold bJ at this
 rw[if_pos rfl] at this
 rw[c9 hj];omega
theorem NS{x y:Array Keyed}{i j k n:Nat}{hj:j<y.size}(h:∀z,k<=z->z<n->¬bJ false y[j] (kz x (i+z)))(h0:k<=0)(hn:0<n):kz y j<=kz x i:=by
 have:=DZ (k:=0) (fun z a b=>h z (by omega) b) hn
 rwa[qb] at this
theorem Nk{x y:Array Keyed}{i j k n:Nat}{hj:j<y.size}(h:∀z,k<=z->z<n->¬bJ true y[j] (kz x (i+z)))(h0:k<=0)(hn:0<n):kz y j<=kz x i:=by
 have:=Dy (k:=0) (fun z a b=>h z (by omega) b) hn
 rwa[qb] at this
local macro_rules| `(tactic|walk_at "og")=> `(tactic|repeat (first|assumption|with_reducible refine Mg.iQ ?_ (by omega)|with_reducible refine Mg.i9 ?_ (by omega)|with_reducible refine Mg.l0 ?_|with_reducible refine Mg.k8 ?_))
local macro_rules| `(tactic|walk_at "oo")=> `(tactic|repeat' (first
 |assumption
 |with_reducible refine Mo.iQ ?_ (by assumption) (by assumption) (by omega) ?_
 |with_reducible refine Mo.i9 ?_ (by assumption) (by assumption) (by omega) ?_
 |with_reducible refine Mo.l0 ?_ (by assumption) (by assumption) (by omega) ?_
 |with_reducible refine Mo.k8 ?_ (by assumption) (by assumption) (by omega) ?_
 |exact fun _=>DZ (by assumption) (by omega)
 |exact fun _=>Dy (by assumption) (by omega)
 |exact fun _=>NS (by assumption) (by omega) (by omega)
 |exact fun _=>Nk (by assumption) (by omega) (by omega)
 |exact fun y h1 h2 _=>JE (by assumption) y h1 h2
 |exact fun y h1 h2 _=>NH (by assumption) y h1 h2))
local macro_rules| `(tactic|walk_at "oe")=> `(tactic|(dsimp only;first
 |exact LQ.some (by assumption) (Mg.done (by walk_at "og")) (Mo.qY (by assumption) (by walk_at "oo") (by omega))
 |exact LQ.some (by assumption) (Mg.done (by walk_at "og")) (Mo.tX (by assumption) (by walk_at "oo") (by omega))
 |exact LQ.some (by assumption) (Mg.last (by walk_at "og")) (Mo.ym (by assumption) (by walk_at "oo") (by omega) (by omega))
 |exact LQ.none (by assumption) (by walk_at "og") (by walk_at "oo") (by omega) (by omega) (by omega)
 |exact And.intro (by first|rfl|trivial) (LQ.none (by assumption) (by walk_at "og") (by walk_at "oo") (by omega) (by omega) (by omega))))
local macro_rules| `(tactic|walk_at "os")=> `(tactic|repeat' (first
 |with_reducible refine wpS_pure ?_
 |with_reducible refine jJ (fun _=>?_) (fun _=>?_)
 |with_reducible refine oQ (by omega) ?_
 |with_reducible refine DA (by assumption) (by assumption) (dc.at (by assumption) _) (by assumption) (by omega) (Ra.sub (by assumption) (eg _) (by omega)) (by omega) (fun _ _ _ _=>?_)
 |with_reducible refine uf (by assumption) (fun _ _=>?_)
 |with_reducible refine GB ?_ ?_
 |with_reducible refine gc (fun _=>?_) (fun _=>?_)
 |walk_at "oe"))
theorem KA{Q:Array Keyed->SortSt->Prop}(hk:kindOf st=oneType')(P:Mp a b)(a0:0<a.size)(b0:0<b.size)(h:∀r st',ef st st'->r.toList.Perm (a.toList++b.toList)->cz r->Q r st'):wpS (model prog w) A E s (zp a b) Q st:=by
  have ra:=P.ra
  have rb:=P.rb
  have kA:=P.kA
  have kB:=P.kB
  rw[J9]
  refine wpS_bind (wpS_lift (wpAny_rule ⟨rfl,?_⟩))
  refine wpS_bind (kU b0 ?_)
  dsimp only
  have m0:Mg a b 0 1 #[b[0]]:=by unfold Mg;rw[AO (l:=b.toList) (by simpa using b0)];simp
  have o0:Mo a b 0 1 #[b[0]]:=by
    have:=Mo.iQ (a:=a) (b:=b) (i:=0) (j:=0) (out:= #[]) ⟨fun _ _ _ _ h=>by simp at h,fun _ _ h=>by simp at h,fun _ _ h=>by simp at h⟩ rb ra b0 (fun _=>P.hd)
    simpa using this
  refine jJ (fun c1=>wpS_pure (h _ _ (.refl _) m0.done (o0.qY P c1))) (fun c1=>?_)
  refine jJ (fun c2=>wpS_pure (h _ _ (.refl _) m0.last (o0.ym P c2 (by omega)))) (fun c2=>?_)
  refine wpS_bind (wpS_get ?_)
  refine wpS_bind (wpS_mono (wpS_forRange (I:=fun x c st'=>c.1=none/\LQ a b st (x+1) none c.2.1 c.2.2.1 c.2.2.2.1 st') (Q:=fun c st'=>ef st st'/\∃z,c.1=some z/\z.toList.Perm (a.toList++b.toList)/\cz z) ?step ?fin ⟨rfl, .none (.refl _) m0 o0 (by dsimp only;omega) (by dsimp only;omega) (by dsimp only;omega)⟩) ?post)
  case fin=>
    rintro c st' ⟨_,_,_,_,i1,i2,i3⟩
    omega
  case post=>
    rintro c st' ⟨S,z,e,hz,oz⟩
    rw[e]
    exact wpS_pure (h z st' S hz oz)
  case step=>
    rintro x ⟨r,out,ia,ib,mn⟩ st' _ hx ⟨e,S,m,o,i1,i2,i3⟩
    dsimp only at e m o i1 i2 i3
    subst e
    dsimp only
    refine wpS_bind (wpS_mono (wpS_forRange (I:=fun y c st'=>c.1=none/\LQ a b st (x+1+y) none c.2.1 c.2.2.1 c.2.2.2.1 st') (Q:=fun c st'=>LQ a b st (x+2) c.1 c.2.1 c.2.2.1 c.2.2.2.1 st') ?zT ?yO ⟨rfl, .none S m o i1 i2 (by omega)⟩) ?AK)
    case yO=>
      rintro⟨r,out,ia,ib,ac,bc⟩ st' ⟨e,S,m,o,i1,i2,i3⟩
      dsimp only at e m o i1 i2 i3
      subst e
      exact .none S m o i1 i2 (by omega)
    case zT=>
      rintro y ⟨r,out,ia,ib,ac,bc⟩ st' _ hy ⟨e,S,m,o,i1,i2,i3⟩
      dsimp only at e m o i1 i2 i3
      subst e
      dsimp only
      refine oQ (by omega) ?_
      refine oQ (by omega) ?_
      refine Co hk S (kB.at _) (kA.at _) (fun c=>?_) (fun c=>?_)
      · have m':=m.iQ (show ib<b.size by omega)
        have o':=o.iQ rb ra (show ib<b.size by omega) (fun _=>P1 c)
        refine mZ ?_
        refine oQ (by omega) ?_
        refine jJ (fun z=>?_) (fun z=>?_)
        · refine wpS_pure ?_
          dsimp only
          exact(LQ.some S m'.done (o'.qY P z))
        · refine gc (fun _=>?_) (fun _=>?_)
          · refine wpS_pure ?_
            dsimp only
            exact(LQ.none S m' o' (by omega) (by omega) (by omega))
          · refine wpS_pure ?_
            dsimp only
            exact⟨rfl,LQ.none S m' o' (by omega) (by omega) (by omega)⟩
      · have m':=m.i9 (show ia<a.size by omega)
        have o':=o.i9 rb ra (show ia<a.size by omega) (fun _=>HJ c)
        refine mK ?_
        refine oQ (by omega) ?_
        refine jJ (fun z=>?_) (fun z=>?_)
        · refine wpS_pure ?_
          dsimp only
          exact(LQ.some S m'.last (o'.ym P z (by omega)))
        · refine gc (fun _=>?_) (fun _=>?_)
          · refine wpS_pure ?_
            dsimp only
            exact(LQ.none S m' o' (by omega) (by omega) (by omega))
          · refine wpS_pure ?_
            dsimp only
            exact⟨rfl,LQ.none S m' o' (by omega) (by omega) (by omega)⟩
    case AK=>
      rintro⟨r,out,ia,ib,ac,bc⟩ st' hL
      cases r with
      |some z=>exact wpS_pure ⟨hL.1,z,rfl,hL.2⟩
      | none =>
        obtain⟨S,m,o,i1,i2,i3⟩:=hL
        dsimp only at m o i1 i2 i3
        dsimp only
        refine wpS_bind (wpS_lift (wpAny_rule ⟨rfl,?_⟩))
        refine wpS_bind (wpS_mono (wpS_forRange (I:=fun y c st'=>c.1=none/\LQ a b st (x+2) none c.2.1 c.2.2.1 c.2.2.2.1 st') (Q:=fun c st'=>LQ a b st (x+2) c.1 c.2.1 c.2.2.1 c.2.2.2.1 st') ?xm ?vI ⟨rfl, .none S m o i1 i2 (by omega)⟩) ?yL)
        case vI=>
          rintro⟨r,out,ia,ib,mn,ac,bc⟩ st' ⟨e,S,m,o,i1,i2,i3⟩
          dsimp only at e m o i1 i2 i3
          subst e
          exact .none S m o i1 i2 (by omega)
        case xm=>
          rintro y ⟨r,out,ia,ib,mn,ac,bc⟩ st' _ hy ⟨e,S,m,o,i1,i2,i3⟩
          dsimp only at e m o i1 i2 i3
          subst e
          dsimp only
          walk_at "os"
        case yL=>
          rintro⟨r,out,ia,ib,mn,ac,bc⟩ st' hL
          cases r with
          |some z=>exact wpS_pure ⟨hL.1,z,rfl,hL.2⟩
          | none =>
            obtain⟨S,m,o,i1,i2,i3⟩:=hL
            dsimp only at m o i1 i2 i3
            dsimp only
            exact uf S fun st' S'=>wpS_pure ⟨rfl, .none S' m o i1 i2 (by omega)⟩
end
end L2
set_option maxRecDepth 100000
set_option maxHeartbeats 4000000
namespace L2
open PySem PySem.Spec PyProof.Rows
section
variable{prog:Program}{w:World}{A:Around}{E:Value->Shared->Prop}{s:Shared}{st:SortSt}{a b out:Array Keyed}{i j k n:Nat}
theorem pM{x:Nat}(h:x<a.size):kz a.reverse x=kz a (a.size-1-x):=by
 unfold kz
 rw[Array.getElem?_reverse h]
structure Mu(a b:Array Keyed)(i j:Nat)(out:Array Keyed):Prop where
 dn:∀x y,x<=y->y<out.size->kz out y<=kz out x
 oa:∀x y,x<out.size->y<i->kz a y<=kz out x
 ob:∀x y,x<out.size->y<j->kz b y<=kz out x
theorem Mu.iQ(h:Mu a b i (j+1) out)(hb:cz b)(hj:j<b.size)(hc:∀y,y<i->kz a y<=kz b j):Mu a b i j (out.push b[j]):=by
 have e:kd b[j]=kz b j:=(c9 hj).symm
 refine⟨fun x y hxy hy=>?_,fun x y hx hy=>?_,fun x y hx hy=>?_⟩<;>rw[qy] at*
 ·rw[gk (by omega),gk (by omega),e]
  by_cases c1:y=out.size
  ·rw[if_pos c1]
   by_cases c2:x=out.size
   ·rw[if_pos c2];omega
   ·rw[if_neg c2];exact h.ob x j (by omega) (by omega)
  ·rw[if_neg c1,if_neg (by omega)];exact h.dn x y hxy (by omega)
 ·rw[gk (by omega),e]
  by_cases c2:x=out.size
  ·rw[if_pos c2];exact hc y hy
  ·rw[if_neg c2];exact h.oa x y (by omega) hy
 ·rw[gk (by omega),e]
  by_cases c2:x=out.size
  ·rw[if_pos c2];exact hb y j (by omega) (by omega) hj
  ·rw[if_neg c2];exact h.ob x y (by omega) (by omega)
theorem Mu.i9(h:Mu a b (i+1) j out)(ha:cz a)(hi:i<a.size)(hc:∀y,y<j->kz b y<=kz a i):Mu a b i j (out.push a[i]):=by
 have e:kd a[i]=kz a i:=(c9 hi).symm
 refine⟨fun x y hxy hy=>?_,fun x y hx hy=>?_,fun x y hx hy=>?_⟩<;>rw[qy] at*
 ·rw[gk (by omega),gk (by omega),e]
  by_cases c1:y=out.size
  ·rw[if_pos c1]
   by_cases c2:x=out.size
   ·rw[if_pos c2];omega
   ·rw[if_neg c2];exact h.oa x i (by omega) (by omega)
  ·rw[if_neg c1,if_neg (by omega)];exact h.dn x y hxy (by omega)
 ·rw[gk (by omega),e]
  by_cases c2:x=out.size
  ·rw[if_pos c2];exact ha y i (by omega) (by omega) hi
  ·rw[if_neg c2];exact h.oa x y (by omega) (by omega)
 ·rw[gk (by omega),e]
  by_cases c2:x=out.size
  ·rw[if_pos c2];exact hc y hy
  ·rw[if_neg c2];exact h.ob x y (by omega) hy
theorem Mu.SW(h:Mu a b i j out)(hb:cz b)(h1:1<=j)(hj:j-1<b.size)(hc:∀y,y<i->kz a y<=kz b (j-1)):Mu a b i (j-1) (out.push b[j-1]):=
 Mu.iQ (by rw[show j-1+1=j by omega];exact h) hb hj hc
theorem Mu.Qx(h:Mu a b i j out)(ha:cz a)(h1:1<=i)(hi:i-1<a.size)(hc:∀y,y<j->kz b y<=kz a (i-1)):Mu a b (i-1) j (out.push a[i-1]):=
 Mu.i9 (by rw[show i-1+1=i by omega];exact h) ha hi hc
theorem lC{x:Nat}(hi:i<=a.size)(hx:x<i-k):kz (a.extract k i).reverse x=kz a (i-1-x):=by
 have hs:(a.extract k i).size=i-k:=by rw[eB];omega
 rw[pM (by omega),c7 hi (by omega),hs]
 congr 1;omega
theorem Mu.l0(h:Mu a b i j out)(ha:cz a)(hk:k<=i)(hi:i<=a.size)(hc:∀y,k<=y->y<i->∀x,x<j->kz b x<=kz a y):Mu a b k j (out++(a.extract k i).reverse):=by
 have hs:(a.extract k i).reverse.size=i-k:=by rw[sO,eB];omega
 refine⟨fun x y hxy hy=>?_,fun x y hx hy=>?_,fun x y hx hy=>?_⟩<;>rw[lN,hs] at*
 ·rw[dO,dO]
  by_cases c1:y<out.size
  ·rw[if_pos c1,if_pos (by omega)];exact h.dn x y hxy c1
  ·rw[if_neg c1,lC hi (by omega)]
   by_cases c2:x<out.size
   ·rw[if_pos c2];exact h.oa x _ c2 (by omega)
   ·rw[if_neg c2,lC hi (by omega)];exact ha _ _ (by omega) (by omega) (by omega)
 ·rw[dO]
  by_cases c2:x<out.size
  ·rw[if_pos c2];exact h.oa x y c2 (by omega)
  ·rw[if_neg c2,lC hi (by omega)];exact ha _ _ (by omega) (by omega) (by omega)
 ·rw[dO]
  by_cases c2:x<out.size
  ·rw[if_pos c2];exact h.ob x y c2 hy
  ·rw[if_neg c2,lC hi (by omega)];exact hc _ (by omega) (by omega) y hy
theorem Mu.k8(h:Mu a b i j out)(hb:cz b)(hk:k<=j)(hj:j<=b.size)(hc:∀y,k<=y->y<j->∀x,x<i->kz a x<=kz b y):Mu a b i k (out++(b.extract k j).reverse):=by
 have hs:(b.extract k j).reverse.size=j-k:=by rw[sO,eB];omega
 refine⟨fun x y hxy hy=>?_,fun x y hx hy=>?_,fun x y hx hy=>?_⟩<;>rw[lN,hs] at*
 ·rw[dO,dO]
  by_cases c1:y<out.size
  ·rw[if_pos c1,if_pos (by omega)];exact h.dn x y hxy c1
  ·rw[if_neg c1,lC hj (by omega)]
   by_cases c2:x<out.size
   ·rw[if_pos c2];exact h.ob x _ c2 (by omega)
   ·rw[if_neg c2,lC hj (by omega)];exact hb _ _ (by omega) (by omega) (by omega)
 ·rw[dO]
  by_cases c2:x<out.size
  ·rw[if_pos c2];exact h.oa x y c2 hy
  ·rw[if_neg c2,lC hj (by omega)];exact hc _ (by omega) (by omega) y hy
 ·rw[dO]
  by_cases c2:x<out.size
  ·rw[if_pos c2];exact h.ob x y c2 (by omega)
  ·rw[if_neg c2,lC hj (by omega)];exact hb _ _ (by omega) (by omega) (by omega)
theorem Mu.nE(h:Mu a b i j out)(ha:cz a)(hi:i<=a.size):cz (a.extract 0 i++out.reverse):=fun x y h0 hxy hy=>by
 have hs:(a.extract 0 i).size=i:=by rw[eB];omega
 rw[lN,sO,hs] at hy
 rw[dO,dO,hs]
 by_cases c1:y<i
 ·rw[if_pos c1,if_pos (by omega),c7 hi (by omega),c7 hi (by omega)];exact ha _ _ (by omega) (by omega) (by omega)
 ·rw[if_neg c1,pM (x:=y-i) (by omega)]
  by_cases c2:x<i
  ·rw[if_pos c2,c7 hi (by omega)];exact h.oa (out.size-1-(y-i)) (0+x) (by omega) (by omega)
  ·rw[if_neg c2,pM (by omega)];exact h.dn _ _ (by omega) (by omega)
theorem Mu.uv(h:Mu a b i j out)(hb:cz b)(hj:j<=b.size):cz (b.extract 0 j++out.reverse):=fun x y h0 hxy hy=>by
 have hs:(b.extract 0 j).size=j:=by rw[eB];omega
 rw[lN,sO,hs] at hy
 rw[dO,dO,hs]
 by_cases c1:y<j
 ·rw[if_pos c1,if_pos (by omega),c7 hj (by omega),c7 hj (by omega)];exact hb _ _ (by omega) (by omega) (by omega)
 ·rw[if_neg c1,pM (x:=y-j) (by omega)]
  by_cases c2:x<j
  ·rw[if_pos c2,c7 hj (by omega)];exact h.ob (out.size-1-(y-j)) (0+x) (by omega) (by omega)
  ·rw[if_neg c2,pM (by omega)];exact h.dn _ _ (by omega) (by omega)
theorem Mu.tX(P:Mp a b)(h:Mu a b i j out)(hi:i=0)(hj:j<=b.size):cz (a.extract 0 i++b.extract 0 j++out.reverse):=by
 have e:a.extract 0 i= #[]:=by rw[hi];simp
 rw[e,Array.empty_append]
 exact h.uv P.rb hj
theorem Mu.qY(P:Mp a b)(h:Mu a b i j out)(hj:j=0)(hi:i<=a.size):cz (a.extract 0 i++b.extract 0 j++out.reverse):=by
 have e:b.extract 0 j= #[]:=by rw[hj];simp
 rw[e,yy]
 exact h.nE P.ra hi
theorem Mu.Cd(P:Mp a b)(h:Mu a b i j out)(hj:j=1)(b0:1<=b.size)(hi:i<=a.size):cz (b.extract 0 j++a.extract 0 i++out.reverse):=by
 have h2:=h.l0 (k:=0) P.ra (eg _) hi (fun y _ h2 x hx=>by
  have e:x=0:=by omega
  subst e
  have h3:=P.hd
  have h4:=P.ra 0 y (by omega) (by omega) (by omega)
  omega)
 have h3:=h2.uv P.rb (by omega)
 rwa[Array.reverse_append,Array.reverse_reverse,<-Array.append_assoc] at h3
def LR(a b:Array Keyed)(cS:SortSt)(B:Nat)(r:Option (Array Keyed))(out:Array Keyed)(ia ib:Nat)(st':SortSt):Prop:=
 ef cS st'/\(match r with|some z=>z.toList.Perm (a.toList++b.toList)/\cz z|none=>Mh a b ia ib out/\Mu a b ia ib out/\1<=ia/\ia<=a.size/\2<=ib/\ib<=b.size/\B+ia+ib<=a.size+b.size)
variable{cS st':SortSt}{B ia ib:Nat}{z:Array Keyed}
theorem LR.some(S:ef cS st')(h:z.toList.Perm (a.toList++b.toList))(o:cz z):LR a b cS B (some z) out ia ib st':=⟨S,h,o⟩
theorem LR.none(S:ef cS st')(m:Mh a b ia ib out)(o:Mu a b ia ib out)(h1:1<=ia/\ia<=a.size/\2<=ib/\ib<=b.size/\B+ia+ib<=a.size+b.size):LR a b cS B none out ia ib st':=⟨S,m,o,h1⟩
theorem hi_lt{x y:Array Keyed}{i j:Nat}{hi:i<x.size}{hj:j<y.size}(h:kd x[i]<kd y[j])(r:cz x):∀z,z<i+1->kz x z<=kz y j:=fun z hz=>by
 have:=r z i (by omega) (by omega) hi
 rw[c9 hi] at this
 rw[c9 hj];omega
theorem Kv{x y:Array Keyed}{i j:Nat}{hi:i<x.size}{hj:j<y.size}(h:kd x[i]<=kd y[j])(r:cz x):∀z,z<i+1->kz x z<=kz y j:=fun z hz=>by
 have:=r z i (by omega) (by omega) hi
 rw[c9 hi] at this
 rw[c9 hj];omega
theorem Nq{l:Bool}{x y:Array Keyed}{j k m:Nat}{hj:j<y.size}(h:∀z<k,bJ l y[j] (kz x (0+z)))(hm:m<=k):∀z,z<m->kz x z<=kz y j:=fun z hz=>by
 have:=h z (by omega)
 unfold bJ at this
 rw[wX] at this
 rw[c9 hj]
 cases l with
 |true=>rw[if_pos rfl] at this;omega
 |false=>rw[if_neg bz] at this;exact this
theorem QV{l:Bool}{x y:Array Keyed}{j k n:Nat}{hj:j<y.size}(h:∀z,k<=z->z<n->¬bJ l y[j] (kz x (0+z)))(r:cz y){m:Nat}(hm:m<=j+1):∀z,k<=z->z<n->∀u,u<m->kz y u<=kz x z:=fun z h1 h2 u hu=>by
 have:=h z h1 h2
 unfold bJ at this
 rw[wX] at this
 have h3:=r u j (by omega) (by omega) hj
 rw[c9 hj] at h3
 cases l with
 |true=>rw[if_pos rfl] at this;omega
 |false=>rw[if_neg bz] at this;omega
local macro_rules| `(tactic|walk_at "pg")=> `(tactic|repeat (first|assumption|with_reducible refine Mh.iQ ?_ (by omega) (by omega)|with_reducible refine Mh.i9 ?_ (by omega) (by omega)|with_reducible refine Mh.Q6 ?_ (by omega)|with_reducible refine Mh.QU ?_ (by omega)|with_reducible refine Mh.l0 ?_ (by omega)|with_reducible refine Mh.k8 ?_ (by omega)))
local macro_rules| `(tactic|walk_at "po")=> `(tactic|repeat' (first
 |assumption
 |with_reducible refine Mu.Qx ?_ (by assumption) (by omega) (by omega) ?_
 |with_reducible refine Mu.iQ ?_ (by assumption) (by omega) ?_
 |with_reducible refine Mu.i9 ?_ (by assumption) (by omega) ?_
 |with_reducible refine Mu.l0 ?_ (by assumption) (by omega) (by omega) ?_
 |with_reducible refine Mu.k8 ?_ (by assumption) (by omega) (by omega) ?_
 |exact hi_lt (by assumption) (by assumption)
 |exact Kv (by assumption) (by assumption)
 |exact Nq (by assumption) (by omega)
 |exact QV (by assumption) (by assumption) (by omega)))
local macro_rules| `(tactic|walk_at "pe")=> `(tactic|(dsimp only;first
 |exact LR.some (by assumption) (Mh.done (by walk_at "pg")) (Mu.tX (by assumption) (by walk_at "po") (by omega) (by omega))
 |exact LR.some (by assumption) (Mh.done (by walk_at "pg")) (Mu.qY (by assumption) (by walk_at "po") (by omega) (by omega))
 |exact LR.some (by assumption) (Mh.first (by walk_at "pg")) (Mu.Cd (by assumption) (by walk_at "po") (by omega) (by omega) (by omega))
 |exact LR.none (by assumption) (by walk_at "pg") (by walk_at "po") (by omega)
 |exact And.intro (by first|rfl|trivial) (LR.none (by assumption) (by walk_at "pg") (by walk_at "po") (by omega))))
local macro_rules| `(tactic|walk_at "ps")=> `(tactic|repeat' (first
 |with_reducible refine wpS_pure ?_
 |with_reducible refine mZ ?_
 |with_reducible refine mK ?_
 |with_reducible refine jJ (fun _=>?_) (fun _=>?_)
 |with_reducible refine oQ (by omega) ?_
 |with_reducible refine Co (by assumption) (by assumption) (dc.at (by assumption) _) (dc.at (by assumption) _) (fun _=>?_) (fun _=>?_)
 |with_reducible refine DA (by assumption) (by assumption) (dc.at (by assumption) _) (by assumption) (by omega) (Ra.sub (by assumption) (eg _) (by omega)) (by omega) (fun _ _ _ _=>?_)
 |with_reducible refine uf (by assumption) (fun _ _=>?_)
 |with_reducible refine GB ?_ ?_
 |with_reducible refine gc (fun _=>?_) (fun _=>?_)))
theorem NR{Q:Array Keyed->SortSt->Prop}(hk:kindOf st=oneType')(P:Mp a b)(a0:0<a.size)(b0:0<b.size)(h:∀r st',ef st st'->r.toList.Perm (a.toList++b.toList)->cz r->Q r st'):wpS (model prog w) A E s (AY a b) Q st:=by
  have ra':=P.ra
  have rb':=P.rb
  have ra:cz a:=P.ra
  have rb:cz b:=P.rb
  have kA:=P.kA
  have kB:=P.kB
  rw[JU]
  refine wpS_bind (wpS_lift (wpAny_rule ⟨rfl,?_⟩))
  refine wpS_bind (kU (i:=a.size-1) (by omega) ?_)
  dsimp only
  have m0:Mh a b (a.size-1) b.size #[a[a.size-1]]:=by
    unfold Mh
    rw[ve (l:=a.toList) (i:=a.size-1) (by simp;omega),Ba (l:=a.toList) (by simp;omega),Ba (l:=b.toList) (by simp)]
    simp
  have o0:Mu a b (a.size-1) b.size #[a[a.size-1]]:=by
    have:=Mu.i9 (a:=a) (b:=b) (i:=a.size-1) (j:=b.size) (out:= #[]) ⟨fun _ _ _ h=>by simp at h,fun _ _ h=>by simp at h,fun _ _ h=>by simp at h⟩ ra (by omega) (fun y hy=>P.tl y hy)
    simpa using this
  refine jJ (fun c1=>wpS_pure (h _ _ (.refl _) m0.done (o0.tX P c1 (by omega)))) (fun c1=>?_)
  refine jJ (fun c2=>wpS_pure (h _ _ (.refl _) m0.first (o0.Cd P c2 (by omega) (by omega)))) (fun c2=>?_)
  refine wpS_bind (wpS_get ?_)
  refine wpS_bind (wpS_mono (wpS_forRange (I:=fun x c st'=>c.1=none/\LR a b st (x+1) none c.2.2.2.1 c.2.1 c.2.2.1 st') (Q:=fun c st'=>ef st st'/\∃z,c.1=some z/\z.toList.Perm (a.toList++b.toList)/\cz z) ?step ?fin ⟨rfl, .none (.refl _) m0 o0 (by dsimp only;omega)⟩) ?post)
  case fin=>
    rintro c st' ⟨_,_,_,_,i1,i2,i3,i4,i5⟩
    omega
  case post=>
    rintro c st' ⟨S,z,e,hz,oz⟩
    rw[e]
    exact wpS_pure (h z st' S hz oz)
  case step=>
    rintro x ⟨r,ia,ib,out,mn⟩ st' _ hx ⟨e,S,m,o,i1,i2,i3,i4,i5⟩
    dsimp only at e m o i1 i2 i3 i4 i5
    subst e
    dsimp only
    refine wpS_bind (wpS_mono (wpS_forRange (I:=fun y c st'=>c.1=none/\LR a b st (x+1+y) none c.2.2.2.1 c.2.1 c.2.2.1 st') (Q:=fun c st'=>LR a b st (x+2) c.1 c.2.2.2.1 c.2.1 c.2.2.1 st') ?zT ?yO ⟨rfl, .none S m o (by dsimp only;omega)⟩) ?AK)
    case yO=>
      rintro⟨r,ia,ib,out,ac,bc⟩ st' ⟨e,S,m,o,i1,i2,i3,i4,i5⟩
      dsimp only at e m o i1 i2 i3 i4 i5
      subst e
      exact .none S m o (by dsimp only;omega)
    case zT=>
      clear S m o i1 i2 i3 i4 i5 hx m0 o0 c1 c2
      rintro y ⟨r,ia,ib,out,ac,bc⟩ st' _ hy ⟨e,S,m,o,i1,i2,i3,i4,i5⟩
      dsimp only at e m o i1 i2 i3 i4 i5
      subst e
      dsimp only
      obtain⟨p,rfl⟩:∃p,ia=p+1:=⟨ia-1,by omega⟩
      obtain⟨q,rfl⟩:∃q,ib=q+1+1:=⟨ib-2,by omega⟩
      simp only[xN]
      walk_at "ps"
      all_goals walk_at "pe"
    case AK=>
      rintro⟨r,ia,ib,out,ac,bc⟩ st' hL
      cases r with
      |some z=>exact wpS_pure ⟨hL.1,z,rfl,hL.2⟩
      | none =>
        obtain⟨S,m,o,i1,i2,i3,i4,i5⟩:=hL
        dsimp only at m o i1 i2 i3 i4 i5
        dsimp only
        refine wpS_bind (wpS_lift (wpAny_rule ⟨rfl,?_⟩))
        refine wpS_bind (wpS_mono (wpS_forRange (I:=fun y c st'=>c.1=none/\LR a b st (x+2) none c.2.2.2.1 c.2.1 c.2.2.1 st') (Q:=fun c st'=>LR a b st (x+2) c.1 c.2.2.2.1 c.2.1 c.2.2.1 st') ?xm ?vI ⟨rfl, .none S m o (by dsimp only;omega)⟩) ?yL)
        case vI=>
          rintro⟨r,ia,ib,out,mn,ac,bc⟩ st' ⟨e,S,m,o,i1,i2,i3,i4,i5⟩
          dsimp only at e m o i1 i2 i3 i4 i5
          subst e
          exact .none S m o (by dsimp only;omega)
        case xm=>
          clear S m o i1 i2 i3 i4 i5 hx m0 o0 c1 c2
          rintro y ⟨r,ia,ib,out,mn,ac,bc⟩ st' _ hy ⟨e,S,m,o,i1,i2,i3,i4,i5⟩
          dsimp only at e m o i1 i2 i3 i4 i5
          subst e
          dsimp only
          obtain⟨p,rfl⟩:∃p,ia=p+1:=⟨ia-1,by omega⟩
          obtain⟨q,rfl⟩:∃q,ib=q+1+1:=⟨ib-2,by omega⟩
          simp only[xN]
          walk_at "ps"
          all_goals walk_at "pe"
        case yL=>
          rintro⟨r,ia,ib,out,mn,ac,bc⟩ st' hL
          cases r with
          |some z=>exact wpS_pure ⟨hL.1,z,rfl,hL.2⟩
          | none =>
            obtain⟨S,m,o,i1,i2,i3,i4,i5⟩:=hL
            dsimp only at m o i1 i2 i3 i4 i5
            dsimp only
            exact uf S fun st' S'=>wpS_pure ⟨rfl, .none S' m o (by dsimp only;omega)⟩
end
end L2
set_option maxRecDepth 100000
set_option maxHeartbeats 4000000
namespace L2
open PySem PySem.Spec PyProof.Rows
def Au(l:List Keyed)(i:Nat):Int:=match l[i]? with|some x=>kd x|none=>0
theorem AE{a:Array Keyed}{i:Nat}:kz a i=Au a.toList i:=by unfold kz Au;rw[gz]<;>rfl
def pF(arr:Array Keyed)(r:Array Keyed)(sa:Nat):Array Keyed:=r.toList.zipIdx.foldl (fun(a:Array Keyed) (pj:Keyed×Nat)=>a.setIfInBounds (sa+pj.2) pj.1) arr
theorem pJ{arr r:Array Keyed}{sa:Nat}(h:sa+r.size<=arr.size)(x:Nat):kz (pF arr r sa) x=if x<sa then kz arr x else if x<sa+r.size then kz r (x-sa) else kz arr x:=by
 have e:=zY sa r.toList 0 arr (by rw[cF];omega)
 rw[AE,AE,AE]
 unfold pF Au
 rw[e,cF,qb,dM,Cf,gG,cF,zf (by omega)]
 by_cases c1:x<sa
 ·rw[if_pos c1,if_pos c1,zM c1]
 ·rw[if_neg c1,if_neg c1,Cf,cF]
  by_cases c2:x<sa+r.size
  ·rw[if_pos (by omega),if_pos c2]
  ·rw[if_neg (by omega),if_neg c2,List.getElem?_drop,show sa+r.size+(x-sa-r.size)=x by omega]
theorem Ch.lies:∀{l:List (Nat×Nat×Nat)} {x y:Nat},Ch l x y->∀v∈l,x<=v.1/\v.1+v.2.1<=y
  |[],x,y,h,v,hv=>nomatch hv
  | (s, n, p) :: l, x, y, ⟨a, b, c⟩, v, hv => by
    have h1:=c.le
    rcases bQ.mp hv with rfl|hv
    · exact⟨mQ a.symm,by dsimp only;omega⟩
    · have:=Ch.lies c v hv
      omega
theorem Ch.apart{l:List (Nat×Nat×Nat)}{lo i:Nat}{sa na pw sb nb kD:Nat}(h:Ch l 0 lo)(e1:l[i]?=some (sa,na,pw))(e2:l[i+1]?=some (sb,nb,kD)):
  ∀v∈(l.set i (sa,na+nb,pw)).eraseIdx (i+1),v=(sa,na+nb,pw)\/(v∈l/\(v.1+v.2.1<=sa\/sb+nb<=v.1)):=by
 have hi:i<l.length:=(aJ.mp e1).1
 have hi2:i+1<l.length:=(aJ.mp e2).1
 have g1:=(aJ.mp e1).2
 have g2:=(aJ.mp e2).2
 have el:l=l.take i++(sa,na,pw)::(sb,nb,kD)::l.drop (i+2):=by
  have:=(iW i l).symm
  rwa[qj hi,qj hi2,g1,g2] at this
 have hl:(l.take i).length=i:=by rw[gG];omega
 generalize l.take i=A1 at*
 generalize l.drop (i+2)=A2 at*
 subst el
 obtain⟨y,c1,a1,a2,a3,a4,a5⟩:=Ch.append.mp h
 have e:((A1++(sa,na,pw)::(sb,nb,kD)::A2).set i (sa,na+nb,pw)).eraseIdx (i+1)=A1++(sa,na+nb,pw)::A2:=by
  rw[Et _ _ (by omega),hl,nI,List.set_cons_zero,EA (by omega),show i+1-A1.length=1 by omega]
  rfl
 rw[e]
 intro v hv
 rcases cE.mp hv with hv|hv
 ·have:=c1.lies v hv
  exact .inr ⟨gj _ hv, .inl (by omega)⟩
 ·rcases bQ.mp hv with rfl|hv
  ·exact .inl rfl
  ·have:=a5.lies v hv
   exact .inr ⟨dY _ (dN _ (dN _ hv)), .inr (by omega)⟩
theorem ext_mem{arr:Array Keyed}{i j:Nat}{x:Keyed}(h:x∈(arr.extract i j).toList):∃y,i<=y/\y<j/\kz arr y=kd x:=by
 obtain⟨k,hk⟩:=g6 h
 rw[gz,DM] at hk
 by_cases c:k<min j arr.size-i
 ·rw[if_pos c] at hk
  exact⟨i+k,by omega,by omega,by unfold kz;rw[hk]⟩
 ·rw[if_neg c] at hk;cases hk
theorem Ci{arr r:Array Keyed}{p q t:Nat}(h1:p<=q)(h2:q<=t)(hr:r.toList.Perm ((arr.extract p q).toList++(arr.extract q t).toList)){x:Nat}(hx:x<r.size):∃y,p<=y/\y<t/\kz r x=kz arr y:=by
 have hm:r[x]∈r.toList:=by simp
 rcases cE.mp (hr.mem_iff.mp hm) with h|h
 ·obtain⟨y,y1,y2,e⟩:=ext_mem h
  exact⟨y,y1,by omega,by rw[c9 hx,e]⟩
 ·obtain⟨y,y1,y2,e⟩:=ext_mem h
  exact⟨y,by omega,y2,by rw[c9 hx,e]⟩
theorem BI{arr r:Array Keyed}{sa sb na nb k k2:Nat}(hs:sb=sa+na)(hk:k<na)(h2:0<k2)(h3:k2<=nb)(hz:sb+nb<=arr.size)(rA:Ra arr sa (sa+na))(rB:Ra arr sb (sb+nb))
  (g1:∀x<k,kz arr (sa+x)<=kz arr sb) (g2:∀x,k2<=x->x<nb->kz arr (sb-1)<=kz arr (sb+x)) (hr:r.toList.Perm ((arr.extract (sa+k) sb).toList++(arr.extract sb (sb+k2)).toList)) (ru:cz r):
  r.size=sb+k2-(sa+k)/\Ra (pF arr r (sa+k)) sa (sa+(na+nb)):=by
 have hl:r.size=sb+k2-(sa+k):=by
  have:=hr.length_eq
  rw[bR,cF,cF,cF,eB,eB] at this
  omega
 refine⟨hl,fun i j hi hij hj=>?_⟩
 rw[pJ (by omega),pJ (by omega)]
 by_cases i1:i<sa+k
 ·rw[if_pos i1]
  have gi:=g1 (i-sa) (by omega)
  rw[show sa+(i-sa)=i by omega] at gi
  by_cases j1:j<sa+k
  ·rw[if_pos j1];exact rA i j hi hij (by omega)
  ·rw[if_neg j1]
   by_cases j2:j<sa+k+r.size
   ·rw[if_pos j2]
    obtain⟨y,y1,y2,e⟩:=Ci (by omega) (by omega) hr (x:=j-(sa+k)) (by omega)
    rw[e]
    by_cases c:y<sb
    ·exact rA i y hi (by omega) (by omega)
    ·have:=rB sb y (by omega) (by omega) (by omega)
     omega
   ·rw[if_neg j2]
    have:=rB sb j (by omega) (by omega) (by omega)
    omega
 ·rw[if_neg i1,if_neg (show¬j<sa+k by omega)]
  by_cases i2:i<sa+k+r.size
  ·rw[if_pos i2]
   by_cases j2:j<sa+k+r.size
   ·rw[if_pos j2];exact ru _ _ (by omega) (by omega) (by omega)
   ·rw[if_neg j2]
    obtain⟨y,y1,y2,e⟩:=Ci (by omega) (by omega) hr (x:=i-(sa+k)) (by omega)
    rw[e]
    by_cases c:y<sb
    ·have a1:=rA y (sb-1) (by omega) (by omega) (by omega)
     have a2:=g2 (j-sb) (by omega) (by omega)
     rw[show sb+(j-sb)=j by omega] at a2
     omega
    ·exact rB y j (by omega) (by omega) (by omega)
  ·rw[if_neg i2,if_neg (show¬j<sa+k+r.size by omega)];exact rB i j (by omega) hij (by omega)
theorem NU{arr:Array Keyed}{sa sb na nb k k2:Nat}(hA:dc arr)(hs:sb=sa+na)(hk:k<na)(h2:0<k2)(h3:k2<=nb)(hz:sb+nb<=arr.size)(rA:Ra arr sa (sa+na))(rB:Ra arr sb (sb+nb))
  (g1:kz arr sb<=kz arr (sa+k)) (g2:∀x<k2,kz arr (sb+x)<=kz arr (sb-1)):Mp (arr.extract (sa+k) sb) (arr.extract sb (sb+k2)):=by
 have s1:(arr.extract (sa+k) sb).size=sb-(sa+k):=by rw[eB];omega
 have s2:(arr.extract sb (sb+k2)).size=k2:=by rw[eB];omega
 refine⟨fun i j h0 hij hj=>?_,fun i j h0 hij hj=>?_,hA.ext _ _,hA.ext _ _,?_,fun y hy=>?_⟩
 ·rw[c7 (by omega) (by omega),c7 (by omega) (by omega)];exact rA _ _ (by omega) (by omega) (by omega)
 ·rw[c7 (by omega) (by omega),c7 (by omega) (by omega)];exact rB _ _ (by omega) (by omega) (by omega)
 ·rw[c7 (by omega) (by omega),c7 (by omega) (by omega)];exact g1
 ·rw[c7 (by omega) (by omega),c7 (by omega) (by omega),s1,show sa+k+(sb-(sa+k)-1)=sb-1 by omega];exact g2 y (by omega)
def RU(st:SortSt):Prop:=∀v∈(pendingOf st).toList,Ra (arrOf st) v.1 (v.1+v.2.1)
theorem Hi{key:Keyed}{v:Int}:bJ false key v↔v<=kd key:=by unfold bJ;rw[if_neg bz]
theorem Hh{key:Keyed}{v:Int}:bJ true key v↔v<kd key:=by unfold bJ;rw[if_pos rfl]
theorem rF{a:Array Keyed}{i j:Nat}{h:i<a.size}(e:i=j):kd a[i]=kz a j:=by subst e;exact(c9 h).symm
section
variable{prog:Program}{w:World}{A:Around}{E:Value->Shared->Prop}{s:Shared}{st:SortSt}{a₀:Array Keyed}{lo:Nat}
theorem vA{i:Nat}{Q:Bool->SortSt->Prop}(hA:dc a₀)(hI:SI a₀ lo st)(hU:RU st)(hlo:lo<=a₀.size)(hi:i+1<(pendingOf st).size)(h:∀st',SI a₀ lo st'->RU st'->(∀x,lo<=x->kz (arrOf st') x=kz (arrOf st) x)->(pendingOf st').size+1=(pendingOf st).size->Q true st'):wpS (model prog w) A E s (mergeAt' i) Q st:=by
 rw[N8]
 refine wpS_bind (wpS_get ?_)
 obtain⟨⟨sa,na,pw⟩,e1⟩:∃v,(pendingOf st)[i]?=some v:=⟨_,getElem?_pos _ i (by omega)⟩
 obtain⟨⟨sb,nb,kD⟩,e2⟩:∃v,(pendingOf st)[i+1]?=some v:=⟨_,getElem?_pos _ (i+1) hi⟩
 rw[e1,e2]
 dsimp only
 have hs:=hI.size
 have l1:(pendingOf st).toList[i]?=some (sa,na,pw):=by rw[gz];exact e1
 have l2:(pendingOf st).toList[i+1]?=some (sb,nb,kD):=by rw[gz];exact e2
 obtain⟨b1,b2,b3,b4,b5⟩:=hI.ch.two l1 l2
 have hap:=hI.ch.apart l1 l2
 have rA:Ra (arrOf st) sa (sa+na):=hU _ (bZ l1)
 have rB:Ra (arrOf st) sb (sb+nb):=hU _ (bZ l2)
 have l6:=hA.perm hI.perm
 refine wpS_bind (LD ?_)
 have hp2:(((pendingOf st).setIfInBounds i (sa,na+nb,pw)).eraseIdxIfInBounds (i+1)).toList=((pendingOf st).toList.set i (sa,na+nb,pw)).eraseIdx (i+1):=by
  rw[Array.toList_eraseIdxIfInBounds,Ek]
 have hsz:(((pendingOf st).setIfInBounds i (sa,na+nb,pw)).eraseIdxIfInBounds (i+1)).size+1=(pendingOf st).size:=by
  rw[<-cF,hp2,v7 (by rw[fM];simpa using hi),fM,cF]
  omega
 have I2:SI a₀ lo (setPending st (((pendingOf st).setIfInBounds i (sa,na+nb,pw)).eraseIdxIfInBounds (i+1))):=⟨hI.perm,hI.kind,hI.failed,by show Ch (((pendingOf st).setIfInBounds i (sa,na+nb,pw)).eraseIdxIfInBounds (i+1)).toList 0 lo;rw[hp2];exact b5⟩
 have Eu:Ra (arrOf st) sa (sa+(na+nb))->RU (setPending st (((pendingOf st).setIfInBounds i (sa,na+nb,pw)).eraseIdxIfInBounds (i+1))):=fun hr v hv=>by
  have hv':v∈((pendingOf st).toList.set i (sa,na+nb,pw)).eraseIdx (i+1):=by rw[<-hp2];exact hv
  show Ra (arrOf st) v.1 (v.1+v.2.1)
  rcases hap v hv' with rfl|⟨hm,_⟩
  ·exact hr
  ·exact hU v hm
 refine wpS_bind (kU (by omega) ?_)
 refine wpS_bind (zV I2.kind (l6.at _) l6 (by omega) rA (by omega) fun k hk g1 lH=>?_)
 have G1:∀x<k,kz (arrOf st) (sa+x)<=kz (arrOf st) sb:=fun x hx=>by have:=Hi.mp (g1 x hx);rwa[rF rfl] at this
 have LA:∀x,k<=x->x<na->kz (arrOf st) sb<=kz (arrOf st) (sa+x):=fun x h1 h2=>Int.le_of_lt (Int.not_le.mp fun z=>lH x h1 h2 (Hi.mpr (by rw[rF rfl];exact z)))
 dsimp only
 refine jJ (fun c=>wpS_pure (h _ I2 (Eu fun x y hx hxy hy=>?_) (fun _ _=>rfl) hsz)) (fun c=>?_)
 ·by_cases y1:y<sa+na
  ·exact rA x y hx hxy y1
  ·by_cases x1:x<sa+na
   ·have a1:=G1 (x-sa) (by omega)
    rw[show sa+(x-sa)=x by omega] at a1
    have a2:=rB sb y (by omega) (by omega) (by omega)
    omega
   ·exact rB x y (by omega) hxy (by omega)
 refine wpS_bind (kU (by omega) ?_)
 refine wpS_bind (zV I2.kind (l6.at _) l6 (by omega) rB (by omega) fun k2 hk2 g2 Jb=>?_)
 have G2:∀x<k2,kz (arrOf st) (sb+x)<=kz (arrOf st) (sb-1):=fun x hx=>by have:=Hh.mp (g2 x hx);rw[rF (j:=sb-1) (by omega)] at this;omega
 have yg:∀x,k2<=x->x<nb->kz (arrOf st) (sb-1)<=kz (arrOf st) (sb+x):=fun x h1 h2=>Int.not_lt.mp fun z=>Jb x h1 h2 (Hh.mpr (by rw[rF (j:=sb-1) (by omega)];exact z))
 dsimp only
 refine jJ (fun c=>wpS_pure (h _ I2 (Eu fun x y hx hxy hy=>?_) (fun _ _=>rfl) hsz)) (fun c2=>?_)
 ·by_cases y1:y<sa+na
  ·exact rA x y hx hxy y1
  ·by_cases x1:x<sa+na
   ·have a1:=rA x (sb-1) (by omega) (by omega) (by omega)
    have a2:=yg (y-sb) (by omega) (by omega)
    rw[show sb+(y-sb)=y by omega] at a2
    omega
   ·exact rB x y (by omega) hxy (by omega)
 have fin:∀(r:Array Keyed) (st':SortSt),ef (setPending st (((pendingOf st).setIfInBounds i (sa,na+nb,pw)).eraseIdxIfInBounds (i+1))) st'->r.toList.Perm (((arrOf st).extract (sa+k) sb).toList++((arrOf st).extract sb (sb+k2)).toList)->cz r->
   wpS (model prog w) A E s (do modify fun s=>setArr s (r.toList.zipIdx.foldl (fun a (p,j)=>a.setIfInBounds (sa+k+j) p) (arrOf s));return (failedOf (<-get)).isNone) Q st':=fun r st' S hr ru=>by
  obtain⟨q1,q2,q3,q4⟩:=S
  refine wpS_bind (wpS_modify (wpS_bind (wpS_get (wpS_pure ?_))))
  have hf:failedOf st'=none:=q4.trans hI.failed
  show Q (failedOf st').isNone _
  rw[hf]
  have e:arrOf st'=arrOf st:=q2
  refine h _ ⟨?_,q1.trans hI.kind,q4.trans hI.failed,?_⟩ ?_ ?_ ?_
  ·show(r.toList.zipIdx.foldl (fun(a:Array Keyed) (pj:Keyed×Nat)=>a.setIfInBounds (sa+k+pj.2) pj.1) (arrOf st')).toList.Perm a₀.toList
   rw[e]
   exact(MY (by omega) (by omega) hr).trans hI.perm
  ·show Ch (pendingOf st').toList 0 lo
   rw[q3];exact I2.ch
  ·obtain⟨hl,hup⟩:=BI b1 (by omega) (by omega) hk2 (by omega) rA rB G1 yg hr ru
   intro v hv
   have hv1:v∈(pendingOf st').toList:=hv
   rw[q3] at hv1
   have hv':v∈((pendingOf st).toList.set i (sa,na+nb,pw)).eraseIdx (i+1):=by rw[<-hp2];exact hv1
   show Ra (pF (arrOf st') r (sa+k)) v.1 (v.1+v.2.1)
   rw[e]
   rcases hap v hv' with rfl|⟨hm,hd⟩
   ·exact hup
   ·intro x y hx hxy hy
    rw[pJ (by omega),pJ (by omega)]
    have:=hU v hm x y hx hxy hy
    rcases hd with hd|hd
    ·rw[if_pos (by omega),if_pos (by omega)];exact this
    ·rw[if_neg (by omega),if_neg (by omega),if_neg (by omega),if_neg (by omega)];exact this
  ·obtain⟨hl,hup⟩:=BI b1 (by omega) (by omega) hk2 (by omega) rA rB G1 yg hr ru
   intro x hx
   show kz (pF (arrOf st') r (sa+k)) x=_
   rw[e,pJ (by omega),if_neg (by omega),if_neg (by omega)]
  ·show(pendingOf st').size+1=_
   rw[q3];exact hsz
 have hmp:=NU l6 b1 (show k<na by omega) (show 0<k2 by omega) hk2 (by omega) rA rB (LA k (aA _) (by omega)) G2
 refine gc (fun c3=>wpS_bind ?_) (fun c3=>wpS_bind ?_)
 ·exact KA I2.kind hmp (by rw[eB];omega) (by rw[eB];omega) fin
 ·exact NR I2.kind hmp (by rw[eB];omega) (by rw[eB];omega) fin
end
end L2
set_option maxRecDepth 100000
set_option maxHeartbeats 4000000
namespace L2
open PySem PySem.Spec PyProof.Rows
theorem DV{a:Array Keyed}{i j:Nat}(hj:j<=a.size)(x:Nat):kz (mirror a i j ((j-i)/2)) x=if i<=x/\x<j then kz a (i+j-1-x) else kz a x:=by
 unfold kz
 rw[getElem?_mirror hj _ (by omega)]
 by_cases c:i<=x/\x<j
 ·rw[if_pos c]
  by_cases c2:(i<=x/\x<i+(j-i)/2)\/(j-(j-i)/2<=x/\x<j)
  ·rw[if_pos c2]
  ·rw[if_neg c2,show i+j-1-x=x by omega]
 ·rw[if_neg c,if_neg (by omega)]
theorem Ib{a:Array Keyed}{src d:Nat}(hs:src<a.size)(hd:d<=src)(x:Nat):kz (bubble a src d) x=if x=src-d then kz a src else if src-d<x/\x<=src then kz a (x-1) else kz a x:=by
 unfold kz
 rw[getElem?_bubble hs d hd]
 by_cases c:x=src-d
 ·rw[if_pos c,if_pos c]
 ·rw[if_neg c,if_neg c]
  by_cases c2:src-d<x/\x<=src
  ·rw[if_pos c2,if_pos c2]
  ·rw[if_neg c2,if_neg c2]
section
variable{prog:Program}{w:World}{A:Around}{E:Value->Shared->Prop}{s:Shared}{st:SortSt}{a₀:Array Keyed}{lo:Nat}
theorem qz{i j:Nat}{α:Type}{f:Option Bool->StateT SortSt Sem α}{Q:α->SortSt->Prop}(hA:dc a₀)(hI:SI a₀ lo st)(hi:i<a₀.size)(hj:j<a₀.size)(h1:kz (arrOf st) i<kz (arrOf st) j->wpS (model prog w) A E s (f (some true)) Q st)(h2:kz (arrOf st) j<=kz (arrOf st) i->wpS (model prog w) A E s (f (some false)) Q st):wpS (model prog w) A E s (ltAt' i j>>=f) Q st:=by
 have hs:=hI.size
 have l6:=hA.perm hI.perm
 refine wpS_bind ?_
 rw[ltAt'_eq]
 refine wpS_bind (wpS_get ?_)
 refine wpS_bind (kU (by omega) (wpS_bind (kU (by omega) ?_)))
 rw[c9 (by omega),c9 (by omega)] at h1 h2
 exact uo hI.kind (l6.at _) (l6.at _) h1 h2
structure Kq(a₀:Array Keyed)(lo at_:Nat)(st st':SortSt):Prop where
 si:SI a₀ lo st'
 pd:pendingOf st'=pendingOf st
 sm:∀x<at_,kz (arrOf st') x=kz (arrOf st) x
theorem Kq.refl{at_:Nat}(h:SI a₀ lo st):Kq a₀ lo at_ st st:=⟨h,rfl,fun _ _=>rfl⟩
theorem qX{at_ i j:Nat}{st1:SortSt}{α:Type}{f:Unit->StateT SortSt Sem α}{Q:α->SortSt->Prop}(hK:Kq a₀ lo at_ st st1)(hi:at_<=i)(hj:j<=a₀.size)(h:∀st',Kq a₀ lo at_ st st'->(∀x,kz (arrOf st') x=if i<=x/\x<j then kz (arrOf st1) (i+j-1-x) else kz (arrOf st1) x)->wpS (model prog w) A E s (f ()) Q st'):wpS (model prog w) A E s (reverseSlice' i j>>=f) Q st1:=by
 have hs:=hK.si.size
 refine wpS_bind ?_
 rw[reverseSlice'_eq]
 refine wpS_modify (h _ ⟨hK.si.arr (mirror_perm _ _ _ _),hK.pd,fun x hx=>?_⟩ fun x=>DV (by omega) x)
 show kz (mirror (arrOf st1) i j ((j-i)/2)) x=_
 rw[DV (by omega),if_neg (by omega)]
 exact hK.sm x hx
theorem vJ{at_ a nrem:Nat}{α:Type}{Q:Option (Option α)×Nat->SortSt->Prop}(hA:dc a₀)(hI:SI a₀ lo st)(hn:at_+nrem<=a₀.size)(ha:1<=a)(han:a<=nrem)(hR:Ra (arrOf st) at_ (at_+a))(h:∀n,a<=n->n<=nrem->Ra (arrOf st) at_ (at_+n)->(n<nrem->kz (arrOf st) (at_+n)<kz (arrOf st) (at_+n-1))->Q (none,n) st):
  wpS (model prog w) A E s (forIn [a:nrem] ((none,a):Option (Option α)×Nat) fun _ __s=>do
   let __x<-ltAt' (at_+__s.snd) (at_+__s.snd-1)
   match __x with
   |some smaller=>if smaller=true then pure (ForInStep.done (none,__s.snd)) else pure (ForInStep.yield (none,__s.snd+1))
   |_=>pure (ForInStep.done (some none,__s.snd))) Q st:=by
 refine wpS_forRange (I:=fun x c st'=>st'=st/\c=(none,x)/\Ra (arrOf st) at_ (at_+x)) ?_ ?_ ⟨rfl,rfl,hR⟩
 ·rintro x c st' hax hxn ⟨rfl,rfl,hr⟩
  dsimp only
  refine qz hA hI (by omega) (by omega) (fun b=>?_) (fun b=>?_)
  ·exact mZ (wpS_pure (h x hax (by omega) hr fun _=>b))
  ·refine mK (wpS_pure ⟨rfl,rfl,fun i j h1 h2 h3=>?_⟩)
   by_cases c:j<at_+x
   ·exact hr i j h1 h2 c
   ·rw[show j=at_+x by omega]
    by_cases c2:i<at_+x
    ·have:=hr i (at_+x-1) h1 (by omega) (by omega)
     omega
    ·rw[show i=at_+x by omega];omega
 ·rintro c st' ⟨rfl,rfl,hr⟩
  rw[show max a nrem=nrem by omega] at hr⊢
  exact h nrem han (aA _) hr fun z=>absurd z (by omega)
def Fe(a:Array Keyed)(lo hi q:Nat):Prop:=(∀i j,lo<=i->i<=j->j<hi->kz a j<=kz a i)/\lo+q+1<=hi/\∀x,hi-(q+1)<=x->x<hi->kz a x=kz a (hi-1)
theorem Fe.rev{a a':Array Keyed}{lo hi q:Nat}(h:Fe a lo hi q)(e:∀x,kz a' x=if hi-(q+1)<=x/\x<hi then kz a (hi-(q+1)+hi-1-x) else kz a x):∀x,kz a' x=kz a x:=fun x=>by
 rw[e x]
 obtain⟨h1,h2,h3⟩:=h
 by_cases c:hi-(q+1)<=x/\x<hi
 ·rw[if_pos c,h3 x c.1 c.2];exact h3 _ (by omega) (by omega)
 ·rw[if_neg c]
theorem Fe.same{a a':Array Keyed}{lo hi q:Nat}(h:Fe a lo hi q)(e:∀x,kz a' x=kz a x):Fe a' lo hi q:=⟨fun i j a b c=>by rw[e,e];exact h.1 i j a b c,h.2.1,fun x a b=>by rw[e,e];exact h.2.2 x a b⟩
theorem Fe.less{a:Array Keyed}{lo hi q:Nat}(h:Fe a lo hi q)(c:kz a hi<kz a (hi-1)):Fe a lo (hi+1) 0:=by
 obtain⟨h1,h2,h3⟩:=h
 refine⟨fun i j a1 a2 a3=>?_,by omega,fun x a1 a2=>by rw[show x=hi+1-1 by omega]⟩
 by_cases c1:j<hi
 ·exact h1 i j a1 a2 c1
 ·rw[show j=hi by omega]
  by_cases c2:i<hi
  ·have:=h1 i (hi-1) a1 (by omega) (by omega);omega
  ·rw[show i=hi by omega];omega
theorem Fe.RJ{a:Array Keyed}{lo hi q:Nat}(h:Fe a lo hi q)(c1:kz a (hi-1)<=kz a hi)(c2:kz a hi<=kz a (hi-1)):Fe a lo (hi+1) (q+1):=by
 obtain⟨h1,h2,h3⟩:=h
 refine⟨fun i j a1 a2 a3=>?_,by omega,fun x a1 a2=>?_⟩
 ·by_cases c1:j<hi
  ·exact h1 i j a1 a2 c1
  ·rw[show j=hi by omega]
   by_cases c2:i<hi
   ·have:=h1 i (hi-1) a1 (by omega) (by omega);omega
   ·rw[show i=hi by omega];omega
 ·rw[show hi+1-1=hi by omega]
  by_cases c:x<hi
  ·rw[h3 x (by omega) c];omega
  ·rw[show x=hi by omega]
theorem Fe.up{a a':Array Keyed}{lo hi q:Nat}(h:Fe a lo hi q)(e:∀x,kz a' x=if lo<=x/\x<hi then kz a (lo+hi-1-x) else kz a x):Ra a' lo hi:=fun i j h1 h2 h3=>by
 rw[e,e,if_pos (by omega),if_pos (by omega)]
 exact h.1 _ _ (by omega) (by omega) (by omega)
theorem NZ{at_ nrem:Nat}{Q:Option Nat->SortSt->Prop}(hA:dc a₀)(hI:SI a₀ lo st)(hn:at_+nrem<=a₀.size)(h1:1<=nrem)(h:∀m st',Kq a₀ lo at_ st st'->1<=m->m<=nrem->Ra (arrOf st') at_ (at_+m)->Q (some m) st'):wpS (model prog w) A E s (countRun' at_ nrem) Q st:=by
 rw[countRun'_eq]
 have K0:Kq a₀ lo at_ st st:= .refl hI
 refine wpS_bind (vJ hA hI hn (aA 1) h1 (fun i j a b c=>by rw[show i=j by omega];omega) fun n n1 n2 hr hlt=>?_)
 dsimp only
 refine jJ (fun c=>wpS_pure (h n st K0 n1 n2 hr)) (fun c=>?_)
 have hlt:=hlt (by omega)
 refine gc (fun c2=>qz hA hI (by omega) (by omega) (fun b=>mZ (wpS_pure (h n st K0 n1 n2 hr))) fun b=>mK (qX K0 (aA _) (by omega) fun st1 K1 e1=>?_)) (fun c2=>?_)
 rotate_left
 have K1:=K0
 have F1:Fe (arrOf st) at_ (at_+(n+1)) 0:=by
  refine Fe.less (hi:=at_+n) (q:=0) ⟨fun i j a b c=>by rw[show i=j by omega];omega,by omega,fun x a b=>by rw[show x=at_+n-1 by omega]⟩ hlt
 rotate_left
 have F1:Fe (arrOf st1) at_ (at_+(n+1)) 0:=by
  have al:∀i j,at_<=i->i<at_+n->at_<=j->j<at_+n->kz (arrOf st) i=kz (arrOf st) j:=fun i j a b c d=>by
   have x1:=hr at_ i (aA _) a b
   have x2:=hr at_ j (aA _) c d
   have x3:=hr i (at_+n-1) a (by omega) (by omega)
   have x4:=hr j (at_+n-1) c (by omega) (by omega)
   omega
  have el:∀x,kz (arrOf st1) x=kz (arrOf st) x:=fun x=>by
   rw[e1 x]
   by_cases c:at_<=x/\x<at_+n
   ·rw[if_pos c];exact al _ _ (by omega) (by omega) (by omega) (by omega)
   ·rw[if_neg c]
  refine Fe.less (hi:=at_+n) (q:=0) ⟨fun i j a b c=>?_,by omega,fun x a b=>by rw[show x=at_+n-1 by omega]⟩ (by rw[el,el];exact hlt)
  rw[el,el,al i j a (by omega) (by omega) c];omega
 all_goals
  refine wpS_bind (wpS_lift (wpAny_rule ⟨rfl,?_⟩))
  refine wpS_bind (wpS_mono (wpS_forRange (I:=fun x c st'=>Kq a₀ lo at_ st st'/\∃q,c=(none,x,q)/\Fe (arrOf st') at_ (at_+x) q) (Q:=fun c st'=>Kq a₀ lo at_ st st'/\∃x q,c=(none,x,q)/\1<=x/\x<=nrem/\Fe (arrOf st') at_ (at_+x) q) ?st ?fi ⟨K1,0,rfl,F1⟩) ?po)
  case st=>
   rintro x c st' tY nD ⟨K2,q,rfl,F2⟩
   dsimp only
   refine qz hA K2.si (by omega) (by omega) (fun b=>mZ ?_) (fun b=>mK ?_)
   ·refine gc (fun _=>?_) (fun _=>?_)
    ·refine qX K2 (by have:=F2.2.1;omega) (by omega) fun st3 K3 e3=>wpS_pure ⟨K3,0,rfl,?_⟩
     have e4:=F2.rev e3
     exact(F2.same e4).less (by rw[e4,e4];exact b)
    ·exact wpS_pure ⟨K2,0,rfl,F2.less b⟩
   ·refine qz hA K2.si (by omega) (by omega) (fun b2=>mZ ?_) (fun b2=>mK ?_)
    ·exact wpS_pure ⟨K2,x,q,rfl,by omega,by omega,F2⟩
    ·exact wpS_pure ⟨K2,q+1,rfl,F2.RJ b b2⟩
  case fi=>
   rintro c st' ⟨K2,q,rfl,F2⟩
   exact⟨K2,_,q,rfl,by omega,by omega,F2⟩
  case po=>
   rintro c st' ⟨K2,x,q,rfl,x1,x2,F2⟩
   dsimp only
   refine gc (fun _=>?_) (fun _=>?_)
   ·refine qX K2 (by have:=F2.2.1;omega) (by omega) fun st3 K3 e3=>qX K3 (aA _) (by omega) fun v8 K4 e4=>wpS_bind (vJ hA K4.si hn x1 x2 ((F2.same (F2.rev e3)).up e4) fun m m1 m2 hm _=>wpS_pure (h m v8 K4 (by omega) m2 hm))
   ·refine qX K2 (aA _) (by omega) fun v8 K4 e4=>wpS_bind (vJ hA K4.si hn x1 x2 (F2.up e4) fun m m1 m2 hm _=>wpS_pure (h m v8 K4 (by omega) m2 hm))
end
end L2
set_option maxRecDepth 100000
set_option maxHeartbeats 4000000
namespace L2
open PySem PySem.Spec PyProof.Rows
theorem Ch.len:∀{l:List (Nat×Nat×Nat)} {x y:Nat},Ch l x y->l.length+x<=y
 |[],x,y,h=>by rw[zO];exact mQ (by rw[wX];exact h)
 |(s,n,p)::l,x,y,⟨a,b,c⟩=>by have:=Ch.len c;rw[fP];omega
section
variable{prog:Program}{w:World}{A:Around}{E:Value->Shared->Prop}{s:Shared}{st st':SortSt}{a₀:Array Keyed}{lo:Nat}
theorem Kq.ru(K:Kq a₀ lo lo st st')(hI:SI a₀ lo st)(hU:RU st):RU st':=fun v hv=>by
 rw[K.pd] at hv
 have h1:=hI.ch.lies v hv
 intro x y hx hxy hy
 rw[K.sm x (by omega),K.sm y (by omega)]
 exact hU v hv x y hx hxy hy
theorem RU.push{l n z:Nat}(hU:RU st)(hm:Ra (arrOf st) l (l+n)):RU (setPending st ((pendingOf st).push (l,n,z))):=fun v hv=>by
 have hv':v∈((pendingOf st).push (l,n,z)).toList:=hv
 rw[jy] at hv'
 show Ra (arrOf st) v.1 (v.1+v.2.1)
 rcases cE.mp hv' with h|h
 ·exact hU v h
 ·rw[aC.mp h];exact hm
theorem RU.pw{i:Nat}(hU:RU st)(pw:Nat):RU (setPending st ((pendingOf st).modify i fun x=>(x.1,x.2.1,pw))):=fun v hv=>by
  have hv':v∈((pendingOf st).modify i fun x=>(x.1,x.2.1,pw)).toList:=hv
  rw[wI] at hv'
  show Ra (arrOf st) v.1 (v.1+v.2.1)
  obtain⟨k,hk⟩:=g6 hv'
  rw[List.getElem?_modify] at hk
  cases e:(pendingOf st).toList[k]? with
  |none=>rw[e] at hk;cases hk
  | some u =>
    rw[e] at hk
    have hu:=hU u (bZ e)
    simp only[Option.map_eq_map,Option.map_some,Option.some.injEq] at hk
    by_cases c:i=k
    · rw[if_pos c] at hk;rw[<-hk];exact hu
    · rw[if_neg c] at hk;rw[<-hk];exact hu
theorem RU.all(hU:RU st)(hc:Ch (pendingOf st).toList 0 lo)(h1:(pendingOf st).size<=1):Ra (arrOf st) 0 lo:=by
  rw[<-cF] at h1
  unfold RU at hU
  cases e:(pendingOf st).toList with
  | nil =>
    rw[e] at hc
    have:0=lo:=hc
    intro i j _ _ h;omega
  | cons v r =>
    obtain⟨p,n,z⟩:=v
    rw[e] at h1 hc hU
    have er:r=[]:=by cases r with|nil=>rfl|cons _ _=>simp at h1
    subst er
    obtain⟨a,b,c⟩:=hc
    have c':0+n=lo:=c
    have:=hU (p,n,z) (dB ..)
    dsimp only at this
    rwa[a,c'] at this
theorem LW{at_ n ok:Nat}{Q:Bool->SortSt->Prop}(hA:dc a₀)(hI:SI a₀ lo st)(hn:at_+n<=a₀.size)(SQ:1<=ok)(okn:ok<=n)(hR:Ra (arrOf st) at_ (at_+ok))(h:∀st',Kq a₀ lo at_ st st'->Ra (arrOf st') at_ (at_+n)->Q true st'):wpS (model prog w) A E s (binarySort' at_ n ok) Q st:=by
 rw[binarySort'_eq,show max ok 1=ok by omega]
 refine wpS_bind (wpS_mono (wpS_forRange (I:=fun k c st'=>c=(none,())/\Kq a₀ lo at_ st st'/\Ra (arrOf st') at_ (at_+k)) (Q:=fun c st'=>c=(none,())/\Kq a₀ lo at_ st st'/\Ra (arrOf st') at_ (at_+n)) ?step ?fin ⟨rfl, .refl hI,hR⟩) ?post)
 case fin=>
  rintro c st' ⟨rfl,K2,r2⟩
  rw[show max ok n=n by omega] at r2
  exact⟨rfl,K2,r2⟩
 case post=>
  rintro c st' ⟨rfl,K2,r2⟩
  exact wpS_pure (h st' K2 r2)
 case step=>
  rintro k c st' hk1 hk2 ⟨rfl,K2,r2⟩
  have hs:=K2.si.size
  refine wpS_bind (wpS_mono (wpS_forRange (I:=fun x c st''=>st''=st'/\∃l r,c=(none,l,r)/\r<=k/\l<=r/\r-l+x<=k/\(∀y<l,kz (arrOf st') (at_+y)<=kz (arrOf st') (at_+k))/\∀y,r<=y->y<k->kz (arrOf st') (at_+k)<=kz (arrOf st') (at_+y)) (Q:=fun c st''=>st''=st'/\∃l r,c=(none,l,r)/\l<=k/\(∀y<l,kz (arrOf st') (at_+y)<=kz (arrOf st') (at_+k))/\∀y,l<=y->y<k->kz (arrOf st') (at_+k)<=kz (arrOf st') (at_+y)) ?is ?fi ⟨rfl,0,k,rfl,aA _,eg _,by omega,fun y hy=>absurd hy (by omega),fun y a b=>absurd b (by omega)⟩) ?ip)
  case fi=>
   rintro c st'' ⟨rfl,l,r,rfl,hr,hlr,hx,q1,q2⟩
   exact⟨rfl,l,r,rfl,by omega,q1,fun y a b=>q2 y (by omega) b⟩
  case is=>
   rintro x c st'' _ hx ⟨rfl,l,r,rfl,hr,hlr,hz,q1,q2⟩
   dsimp only
   refine gc (fun c1=>wpS_pure ⟨rfl,l,r,rfl,by omega,q1,fun y a b=>q2 y (by omega) b⟩) (fun c1=>?_)
   refine qz hA K2.si (by omega) (by omega) (fun b=>mZ ?_) (fun b=>mK ?_)
   ·refine wpS_pure ⟨rfl,_,_,rfl,by omega,by omega,by omega,q1,fun y a1 a2=>?_⟩
    have:=r2 (at_+(l+r)/2) (at_+y) (by omega) (by omega) (by omega)
    omega
   ·refine wpS_pure ⟨rfl,_,_,rfl,hr,by omega,by omega,fun y a1=>?_,q2⟩
    have:=r2 (at_+y) (at_+(l+r)/2) (by omega) (by omega) (by omega)
    omega
  case ip=>
   rintro c st'' ⟨rfl,l,r,rfl,hr,q1,q2⟩
   show wpS _ _ _ _ (do moveDown' (at_+k) (at_+l);pure (ForInStep.yield (none,()))) _ _
   rw[moveDown'_eq]
   have eb:∀x,kz (bubble (arrOf st'') (at_+k) (at_+k-(at_+l))) x=if x=at_+l then kz (arrOf st'') (at_+k) else if at_+l<x/\x<=at_+k then kz (arrOf st'') (x-1) else kz (arrOf st'') x:=fun x=>by
    rw[Ib (by omega) (by omega),show at_+k-(at_+k-(at_+l))=at_+l by omega]
   refine wpS_bind (wpS_modify (wpS_pure ⟨rfl,⟨K2.si.arr (bubble_perm _ _ _),K2.pd,fun x hx=>?_⟩,fun i j h1 h2 h3=>?_⟩))
   ·show kz (bubble (arrOf st'') (at_+k) (at_+k-(at_+l))) x=_
    rw[eb,if_neg (by omega),if_neg (by omega)]
    exact K2.sm x hx
   ·show kz (bubble (arrOf st'') (at_+k) (at_+k-(at_+l))) i<=kz (bubble (arrOf st'') (at_+k) (at_+k-(at_+l))) j
    rw[eb,eb]
    by_cases i1:i=at_+l
    ·rw[if_pos i1]
     by_cases j1:j=at_+l
     ·rw[if_pos j1];omega
     ·rw[if_neg j1,if_pos (by omega)]
      have:=q2 (j-1-at_) (by omega) (by omega)
      rwa[show at_+(j-1-at_)=j-1 by omega] at this
    ·rw[if_neg i1]
     by_cases i2:at_+l<i/\i<=at_+k
     ·rw[if_pos i2,if_neg (show¬j=at_+l by omega),if_pos (show at_+l<j/\j<=at_+k by omega)]
      exact r2 _ _ (by omega) (by omega) (by omega)
     ·rw[if_neg i2]
      by_cases j1:j=at_+l
      ·rw[if_pos j1]
       have:=q1 (i-at_) (by omega)
       rwa[show at_+(i-at_)=i by omega] at this
      ·rw[if_neg j1]
       by_cases j2:at_+l<j/\j<=at_+k
       ·rw[if_pos j2];exact r2 _ _ (by omega) (by omega) (by omega)
       ·rw[if_neg j2];exact r2 _ _ (by omega) (by omega) (by omega)
theorem Mm{Q:Unit->SortSt->Prop}(hA:dc a₀)(hI:SI a₀ 0 st)(hU:RU st)(h:∀st',(arrOf st').toList.Perm a₀.toList->Ra (arrOf st') 0 a₀.size->failedOf st'=none->Q () st'):wpS (model prog w) A E s sortRuns' Q st:=by
  rw[sortRuns'_eq]
  refine wpS_bind (wpS_get ?_)
  dsimp only
  have hs:=hI.size
  rw[hs]
  refine wpS_bind (wpS_mono (wpS_forRange (I:=fun x c st'=>∃l,c=(none,l)/\(SI a₀ l st'/\RU st')/\l<=a₀.size/\(x<=l\/l=a₀.size)) (Q:=fun c st'=>c=(none,a₀.size)/\SI a₀ a₀.size st'/\RU st') ?step ?fin ⟨0,rfl,⟨hI,hU⟩,by omega, .inl (aA _)⟩) ?post)
  case fin=>
    rintro c st' ⟨l,rfl,I2,h1,h2⟩
    have:l=a₀.size:=by omega
    subst this
    exact⟨rfl,I2.1,I2.2⟩
  case step=>
    rintro x c st' _ hx ⟨l,rfl,I2,h1,h2⟩
    dsimp only
    refine gc (fun c1=>?_) (fun c1=>?_)
    · have:l=a₀.size:=by omega
      subst this
      exact wpS_pure ⟨rfl,I2.1,I2.2⟩
    refine wpS_bind (NZ hA I2.1 (by omega) (by omega) fun m st2 K3 m1 m2 hm=>?_)
    have I3:SI a₀ l st2/\RU st2:=⟨K3.si,K3.ru I2.1 I2.2⟩
    dsimp only
    refine gc (fun c2=>wpS_bind (wpS_lift (wpAny_rule ⟨rfl,wpS_bind (LW (n:=min (a₀.size-l) (minRun' a₀.size a₀.size 0)) hA I3.1 (by omega) m1 (by omega) hm fun st3 K4 hm=>?_)⟩))) (fun c2=>?_)
    · have I4:SI a₀ l st3/\RU st3:=⟨K4.si,K4.ru I3.1 I3.2⟩
      simp only[ql,gq,if_false]
      have n1:1<=min (a₀.size-l) (minRun' a₀.size a₀.size 0):=by omega
      have n2:min (a₀.size-l) (minRun' a₀.size a₀.size 0)<=a₀.size-l:=by omega
      generalize min (a₀.size-l) (minRun' a₀.size a₀.size 0)=n at n1 n2 hm⊢
      refine wpS_bind (wpS_get ?_)
      cases hb:(pendingOf st3).back? with
      | none =>
        dsimp only
        refine wpS_bind (wpS_modify (wpS_pure ⟨l+n,rfl,⟨⟨I4.1.perm,I4.1.kind,I4.1.failed,?_⟩,I4.2.push hm⟩,by omega,by omega⟩))
        show Ch ((pendingOf st3).push (l,n,0)).toList 0 (l+n)
        rw[jy]
        exact Ch.append.mpr ⟨l,I4.1.ch,rfl,n1,rfl⟩
      | some v =>
        obtain⟨s1,k1,P5⟩:=v
        dsimp only
        generalize power' a₀.size (2*s1+k1) (2*s1+k1+k1+n) a₀.size=pw
        refine wpS_bind (wpS_mono (wpS_forRange (I:=fun y c st'=>c=(none,())/\SI a₀ l st'/\RU st'/\Ra (arrOf st') l (l+n)) (Q:=fun c st'=>c=(none,())/\SI a₀ l st'/\RU st'/\Ra (arrOf st') l (l+n)) ?is (fun c st' z=>z) ⟨rfl,I4.1,I4.2,hm⟩) ?ip)
        case is=>
          rintro y c st'' _ _ ⟨rfl,I5⟩
          refine wpS_bind (wpS_get ?_)
          by_cases c5:(pendingOf st'').size>1
          · rw[if_pos c5]
            obtain⟨⟨q1,q2,q3⟩,eq⟩:∃v,(pendingOf st'')[(pendingOf st'').size-2]?=some v:=⟨_,getElem?_pos _ _ (by omega)⟩
            rw[eq]
            dsimp only
            refine gc (fun _=>wpS_pure ⟨rfl,I5⟩) (fun _=>?_)
            refine wpS_bind (vA hA I5.1 I5.2.1 h1 (by omega) fun EH I6 U6 E6 _=>?_)
            simp only[ql,gq,if_false]
            exact wpS_pure ⟨rfl,I6,U6,fun x y h1 h2 h3=>by rw[E6 x (by omega),E6 y (by omega)];exact I5.2.2 x y h1 h2 h3⟩
          · rw[if_neg c5];exact wpS_pure ⟨rfl,I5⟩
        case ip=>
          rintro c st'' ⟨rfl,I5⟩
          dsimp only
          refine wpS_bind (wpS_modify (wpS_bind (wpS_modify (wpS_pure ⟨l+n,rfl,⟨⟨I5.1.perm,I5.1.kind,I5.1.failed,?_⟩,(I5.2.1.pw pw).push I5.2.2⟩,by omega,by omega⟩))))
          show Ch (((pendingOf st'').modify ((pendingOf st'').size-1) fun x=>(x.1,x.2.1,pw)).push (l,n,0)).toList 0 (l+n)
          rw[jy,wI]
          exact Ch.append.mpr ⟨l,Ch.pw (f:=fun x=>(x.1,x.2.1,pw)) (fun v=>⟨rfl,rfl⟩) I5.1.ch,rfl,n1,rfl⟩
    · have I4:=I3
      have n1:=m1
      have n2:=m2
      generalize m=n at n1 n2 hm⊢
      generalize st2=st3 at I4 hm⊢
      refine wpS_bind (wpS_get ?_)
      cases hb:(pendingOf st3).back? with
      | none =>
        dsimp only
        refine wpS_bind (wpS_modify (wpS_pure ⟨l+n,rfl,⟨⟨I4.1.perm,I4.1.kind,I4.1.failed,?_⟩,I4.2.push hm⟩,by omega,by omega⟩))
        show Ch ((pendingOf st3).push (l,n,0)).toList 0 (l+n)
        rw[jy]
        exact Ch.append.mpr ⟨l,I4.1.ch,rfl,n1,rfl⟩
      | some v =>
        obtain⟨s1,k1,P5⟩:=v
        dsimp only
        generalize power' a₀.size (2*s1+k1) (2*s1+k1+k1+n) a₀.size=pw
        refine wpS_bind (wpS_mono (wpS_forRange (I:=fun y c st'=>c=(none,())/\SI a₀ l st'/\RU st'/\Ra (arrOf st') l (l+n)) (Q:=fun c st'=>c=(none,())/\SI a₀ l st'/\RU st'/\Ra (arrOf st') l (l+n)) ?is (fun c st' z=>z) ⟨rfl,I4.1,I4.2,hm⟩) ?ip)
        case is=>
          rintro y c st'' _ _ ⟨rfl,I5⟩
          refine wpS_bind (wpS_get ?_)
          by_cases c5:(pendingOf st'').size>1
          · rw[if_pos c5]
            obtain⟨⟨q1,q2,q3⟩,eq⟩:∃v,(pendingOf st'')[(pendingOf st'').size-2]?=some v:=⟨_,getElem?_pos _ _ (by omega)⟩
            rw[eq]
            dsimp only
            refine gc (fun _=>wpS_pure ⟨rfl,I5⟩) (fun _=>?_)
            refine wpS_bind (vA hA I5.1 I5.2.1 h1 (by omega) fun EH I6 U6 E6 _=>?_)
            simp only[ql,gq,if_false]
            exact wpS_pure ⟨rfl,I6,U6,fun x y h1 h2 h3=>by rw[E6 x (by omega),E6 y (by omega)];exact I5.2.2 x y h1 h2 h3⟩
          · rw[if_neg c5];exact wpS_pure ⟨rfl,I5⟩
        case ip=>
          rintro c st'' ⟨rfl,I5⟩
          dsimp only
          refine wpS_bind (wpS_modify (wpS_bind (wpS_modify (wpS_pure ⟨l+n,rfl,⟨⟨I5.1.perm,I5.1.kind,I5.1.failed,?_⟩,(I5.2.1.pw pw).push I5.2.2⟩,by omega,by omega⟩))))
          show Ch (((pendingOf st'').modify ((pendingOf st'').size-1) fun x=>(x.1,x.2.1,pw)).push (l,n,0)).toList 0 (l+n)
          rw[jy,wI]
          exact Ch.append.mpr ⟨l,Ch.pw (f:=fun x=>(x.1,x.2.1,pw)) (fun v=>⟨rfl,rfl⟩) I5.1.ch,rfl,n1,rfl⟩
  case post=>
    rintro c st' ⟨rfl,I2,U2⟩
    dsimp only
    refine wpS_bind (wpS_mono (wpS_forRange (I:=fun y c st''=>c=(none,())/\SI a₀ a₀.size st''/\RU st''/\(pendingOf st'').size+y<=a₀.size) (Q:=fun c st''=>c=(none,())/\SI a₀ a₀.size st''/\RU st''/\(pendingOf st'').size<=1) ?is ?fi ⟨rfl,I2,U2,by have:=I2.ch.len;rw[cF] at this;omega⟩) ?ip)
    case fi=>
      rintro c st'' ⟨rfl,I5,U5,z⟩
      exact⟨rfl,I5,U5,by omega⟩
    case is=>
      rintro y c st'' _ _ ⟨rfl,I5,U5,z⟩
      refine wpS_bind (wpS_get ?_)
      refine gc (fun c6=>wpS_pure ⟨rfl,I5,U5,c6⟩) (fun c6=>?_)
      refine wpS_bind (vA hA I5 U5 (aA _) ?_ fun EH I6 U6 _ z6=>?_)
      · exact tR (Nat.add_le_add_right PU 1) (by omega)
      simp only[ql,gq,if_false]
      exact wpS_pure ⟨rfl,I6,U6,by omega⟩
    case ip=>
      rintro c st'' ⟨rfl,I5,U5,z⟩
      exact wpS_pure (h _ I5.perm (U5.all I5.ch z) I5.failed)
end
end L2
set_option maxRecDepth 100000
set_option maxHeartbeats 4000000
namespace L2
open PySem PySem.Spec PyProof.Rows
theorem Ln{vs:List Value}{ns:List Int}(hI:IntsAre vs ns){xs:Array Keyed}(hp:xs.toList.Perm (pairsOf vs).toList)(hr:Ra xs 0 xs.size):
  ∃ns',IntsAre (xs.map (·.2)).toList ns'/\ns'.Perm ns/\ns'.Pairwise (· <= ·):=by
 obtain⟨ns',h1,h2⟩:=OQ hI hp
 refine⟨ns',h1,h2,?_⟩
 have hl:xs.toList.Perm (vs.zip vs):=by rw[<-pairsOf_toList];exact hp
 have e:ns'=xs.toList.map kd:=by
  rw[<-h1.nums,zU,jt]
  refine rQ fun p fF=>?_
  obtain⟨e1,e2⟩:=mem_zip_self (hl.mem_iff.mp fF)
  obtain⟨n,t,e3⟩:=hI.all _ e2
  show numOf p.2=kd p
  unfold kd
  rw[<-e1,e3];rfl
 rw[e,rj]
 intro i j hi hj hij
 rw[List.getElem_map,List.getElem_map]
 rw[ak,cF] at hi hj
 have:=hr i j (eg _) (gH hij) hj
 rw[c9 hi,c9 hj] at this
 simpa using this
section
variable{prog:Program}{w:World}{A:Around}{E:Value->Shared->Prop}{s:Shared}
theorem Pj{a:Addr}{vs:List Value}{ns:List Int}{n:Nat}{P:Fin->Shared->Prop}(ho:s.heap.get? a=some (seqObj "list" vs.toArray n))
  (hI:IntsAre vs ns) (hz:vs.length<=100000)
  (h:∀(out:Array Value) (ns':List Int),IntsAre out.toList ns'->ns'.Perm ns->ns'.Pairwise (· <= ·)->P (.done (.ret .none)) {s with heap:=sortedHeap s.heap a vs out}):
  wpAny (model prog w) A (Builtin.«list.sort» ⟨[.ref a],[]⟩) P E s:=by
 rw[list_sort_plain]
 have hZ:vs.length<=sizeLine:=by rw[sizeLine_eq];omega
 have ha:a<s.heap.objs.size:=aX ho
 refine wpAny_bind (listItems_at ho rfl ?_)
 refine wpAny_bind (listUpdate_at ho rfl ?_ (hsz:=by rw[bT];exact hZ))
 obtain⟨e1,pR⟩:∃e1,(s.heap.update a (Obj.mapSeq fun _=> #[])).get? a=some (seqObj "list" #[] e1):=⟨_,get?_update_seq ho (fun _=> #[])⟩
 refine wpAny_bind (seqEpoch_at pR rfl ?_)
 refine wpAny_bind (wpAny_newTuple ?_)
 refine wpAny_bind (wpAny_newList ?_)
 refine wpAny_holding ?_
 have ho6:(((s.heap.update a (Obj.mapSeq fun _=> #[])).push (seqObj "tuple" vs.toArray 0)).push (seqObj "list" #[] 0)).get? a=some (seqObj "list" #[] e1):=by
  rw[oX _ _ _ (by rw[size_push',mJ];exact bS (gY ha)),oX _ _ _ (by rw[mJ];exact bS ha)]
  exact pR
 show wpAny (model prog w) A _ P E {s with heap:=((s.heap.update a (Obj.mapSeq fun _=> #[])).push (seqObj "tuple" vs.toArray 0)).push (seqObj "list" #[] 0)}
 dsimp only
 have hsz:vs.toArray.size=vs.length:=by simp
 have fin:∀st':SortSt,(arrOf st').toList.Perm (pairsOf vs).toList->Ra (arrOf st') 0 (pairsOf vs).size->
   P (.done (.ret .none)) {s with heap:=sortedHeap s.heap a vs ((arrOf st').map (·.2))}:=by
  intro st' hp hr
  have e:=hp.length_eq
  rw[cF,cF] at e
  obtain⟨ns',h1,h2,h3⟩:=Ln hI hp (by rw[e];exact hr)
  exact h _ ns' h1 h2 h3
 by_cases h2:vs.toArray.size<2
 ·rw[if_pos h2,if_pos h2]
  refine wpAny_bind (wpAny_pure ?_)
  rw[StateT.run_pure]
  refine wpAny_bind (wpAny_pure ?_)
  dsimp only
  refine wpAny_bind (seqEpoch_at ho6 rfl ?_)
  refine wpAny_bind (listUpdate_at ho6 rfl ?_ (hsz2:=by rw[zK];show(pairsOf vs).size<=_;rw[pairsOf_size,sizeLine_eq];omega))
  simp only[bne_self_eq_false,gq,if_false]
  exact wpAny_pure (fin (SortSt.mk' general' (vs.toArray.zip vs.toArray) #[] 7 none) (wN _) fun i j _ h3 h4=>by
   rw[pairsOf_size] at h4
   have:i=j:=by omega
   rw[this];omega)
 ·rw[if_neg h2,if_neg h2]
  obtain⟨v₁,v₂,rest,rfl⟩:∃v₁ v₂ rest,vs=v₁::v₂::rest:=by
   match vs,hsz,h2 with
   |[],_,h2=>simp at h2
   |[_],_,h2=>simp at h2
   |v₁::v₂::rest,_,_=>exact⟨v₁,v₂,rest,rfl⟩
  rw[keyKind_ints hI]
  refine wpAny_bind (wpAny_pure ?_)
  refine wpAny_bind (wpAny_mono (Mm (a₀:=pairsOf (v₁::v₂::rest)) (st:=SortSt.mk' oneType' ((v₁::v₂::rest).toArray.zip (v₁::v₂::rest).toArray) #[] 7 none)
   (Q:=fun _ st'=>(arrOf st').toList.Perm (pairsOf (v₁::v₂::rest)).toList/\Ra (arrOf st') 0 (pairsOf (v₁::v₂::rest)).size/\failedOf st'=none)
   (IL hI) ⟨wN _,rfl,rfl,rfl⟩ (fun v hv=>by have z:v∈([]:List (Nat×Nat×Nat)):=hv;cases z) fun st' a1 a3 a2=>⟨a1,a3,a2⟩) ?_ fun _ _ e=>e)
  rintro⟨⟨⟩,st'⟩ s' ⟨rfl,hp,hr,hf⟩
  dsimp only
  refine wpAny_bind (seqEpoch_at ho6 rfl ?_)
  refine wpAny_bind (listUpdate_at ho6 rfl ?_ (hsz2:=by
   have:=hp.length_eq
   rw[cF,cF,pairsOf_size] at this
   show((arrOf st').map (·.2)).size<=_
   rw[zK,this]
   omega))
  rw[hf]
  simp only[bne_self_eq_false,gq,if_false]
  exact wpAny_pure (fin st' hp hr)
variable{a:Addr}
end
section
variable{prog:Program}{w:World}{A:Around}{E:Value->Shared->Prop}{s:Shared}
theorem IQ{l:Addr}{vs:List Value}{ns:List Int}{Q:Value->Shared->Prop}(hl:s.heap.IsList l vs.toArray)(hI:IntsAre vs ns)(hz:vs.length<=100000)
  (h:∀(out:Array Value) (ns':List Int),IntsAre out.toList ns'->ns'.Perm ns->ns'.Pairwise (· <= ·)->Q (.ref (s.heap.objs.size+1)) {s with heap:=sortedAll s.heap vs out}):
  wpAny (model prog w) A (call (.builtin "sorted") [.ref l]) Q E s:=by
 have hZ:vs.length<=sizeLine:=by rw[sizeLine_eq];omega
 refine qg kind_sorted plain_sorted entry_sorted (args_sorted1 _) ?_
 unfold Builtin.«sorted»
 refine wpAny_bind (m:=checkCount "sorted" 1 1 _) (wpAny_pure ?_)
 refine wpAny_bind (collect_list hl ?_ (hsz:=hZ))
 refine wpAny_bind (wpAny_newList ?_)
 have hsz:((s.heap.push (seqObj "list" #[] 0)).update s.heap.objs.size (Obj.mapSeq (· ++vs.toArray))).objs.size=s.heap.objs.size+1:=by
  rw[mJ,size_push']
 have jY:(((s.heap.push (seqObj "list" #[] 0)).update s.heap.objs.size (Obj.mapSeq (· ++vs.toArray))).push (seqObj "list" vs.toArray 0)).get? (s.heap.objs.size+1)=some (seqObj "list" vs.toArray 0):=by
  rw[<-hsz];exact dX _ rfl
 show wpAny _ _ _ _ _ {s with heap:=((s.heap.push (seqObj "list" #[] 0)).update s.heap.objs.size (Obj.mapSeq (· ++vs.toArray))).push (seqObj "list" vs.toArray 0)}
 rw[hsz]
 refine wpAny_bind (wpAny_holding (wpAny_call_entry slot_list_sort ⟨_,jY,rfl⟩ entry_list_sort (Pj jY hI hz fun out ns' a1 a2 a3=>⟨_,rfl,?_⟩) (args_list_sort _)))
 exact wpAny_pure ⟨_,rfl,h out ns' a1 a2 a3⟩
end
def xT(K:PySem.W.Frag):List V->Hp->VK->Prop:=fun xs H Q=>∃p,∃ns:List Int,xs=[.ref p]/\aF K H p (ns.map V.int)/\ns.length<=4000/\∀rs:List Int,rs.Perm ns->rs.Pairwise (· <= ·)->∀l,H l=none->Q (.ref l) (upd H l (.lst (rs.map V.int)))
theorem Lc{X:Cx}:eF X (.builtin "sorted") (xT X.K):=by
 intro pins s σ H xs us Q I rv h
 obtain⟨p,ns,rfl,hp,hn,q⟩:=h
 obtain⟨u,rfl,ru⟩:=vals1 rv
 cases ru
 obtain⟨its,rs,il,hz⟩:=I.list hp
 have hI:=qe rs
 have hlen:=hI.length
 refine IQ (vs:=its) il.isList hI (by omega) fun out ns' h1 h2 h3=>?_
 obtain⟨e,ge⟩:=sortedAll_at s.heap its out
 have new:bB X.prog X.w (upd H (s.heap.objs.size+1) (.lst (ns'.map V.int))) (sortedAll s.heap its out) (s.heap.objs.size+1) (.lst (ns'.map V.int)):=by
  refine⟨?_,out.toList,e,pT h1,by simpa using ge⟩
  rw[ak,h2.length_eq];exact cL hn (by decide)
 exact⟨.ref (s.heap.objs.size+1),_,I.laid (t':=s.toks) (fun b o z=>sortedAll_old z) (iD _) new,rfl,q _ h2 h3 _ (I.hok.fresh (iD _))⟩
theorem ay.RN{G:Gx}{ρ:Rh}{te:TE}{K:PySem.W.Frag}{Θ:Bool->List PyData->Prop}(h:Ev G ρ te fun _ x=>∃ns:List Int,x= .list (ns.map .int)/\ns.length<=4000/\∀rs:List Int,rs.Perm ns->rs.Pairwise (· <= ·)->Θ true (rs.map .int)):
  ay G ρ (dw (xT K) (aK te aQ)) Θ:=fun nb σ H Q W z=>
 h nb σ H _ W fun f v H1 x ⟨ns,ex,hn,q⟩ s1 hv=>by
  subst ex
  obtain⟨a,xs,rfl,na,hx,hd⟩:=hv.cG
  have e:=kN hd
  subst e
  refine⟨a,ns,rfl, .of hx,hn,fun rs hp hu l hl=>?_⟩
  exact ay.fin (f:=true) W s1 hl (lI rs) (q rs hp hu) z
end L2
set_option maxRecDepth 100000
set_option maxHeartbeats 4000000
namespace L2
open PySem PySem.Spec PyProof.Rows
def Ej:List V->Hp->VK->Prop:=fun xs H Q=>∃j:Int,xs=[.int j]/\∀a,H a=none->Q (.ref a) (upd H a (.lF 0 j))
def CI:List V->Hp->VK->Prop:=fun xs H Q=>∃(a:Addr) (lo hi:Int),xs=[.ref a]/\H a=some (.lF lo hi)/\(-10000<=lo/\lo<=10000/\ -10000<=hi/\hi<=10000)/\∀l,H l=none->Q (.ref l) (upd H l (.lst (((List.range (hi-lo).toNat).map fun(i:Nat)=>lo+(i:Int)).map V.int)))
def Jw(K:PySem.W.Frag):List V->Hp->VK->Prop:=fun xs H Q=>∃p,∃ns:List Int,xs=[.ref p]/\aF K H p (ns.map V.int)/\Q (.int ns.sum) H
def xR(K:PySem.W.Frag):List V->Hp->VK->Prop:=fun xs H Q=>∃p,∃bs:List Bool,xs=[.ref p]/\aF K H p (bs.map V.bl)/\Q (.bl (bs.all id)) H
section
variable{X:Cx}
theorem Hy:eF X (.type "range") Ej:=by
 intro pins s σ H xs us Q I rv h
 obtain⟨j,rfl,q⟩:=h
 obtain⟨u,rfl,ru⟩:=vals1 rv
 obtain⟨t,rfl⟩:=ru
 refine call_range_1 ?_
 exact⟨.ref s.heap.objs.size,_,I.laid (t':=s.toks+1+1) (o:= .lF 0 j) (fun b o e=>bC _ e) (aA _) ⟨_,_,_,dX _ rfl⟩,rfl,q _ (I.hok.fresh (aA _))⟩
theorem DH(hc:X.calm=true):eF X (.type "list") CI:=by
  intro pins s σ H xs us Q I rv h
  obtain⟨a,lo,hi,rfl,hH,hb,q⟩:=h
  obtain⟨u,rfl,ru⟩:=vals1 rv
  cases ru
  obtain⟨t,u,v,e⟩:=(show bB X.prog X.w H s.heap a (.lF lo hi) from I.hok a _ hH)
  refine call_list_range (n:=(hi-lo).toNat) (I.ok.hd hc) (show IsRange s.heap a lo hi 1 t u v from e) (small_one (by omega) (by omega) (by omega) (by omega)) (rangeSize_nat lo hi) (by omega) fun h' tk acc c' kp hl hi'=>?_
  have vv:Vals (((List.range (hi-lo).toNat).map fun(i:Nat)=>lo+(i:Int)).map V.int) acc.toList:=by
    have key:∀(n:Nat) (l:List Value),l.length=n->∀b:Int,(∀(j:Nat) (v:Value),l[j]?=some v->∃t,v=Value.int (b+(j:Int)) t)->Vals (((List.range n).map fun(i:Nat)=>b+(i:Int)).map V.int) l:=by
      intro n
      induction n with
      |zero=>intro l hl b _;rw[kH.mp hl];exact .nil
      | succ n ih =>
        intro l hl b hv
        cases l with
        |nil=>cases hl
        | cons x r =>
          obtain⟨t,e⟩:=hv 0 x rfl
          rw[yi,aZ,aZ]
          refine .cons ⟨t,by simpa using e⟩ ?_
          have:=ih r (by simpa using hl) (b+1) (fun j v e=>by
            obtain⟨t,z⟩:=hv (j+1) v (by simpa using e)
            exact⟨t,by rw[z];congr 1;omega⟩)
          rw[jt] at this⊢
          rw[jt]
          have e:∀i:Nat,((V.int∘fun(i:Nat)=>b+(i:Int))∘Nat.succ) i=(V.int∘fun(i:Nat)=>b+1+(i:Int)) i:=fun i=>by
            show V.int (b+((i+1:Nat):Int))=V.int (b+1+(i:Int));congr 1;omega
          rw[rQ fun i _=>e i]
          exact this
    refine key _ _ (by rw[cF];exact hi'.1) lo fun j v e=>?_
    obtain⟨t,z⟩:=hi'.2 j v (by rw[<-gz];exact e)
    exact⟨t,by rw[z];congr 1;omega⟩
  refine⟨.ref s.heap.objs.size,_,I.laid (t':=tk) (o:= .lst (((List.range (hi-lo).toNat).map fun(i:Nat)=>lo+(i:Int)).map V.int)) kp (aA _) ⟨?_,acc.toList,c',vv,by simpa using hl⟩,rfl,q _ (I.hok.fresh (aA _))⟩
  rw[ak,ak,o7]
  exact cL (show(hi-lo).toNat<=20000 by omega) (by decide)
theorem JM(hc:X.calm=true):eF X (.builtin "all") (xR X.K):=by
  intro pins s σ H xs us Q I rv h
  obtain⟨p,bs,rfl,hp,q⟩:=h
  obtain⟨u,rfl,ru⟩:=vals1 rv
  cases ru
  obtain⟨its,rs,il,hz⟩:=I.list hp
  have hl:=rs.length
  have hv:∀(i:Nat) (v:Value),its.toArray[i]?=some v->v= .bool (bs.getD i false):=fun i v e=>by
    have hi:i<bs.length:=by
      have:=(qd.mp e).1
      rw[ak] at hl
      simp at this;omega
    obtain⟨u,hu,ru⟩:=rs.get (i:=i) (x:= .bl bs[i]) (by rw[bY,aR hi];rfl)
    rw[Dn,hu] at e
    cases e
    rw[g8,aR hi]
    exact ru
  have ll:=il.isList
  have hlt:p<s.heap.objs.size:=by obtain⟨o,e,_⟩:=ll;exact aX e
  refine call_all_walk (wpAny_pyIter_list ll ⟨s.heap.objs.size,_,_,_,_,_,fun i=>bs.getD i false,rfl,Walks.list (A:=X.A.in1) (I.ok.hd hc) _ p (bS hlt) its.toArray,⟨⟨_,dX _ rfl,rfl,rfl⟩,ll.push _⟩,fun i v s Q E hP hQ=>?_,fun h' tk kp=>?_⟩)
  · rw[hv i v hP];exact wpAny_truthy_bool hQ
  · have e:(List.range its.toArray.size).all (fun i=>bs.getD i false)=bs.all id:=by
      have hs:its.toArray.size=bs.length:=by rw[ak] at hl;simp;omega
      rw[hs]
      clear hv hl rs q hp hs hz
      induction bs with
      |nil=>rfl
      | cons b r ih =>
        rw[fP,yi,lU,lU,List.all_map]
        simpa[Function.comp_def] using congrArg (b && ·) ih
    rw[e]
    refine⟨.bl (bs.all id),H,I.kept fun b o q=>kp b o (fun m=>?_) (bC _ q),rfl,q⟩
    have:=aC.mp m
    rw[this] at q
    exact absurd (aX q) (fG _)
end
section
variable{G:Gx}{ρ:Rh}{te:TE}{K:PySem.W.Frag}{Φ:Pd}
theorem ay.FO{Θ:Bool->List PyData->Prop}(h:Ev G ρ te fun _ x=>∃n:Int,x= .int n/\ -10000<=n/\n<=10000/\Θ true (((List.range n.toNat).map fun(i:Nat)=>(0:Int)+(i:Int)).map .int)):ay G ρ (dw CI (aK (dw Ej (aK te aQ)) aQ)) Θ:=fun nb σ H Q W z=>
 h nb σ H _ W fun f v H1 x ⟨n,ex,h1,h2,q⟩ s1 hv=>by
  subst ex
  rw[hv.bL]
  refine⟨n,rfl,fun a ha=>⟨a,0,n,rfl,aS,by omega,fun l hl=>?_⟩⟩
  rw[Int.sub_zero]
  exact ay.fin (f:=true) W (s1.trans (.same s1.2 (cD ha))) hl (lI _) q z
theorem Ev.sum(h:Ev G ρ te fun _ x=>∃ns:List Int,x= .list (ns.map .int)/\Φ true (.int ns.sum)):Ev G ρ (dw (Jw K) (aK te aQ)) Φ:=fun nb σ H Q W z=>
 h nb σ H _ W fun f v H1 x ⟨ns,ex,q⟩ s1 hv=>by
  subst ex
  obtain⟨a,xs,rfl,na,hx,hd⟩:=hv.cG
  have e:=kN hd
  subst e
  exact⟨a,ns,rfl, .of hx,z true _ H1 _ q s1 (.int _)⟩
theorem GK{nb:Addr->Prop}{H:Hp}:∀{is:List Bool} {xs:List V},af nb H (is.map PyData.bool) xs->xs=is.map V.bl
  |[],_,h=>by unfold List.map af at h;exact h
  | i :: is, _, h => by
    rw[aZ] at h
    unfold af at h
    obtain⟨y,ys,rfl,h1,h2⟩:=h
    unfold ah at h1
    rw[aZ,h1,GK h2]
theorem Ev.all(h:Ev G ρ te fun _ x=>∃bs:List Bool,x= .list (bs.map .bool)/\Φ true (.bool (bs.all id))):Ev G ρ (dw (xR K) (aK te aQ)) Φ:=fun nb σ H Q W z=>
 h nb σ H _ W fun f v H1 x ⟨bs,ex,q⟩ s1 hv=>by
  subst ex
  obtain⟨a,xs,rfl,na,hx,hd⟩:=hv.cG
  have e:=GK hd
  subst e
  exact⟨a,bs,rfl, .of hx,z true _ H1 _ q s1 (.bl _)⟩
end
end L2
set_option maxRecDepth 100000
set_option maxHeartbeats 4000000
namespace L2
open PySem PySem.Spec PyProof.Rows
def gX:PyData->String->Bool
 | .bool _,T=>T=="bool" ||T=="int"
 | .int _,T=>T=="int"
 | .str _,T=>T=="str"
 | .list _,T=>T=="list"
 | .tuple _,T=>T=="tuple"
 |_,_=>false
def AM:PyData->String
 | .none=> "NoneType" | .bool _=> "bool" | .int _=> "int" | .str _=> "str" | .list _=> "list" | .tuple _=> "tuple" | .dict _=> "dict"
theorem Bu(ds:List PyData):gX (.list ds) "list"=true/\gX (.list ds) "tuple"=false:=⟨rfl,rfl⟩
theorem Dm(ds:List PyData):gX (.tuple ds) "list"=false/\gX (.tuple ds) "tuple"=true:=⟨rfl,rfl⟩
theorem MH{K:PySem.W.Frag}{nb:Addr->Prop}{H:Hp}{d:PyData}{v:V}(h:ah nb H d v):gK K H v (.type (AM d)):=by
 cases d<;>unfold ah at h
 ·subst h;exact .aG
 ·subst h;exact .bl _
 ·subst h;exact .int _
 ·subst h;exact .str _
 ·obtain⟨a,xs,rfl,_,e,_⟩:=h;exact .lst e
 ·obtain⟨a,xs,rfl,_,e,_⟩:=h;exact .tup e
 ·obtain⟨a,xs,rfl,_,e,_⟩:=h;exact e.elim .dK fun⟨_,e⟩=> .Hq e
def oJ(T:String):Prop:=T="int" \/T="bool" \/T="list" \/T="tuple" \/T="str"
theorem Hr{K:PySem.W.Frag}{d:PyData}{T:String}(hT:oJ T):PySem.W.kitOne K (.type (AM d)) (.type T)=some (gX d T):=by
 rcases hT with rfl|rfl|rfl|rfl|rfl<;>cases d<;>(with_unfolding_all rfl)
theorem HF{K:PySem.W.Frag}{d:PyData}:∀{Ts:List String},(∀T∈Ts,oJ T)->PySem.W.kitAny K (.type (AM d)) (Ts.map Value.type)=some (Ts.any (gX d))
  |[],_=>rfl
  | T :: r, h => by
    rw[aZ]
    unfold PySem.W.kitAny
    rw[Hr (h T (dB ..)),kg]
    cases gX d T with
    |true=>rfl
    |false=>exact HF fun T m=>h T (dN _ m)
def uX:List V->Hp->VK->Prop:=fun xs H Q=>∃(x:V) (tp:Addr) (Ts:List String) (nb:Addr->Prop) (d:PyData),xs=[x, .ref tp]/\H tp=some (.tup (Ts.map V.ty))/\ah nb H d x/\(∀T∈Ts,oJ T)/\Q (.bl (Ts.any (gX d))) H
theorem EK:∀{Ts:List String} {us:List Value},Vals (Ts.map V.ty) us->us=Ts.map Value.type
 |[],_, .nil=>rfl
 |T::r,_, .cons h t=>by rw[aZ,EK t,show _=Value.type T from h]
section
variable{X:Cx}
theorem DL:eF X (.builtin "isinstance") uX:=by
 intro pins s σ H xs us Q I rv h
 obtain⟨x,tp,Ts,nb,d,rfl,ht,hd,h5,q⟩:=h
 obtain⟨u,v,rfl,ru,rv⟩:=rv.two
 cases (show v=Value.ref tp from rv)
 obtain⟨_,its,vt,o,ho,hc,n,hdat⟩:=(show bB X.prog X.w H s.heap tp (.tup (Ts.map V.ty)) from I.hok tp _ ht)
 have e:=EK vt
 subst e
 obtain⟨c0,d0,dt,sl⟩:=o
 dsimp only at hc hdat
 subst hc hdat
 have fin:∀tk,EP X pins σ Q (.bool (Ts.any (gX d))) {s with toks:=tk}:=fun tk=>⟨.bl _,H,I.tok tk,rfl,q⟩
 have ka:=HF (K:=X.K) (d:=d) h5
 cases d<;>unfold ah at hd
 ·subst hd;cases (show u=Value.none from ru);exact mV PySem.W.kitx_none I.dD True.intro ho ka (fun z=>nomatch z) fin
 ·subst hd;cases (show u=Value.bool _ from ru);exact mV PySem.W.kitx_bool I.dD True.intro ho ka (fun z=>nomatch z) fin
 ·subst hd;obtain⟨t,rfl⟩:=(show∃t,u=Value.int _ t from ru);exact mV PySem.W.kitx_int I.dD True.intro ho ka (fun z=>nomatch z) fin
 ·subst hd;obtain⟨t,rfl⟩:=(show∃t,u=Value.str _ t from ru);exact mV PySem.W.kitx_str I.dD True.intro ho ka (fun z=>nomatch z) fin
 ·obtain⟨a,ys,rfl,_,ea,_⟩:=hd
  cases (show u=Value.ref a from ru)
  obtain⟨_,_,n,_,h1⟩:=(show bB X.prog X.w H s.heap a (.lst ys) from I.hok a _ ea)
  exact mV wu I.dD ⟨_,h1,rfl⟩ ho ka (fun z=>nomatch z) fin
 ·obtain⟨a,ys,rfl,_,ea,_⟩:=hd
  cases (show u=Value.ref a from ru)
  obtain⟨_,_,_,o',h1,h2,_⟩:=(show bB X.prog X.w H s.heap a (.tup ys) from I.hok a _ ea)
  exact mV PySem.W.kitx_tuple I.dD ⟨o',h1,h2⟩ ho ka (fun z=>nomatch z) fin
 ·obtain⟨a,ys,rfl,_,ea,_⟩:=hd
  cases (show u=Value.ref a from ru)
  obtain⟨_,_,vs,_,dd⟩:=(show bB X.prog X.w H s.heap a (.dK ys) from ea.ok I.hok)
  exact mV t8 I.dD dd.typeIs ho ka (fun z=>nomatch z) fin
end
section
variable{G:Gx}{ρ:Rh}{ta tb te:TE}{K:PySem.W.Frag}{Φ:Pd}{T U:String}
theorem Ev.Qi(hT:oJ T)(h:Ev G ρ te fun _ x=>Φ true (.bool (gX x T))):Ev G ρ (dw (jS K) (aK te (aK (tC (.ty T)) aQ))) Φ:=fun nb σ H Q W z=>
 h nb σ H _ W fun f v H1 d q s1 hv=>⟨v,T,_,_,rfl,MH hv,Hr hT,z true _ H1 _ q s1 (.bl _)⟩
theorem Ev.O1(hT:oJ T)(hU:oJ U)(h:Ev G ρ te fun _ x=>Φ true (.bool (gX x T||gX x U))):Ev G ρ (dw uX (aK te (aK (tL (aK (tC (.ty T)) (aK (tC (.ty U)) aQ))) aQ))) Φ:=fun nb σ H Q W z=>
 h nb σ H _ W fun f v H1 d q s1 hv=>by
  refine⟨by show 2<=sizeLine;decide,fun p hp=>⟨v,p,[T,U],G.S nb f,d,rfl,aS,hv.keep (aI.of (cD hp)),fun S m=>?_,?_⟩⟩
  ·rcases bQ.mp m with e|m
   ·rw[e];exact hT
   ·rw[aC.mp m];exact hU
  ·rw[kg,kg,List.any_nil,mH]
   exact z true _ _ _ q (s1.trans (.same s1.2 (cD hp))) (.bl _)
theorem Ev.uw(h:Ev G ρ te fun _ x=>∃ds,(x= .list ds\/x= .tuple ds)/\Φ true (.int ds.length)):Ev G ρ (dw (eT K) (aK te aQ)) Φ:=fun nb σ H Q W z=>
 h nb σ H _ W fun f v H1 d ⟨ds,e,q⟩ s1 hv=>by
  rcases e with e|e
  ·subst e
   obtain⟨a,xs,rfl,n,hx,hd⟩:=hv.cG
   exact⟨a,xs,rfl, .inl (.of hx),by rw[hd.length];exact z true _ H1 _ q s1 (.int _)⟩
  ·subst e
   obtain⟨a,xs,rfl,n,hx,hd⟩:=hv.ofT
   exact⟨a,xs,rfl, .inr (.of hx),by rw[hd.length];exact z true _ H1 _ q s1 (.int _)⟩
theorem Ev.wU(h:Ev G ρ ta fun f x=>∃ds,(x= .list ds\/x= .tuple ds)/\Ev G ρ tb fun _ y=>∃k,y= .int k/\∃e,bh ds k=some e/\Φ f e):Ev G ρ (bW (tS K) ta tb) Φ:=
 Ev.iV (h.mono fun f x ⟨ds,ex,q⟩=>q.mono fun g y ⟨k,ey,e,he,p⟩ nb σ H u v Q W hu hv z=>by
  subst ey
  rcases ex with ex|ex
  ·subst ex
   obtain⟨a,xs,rfl,n,hx,hd⟩:=hu.cG
   obtain⟨w,hw,hD⟩:=hd.bh he
   exact .inl ⟨a,xs,k,w,rfl,hv.bL, .of hx,hw,z f _ H _ p (.refl W.az) hD⟩
  ·subst ex
   obtain⟨a,xs,rfl,n,hx,hd⟩:=hu.ofT
   obtain⟨w,hw,hD⟩:=hd.bh he
   exact .inr (.inl ⟨a,xs,k,w,rfl,hv.bL, .of hx,hw,z f _ H _ p (.refl W.az) hD⟩))
end
theorem Callee.void{P:Program}{w:World}{K:PySem.W.Frag}{mg:Str->Option Value}{base:Heap}{x:Str}{st:Stmt}{k:Nat}{ps:List Str}{sp:Sp}{f:Addr}{fd:FuncData}(F:cQ K x x st f fd)(b:Binds K fd ps [])(m:mg x=some (.ref f))(hv:∀vs H Q E,¬sp vs H Q E):Callee P w K mg base x k ps sp:=
 ⟨f,fd,⟨fun vs H Q E h=>(hv vs H Q E h).elim,fun A outer s H args us vs Q E _ _ _ _ h=>(hv vs H Q E h).elim⟩,b,F.kp,m⟩
end L2
set_option maxRecDepth 100000
set_option maxHeartbeats 4000000
namespace L2
open PySem PySem.Spec PyProof.Rows
section
variable{G:Gx}{ρ cB:Rh}{te:TE}{gt:TG}{n i:Nat}{it:Nat->PyData->Prop}{fi:Bool}{Θ:Bool->List PyData->Prop}{E:DE}
theorem KG(os:List Int):fu (os.map PyData.int)=true:=by
 unfold fu
 rw[fN]
 intro x hx
 obtain⟨y,_,rfl⟩:=cY.mp hx
 rfl
theorem gP.ints(P:Int->Prop)(ht:∀i d,it i d->Gv G cB gt fi d fun fB=>Wk cB fB/\Ev G fB te fun _ e=>∃r:Int,e= .int r/\P r)(h:∀os:List Int,os.length=n->(∀x∈os,P x)->Θ true (os.map .int)):gP G cB n it fi gt kc te Θ:=by
 refine⟨false,fun i ds=>ds.length=i/\∃os:List Int,ds=os.map .int/\∀x∈os,P x,⟨rfl,[],rfl,fun _ h=>nomatch h⟩,?_,?_⟩
 ·rintro i d ds hd hl ⟨hl2,os,rfl,ho⟩
  refine fun nb σ H v Q W hv z=>ht i d hd nb σ H v Q W hv fun σ' ρ' ⟨w,q⟩ W'=>z σ' ρ' ⟨w,Tv.nO (tu (q.mono fun f e ⟨r,ee,hr⟩=>⟨fun z=>(by cases z),?_,os++[r],?_,fun x hx=>?_⟩))⟩ W'
  ·rw[bR,jT,hl2]
  ·rw[ee];simp
  ·rcases cE.mp hx with h|h
   ·exact ho x h
   ·rw[aC.mp h];exact hr
 ·rintro ds hl ⟨hl2,os,rfl,ho⟩
  rw[KG,Bool.or_true]
  exact h os (by rw[ak] at hl2;exact hl2) ho
theorem gP.rel{α:Type}(φ:α->PyData)(fl:Bool)(P:Nat->α->Prop)(ht:∀i d,it i d->Gv G cB gt fi d fun fB=>Wk cB fB/\Ev G fB te fun f e=>(fl=true->f=true)/\∃r:α,e=φ r/\P i r)
  (h:∀os:List α,os.length=n->(∀(i:Nat) x,os[i]?=some x->P i x)->Θ (fl||fu (os.map φ)) (os.map φ)):gP G cB n it fi gt kc te Θ:=by
 refine⟨fl,fun i ds=>ds.length=i/\∃os:List α,ds=os.map φ/\∀(i:Nat) x,os[i]?=some x->P i x,⟨rfl,[],rfl,fun j x e=>by simp at e⟩,?_,?_⟩
 ·rintro i d ds hd hl ⟨hl2,os,rfl,ho⟩
  refine fun nb σ H v Q W hv z=>ht i d hd nb σ H v Q W hv fun σ' ρ' ⟨w,q⟩ W'=>z σ' ρ' ⟨w,Tv.nO (tu (q.mono fun f e ⟨hf,r,ee,hr⟩=>⟨hf,?_,os++[r],?_,fun j x hj=>?_⟩))⟩ W'
  ·rw[bR,jT,hl2]
  ·rw[ee];simp
  ·rw[ak] at hl2
   rcases uV j os.length with h|h|h
   ·exact ho j x (by rwa[eZ h] at hj)
   ·subst h
    simp at hj
    subst hj
    rw[hl2];exact hr
   ·rw[j5 (by rw[bR,jT];omega)] at hj
    cases hj
 ·rintro ds hl ⟨hl2,os,rfl,ho⟩
  exact h os (by rw[ak] at hl2;exact hl2) ho
theorem Sv.HH(h:∀a,E.nx (ρ.set i (.own a true []))):Sv G ρ (jf (l8 aQ) (ek i)) E:=Sv.yI (ay.lst (Av.nil ⟨by decide,fun a=>h a⟩))
end
def Pr:R2:=fun x y H Q=>∃a b:Bool,x= .bl a/\y= .bl b/\Q (.bl (a==b)) H
theorem Ev.R5{G:Gx}{ρ:Rh}{ta:TE}{b:Bool}{Φ:Pd}(h:Ev G ρ ta fun _ x=>∃a,x= .bool a/\Φ true (.bool (a==b))):Ev G ρ (bW Pr ta (tC (.bl b))) Φ:=fun nb σ H Q W z=>
 h nb σ H _ W fun f v H1 d ⟨a,e,q⟩ s1 hv=>by
  subst e
  unfold ah at hv
  subst hv
  exact⟨a,b,rfl,rfl,z true _ H1 _ q s1 (.bl _)⟩
theorem m6{X:Cx}{K:PySem.W.Frag}{a:Expr}{ta:TE}(hK:X.K=K)(ha:PE X a ta)(he:∀whole,isTrue a X.env whole=(do let v<-whole;standAt a.pos;holding [v] (truthy v))):PT X a (rJ K ta):=by
 subst hK
 exact HW ha he
theorem n5{X:Cx}{K:PySem.W.Frag}{es:List Expr}{k:Nat}{t:iJ}{n:Nat}{pos:Pos}(hK:X.K=K)(hc:X.calm=true)(h:pL X es t)(hn:(assignEach es X.env).length=n:=by rfl)(hst:(assignEach es X.env).findIdx? (·.1)=none:=by rfl):PG X (.Tuple es k pos) (pN K n t):=by
 subst hK
 exact OZ hc h hn hst
theorem Bh(ds:List PyData):PyData.eqv (.list ds) (.list [])=ds.isEmpty:=by cases ds<;>simp[PyData.eqv,PyData.eqvAll]
theorem LO(cs:List aB):PyData.depthAll (cs.map cN)<=2/\PyData.canLayAll0 (cs.map cN)=true:=by
  induction cs with
  |nil=>simp[PyData.depthAll,PyData.canLayAll0]
  | cons a r ih =>
    have h:=MK a
    simp[PyData.depthAll,PyData.depth,PyData.canLayAll0,PyData.canLay0,ih.2,h.2.2]
    have:=ih.1
    have:=h.2.1
    omega
theorem Sv.Jv{G:Gx}{ρ:Rh}{s:TS}{E:DE}(I:Rh->Prop)(h:Sv G ρ s {E with nx:=I})(hI:∀ρ',I ρ'->E.nx ρ'):Sv G ρ s E:=fun nb σ H D W K=>h nb σ H D W ⟨fun nb ρ σ H q W=>K.nx nb ρ σ H (hI ρ q) W,K.bk,K.ct,K.rt,K.rw⟩
theorem K6{α:Type}{xs:List α}{lo hi:Option Int}:(gM xs lo hi).length<=xs.length:=by
 unfold gM
 rw[gG,uq];omega
theorem pick{L:List Int}{k:Int}(h0:0<=k)(h1:k<L.length)(P:Int->Prop)(hP:∀x∈L,P x):∃x,bh (L.map PyData.int) k=some (.int x)/\P x:=by
 have hL:k.toNat<L.length:=by omega
 exact⟨L[k.toNat],jw h0 (by rw[bY,aR hL];rfl),hP _ (jk hL)⟩
end L2
set_option maxRecDepth 100000
set_option maxHeartbeats 4000000
namespace L2
open PySem PySem.Spec PyProof.Rows
theorem KD{α:Type}{xs:List α}{k:Int}(h0:0<=k)(h1:k<=xs.length):gM xs none (some k)=xs.take k.toNat:=by
 unfold gM HT.dJ
 simp only[pV,Nat.sub_zero]
 congr 1
 first|omega|(split<;>omega)
end L2
set_option maxRecDepth 100000
set_option maxHeartbeats 4000000
namespace L2
open PySem PySem.Spec PyProof.Rows
theorem GY:∀xs ys:List Int,PyData.eqvAll (xs.map PyData.int) (ys.map PyData.int)=decide (xs=ys)
  |[],[]=>by simp[PyData.eqvAll]
  |[],y::ys=>by simp[PyData.eqvAll]
  |x::xs,[]=>by simp[PyData.eqvAll]
  | x :: xs, y :: ys => by
    simp only[aZ,PyData.eqvAll,GY xs ys]
    have:PyData.eqv (.int x) (.int y)=decide (x=y):=by rw[iZ];simp[PyData.eqv]
    rw[this,iZ]
    simp
theorem GN(xs ys:List Int):PyData.eqv (.list (xs.map .int)) (.list (ys.map .int))=decide (xs=ys):=by
 simp only[PyData.eqv]
 exact GY xs ys
theorem shaped_ints(xs:List Int):SeqAt.shaped (.list (xs.map .int))=true:=by
 have h:=C8 (xs.map some)
 have e:(xs.map some).map q8=xs.map PyData.int:=by rw[jt];rfl
 rw[e] at h
 unfold SeqAt.shaped
 simp[PyData.canLay0,PyData.depth,h.1,h.2]
end L2
set_option maxRecDepth 100000
set_option maxHeartbeats 4000000
namespace L2
open PySem PySem.Spec PyProof.Rows
def Dv(K:PySem.W.Frag)(te:TE)(ts:TO):TE:=fun σ H Q=>te σ H fun x H1=>ts σ H1 fun k H2=>k=some (-1)/\∃a xs,x= .ref a/\aF K H2 a xs/\∀p,H2 p=none->Q (.ref p) (upd H2 p (.lst xs.reverse))
theorem af.rev{nb:Addr->Prop}{H:Hp}:∀{ds:List PyData} {xs:List V},af nb H ds xs->af nb H ds.reverse xs.reverse
  |[],xs,h=>by unfold af at h;subst h;exact .nil
  | d :: ds, xs, h => by
    unfold af at h
    obtain⟨y,ys,e,h1,h2⟩:=h
    subst e
    rw[List.reverse_cons,List.reverse_cons]
    exact af.append (af.rev h2) (.cons h1 .nil)
section
variable{G:Gx}{ρ:Rh}{Φ:Pd}{ta tb te:TE}{K:PySem.W.Frag}
theorem ay.rev{ts:TO}{Θ:Bool->List PyData->Prop}(h:Ev G ρ te fun f x=>∃ds,x= .list ds/\Ov G ρ ts fun o=>o=some (-1)/\Θ (f||fu ds.reverse) ds.reverse):ay G ρ (Dv K te ts) Θ:=fun nb σ H Q W z=>
 h nb σ H _ W fun f v H1 d ⟨ds,e,q⟩ s1 hv=>q nb σ H1 _ (W.step s1) fun o H2 ⟨eo,q2⟩ s2=>by
  subst e
  obtain⟨a,xs,rfl,n,hx,hd⟩:=(hv.keep s2.dj).cG
  exact⟨eo,a,xs,rfl, .of hx,fun p hp=>ay.fin W (s1.trans s2) hp hd.rev q2 z⟩
theorem Ev.rev{ts:TO}(h:Ev G ρ te fun f x=>∃ds,x= .list ds/\Ov G ρ ts fun o=>o=some (-1)/\Φ (f||fu ds.reverse) (.list ds.reverse)):Ev G ρ (Dv K te ts) Φ:=(ay.rev (Θ:=fun f ds=>Φ f (.list ds)) h).ev
theorem uE{X:Cx}{K:PySem.W.Frag}(hK:X.K=K):dz X (compareOp .In) (ow K false):=by subst hK;exact Ot
theorem w6{X:Cx}{K:PySem.W.Frag}(hK:X.K=K):dz X (compareOp .NotIn) (ow K true):=by subst hK;exact NI
theorem Ev.nJ{ng:Bool}(h:Ev G ρ ta fun _ x=>∃k:Int,x= .int k/\Ev G ρ tb fun _ y=>∃ns:List Int,y= .list (ns.map .int)/\Φ true (.bool (decide (k∈ns) !=ng))):Ev G ρ (bW (ow K ng) ta tb) Φ:=fun nb σ H Q W z=>
 h nb σ H _ W fun f v H1 d ⟨k,e,q⟩ s1 hv=>q nb σ H1 _ (W.step s1) fun g u H2 d2 ⟨ns,e2,p⟩ s2 hu=>by
  subst e e2
  have hk:=hv.bL
  subst hk
  obtain⟨a,xs,rfl,na,hx,hd⟩:=hu.cG
  have ex:=kN hd
  subst ex
  refine⟨a,ns.map V.int,rfl, .inl (.of hx),rfl,?_,?_⟩
  ·rw[fN]
   intro x hx
   obtain⟨o,_,rfl⟩:=cY.mp hx
   rfl
  ·have e:jQ (V.int k) (ns.map V.int)=decide (k∈ns):=by
    unfold jQ
    rw[List.any_map,iZ,pU,decide_eq_true_eq]
    constructor
    ·rintro⟨o,m,h⟩
     have:o=k:=eq_of_beq h
     exact this▸m
    ·intro m
     exact⟨k,m,beq_self_eq_true k⟩
   have e2:(if ng=true then !jQ (V.int k) (ns.map V.int) else jQ (V.int k) (ns.map V.int))=(decide (k∈ns) !=ng):=by
    rw[e]
    cases ng<;>simp
   rw[e2]
   exact z true _ H2 _ p (s1.trans s2) (.bl _)
end
theorem xy(p n:Int)(cs:List aB):SeqAt.shaped (gC p n cs)=true:=by
 have h1:=LO cs
 unfold SeqAt.shaped gC
 simp[PyData.canLay0,PyData.canLayAll0,PyData.depth,PyData.depthAll,h1.2]
 have:=h1.1
 omega
end L2
set_option maxRecDepth 100000
set_option maxHeartbeats 1000000
namespace PC
def EV(n:Nat):Prop:=2<=n/\∀d,d∣n->d=1\/d=n
def tr(q:Nat):Nat->Nat->Bool
 |0,_=>false
 |f+1,d=>if q<d*d then true else if q%d=0 then false else tr q f (d+1)
theorem KZ{q:Nat}(h2:2<=q)(h:∀e,2<=e->e*e<=q->q%e≠0):EV q:=by
 refine⟨h2,fun d hd=>?_⟩
 obtain⟨e,he⟩:=hd
 by_cases d1:d=1
 ·exact .inl d1
 by_cases e1:e=1
 ·right;rw[he,e1,Nat.mul_one]
 exfalso
 have d0:d≠0:=fun z=>by rw[z,Nat.zero_mul] at he;omega
 have e0:e≠0:=fun z=>by rw[z,Nat.mul_zero] at he;omega
 by_cases hle:d<=e
 ·refine h d (by omega) (by rw[he];exact Nat.mul_le_mul_left d hle) ?_
  rw[he];exact Nat.mul_mod_right d e
 ·refine h e (by omega) (by rw[he];exact EG e (by omega)) ?_
  rw[he];exact Nat.mul_mod_left d e
def pw(N:Nat):Nat->Nat->Nat->Nat->Nat
 |0,_,_,acc=>acc
 |f+1,e,g,acc=>pw N f (e/2) (g*g%N) (if e%2=1 then acc*g%N else acc)
end PC
set_option maxRecDepth 100000
set_option maxHeartbeats 1000000
namespace L2
open PC
def wB(p:Int):Prop:=2<=p/\∀d:Int,0<d->d∣p->d=1\/d=p
theorem Ic{n:Nat}(h:EV n):wB (n:Int):=by
 refine⟨by have:=h.1;omega,fun d d0 hd=>?_⟩
 obtain⟨k,rfl⟩:=GL (Int.le_of_lt d0)
 rcases h.2 k (Int.natCast_dvd_natCast.mp hd) with e|e
 ·left;rw[e];rfl
 ·right;rw[e]
theorem O7{p:Int}(h2:2<=p)(h:t6 p):wB p:=by
 obtain⟨n,rfl⟩:=GL (show 0<=p by omega)
 refine Ic (KZ (by omega) fun e e1 e2 e3=>?_)
 refine h (e:Int) (by omega) (by rw[<-Int.natCast_mul];exact Int.ofNat_le.mpr e2) ?_
 have:=congrArg (Nat.cast:Nat->Int) e3
 simpa using this
end L2
set_option maxRecDepth 100000
set_option maxHeartbeats 4000000
set_option maxRecDepth 100000
set_option maxHeartbeats 4000000
namespace L2
open PySem PySem.Spec PyProof.Rows
section
variable{X:Cx}{pins:List (Addr×Obj)}{σ:List (Option V)}{H:Hp}{s:Shared}{h':Heap}
theorem Inv.O0{t':Nat}{e it T:Addr}{o:HO}(I:Inv X pins σ H s)(k:∀b u,b≠e->b≠it->s.heap.get? b=some u->h'.get? b=some u)(fe:gV X pins H e)(fi:gV X pins H it)(hT:s.heap.objs.size<=T)(yQ:T≠e)(xG:T≠it)
  (le:∃u,s.heap.get? e=some u) (li:∃u,s.heap.get? it=some u) (new:bB X.prog X.w (upd H T o) h' T o):Inv X pins σ (upd H T o) {s with heap:=h',toks:=t'}:=by
 have hn:=I.hok.fresh hT
 obtain⟨e0,e1,e2,e3,e4,e5⟩:=fe
 obtain⟨i0,i1,i2,i3,i4,i5⟩:=fi
 have ne:∀b u,H b=some u->b≠e:=fun b u q z=>by rw[z,e0] at q;cases q
 have ni:∀b u,H b=some u->b≠it:=fun b u q z=>by rw[z,i0] at q;cases q
 have nT:∀b u,H b=some u->b≠T:=fun b u q z=>by rw[z,hn] at q;cases q
 refine I.step (g':=s.gens) (d':=s.drawn) (ch:=[e,it]) (fun b hb=>?_) (fun b o _ _ hc q _=>k b o (fun z=>hc (by simp[z])) (fun z=>hc (by simp[z])) q) (fun b o _ _ hc q _=>⟨o.slots,k b o (fun z=>hc (by simp[z])) (fun z=>hc (by simp[z])) q⟩)
  (fun b o hc q n=>?_) (fun b o hc q=>⟨o,k b o (fun z=>hc (by simp[z])) (fun z=>hc (by simp[z])) q⟩) (fun b xs q=>by rw[aH (nT b _ q)];exact q) (fun b o u q=>by rw[aH (nT b _ q)];exact q) (fun b ps q=>⟨#[],by rw[aH (nT b _ q),q];simp⟩) (fun m hm=>?_) (fun b u q=>?_) I.bare
 ·rcases(show b=e\/b=it by simpa using hb) with z|z
  ·subst z;exact⟨e3,e1,e4,e5⟩
  ·subst z;exact⟨i3,i1,i4,i5⟩
 ·rw[aH (fun z=>absurd (cT (aX q) (by rw[z];exact hT)) (fG _))];exact n
 ·obtain⟨o,es,ep,ho,r⟩:=hm
  exact⟨o,es,ep,k _ o (br e1) (br i1) ho,r⟩
 ·by_cases hb:b=T
  ·subst hb;rw[aS] at q;cases q;exact new
  ·rw[aH hb] at q
   refine(I.hok b u q).stay (fun c v hc z=>?_) (fun c z=>by rw[aH (nT c _ z)];exact z) fun c xs z=>by rw[aH (nT c _ z)];exact z
   rcases hc with y|y
   ·subst y;exact k _ v (ne _ u q) (ni _ u q) z
   ·exact k c v (ne c _ y) (ni c _ y) z
theorem Inv.Qs{t':Nat}{e it:Addr}(I:Inv X pins σ H s)(k:∀b u,b≠e->b≠it->s.heap.get? b=some u->h'.get? b=some u)(fe:gV X pins H e)(fi:gV X pins H it):Inv X pins σ H {s with heap:=h',toks:=t'}:=by
 obtain⟨e0,e1,e2,e3,e4,e5⟩:=fe
 obtain⟨i0,i1,i2,i3,i4,i5⟩:=fi
 have ne:∀b u,H b=some u->b≠e:=fun b u q z=>by rw[z,e0] at q;cases q
 have ni:∀b u,H b=some u->b≠it:=fun b u q z=>by rw[z,i0] at q;cases q
 refine I.step (g':=s.gens) (d':=s.drawn) (ch:=[e,it]) (fun b hb=>?_) (fun b o _ _ hc q _=>k b o (fun z=>hc (by simp[z])) (fun z=>hc (by simp[z])) q) (fun b o _ _ hc q _=>⟨o.slots,k b o (fun z=>hc (by simp[z])) (fun z=>hc (by simp[z])) q⟩)
  (fun _ _ _ _ n=>n) (fun b o hc q=>⟨o,k b o (fun z=>hc (by simp[z])) (fun z=>hc (by simp[z])) q⟩) (fun _ _ q=>q) (fun _ _ _ q=>q) (fun b ps q=>⟨#[],by rw[q];simp⟩) (fun m hm=>?_) (fun b u q=>?_) I.bare
 ·rcases(show b=e\/b=it by simpa using hb) with z|z
  ·subst z;exact⟨e3,e1,e4,e5⟩
  ·subst z;exact⟨i3,i1,i4,i5⟩
 ·obtain⟨o,es,ep,ho,r⟩:=hm
  exact⟨o,es,ep,k _ o (br e1) (br i1) ho,r⟩
 ·refine(I.hok b u q).stay (fun c v hc z=>?_) (fun c z=>z) fun c xs z=>z
  rcases hc with y|y
  ·subst y;exact k _ v (ne _ u q) (ni _ u q) z
  ·exact k c v (ne c _ y) (ni c _ y) z
end
def mT(K:PySem.W.Frag)(a:Addr):It:=
 ⟨fun i H=>∃xs x,aF K H a xs/\xs[i]?=some x,fun i H x H'=>∃p y,x= .ref p/\H p=none/\(∀xs,aF K H a xs->xs[i]?=some y)/\H'=upd H p (.tup [.int i,y]),fun i H=>∃xs,aF K H a xs/\xs.length=i⟩
theorem Im{P:Program}{w:World}{K:PySem.W.Frag}{elts:List Expr}{k:Nat}{pos:Pos}(a e it:Addr)(hei:e≠it):
  Turn P w K (.Tuple elts k pos) (mT K a) [e,it] e (fun i h=>(∃old,IsEnum h e it i old)/\h.IsListIter it a i) where
 mem:=by simp
 obj:=fun i h st b hb=>by
  obtain⟨⟨old,s1⟩,⟨o,e1,c,d⟩⟩:=st
  rcases(show b=e\/b=it by simpa using hb) with z|z
  ·subst z
   exact⟨_,s1,fun v z=>by
    have z':Data.fields _=Data.cell v:=z
    cases z'⟩
  ·subst z
   exact⟨o,e1,fun v z=>by rw[d] at z;cases z⟩
 keep:=fun i h h' st k=>⟨let ⟨old,s1⟩:=st.1;⟨old,k e (by simp) _ s1⟩,st.2.at fun o q=>k it (by simp) o q⟩
 item:=by
  intro X hP hw hK hc i pins s σ H E I hf st hg
  subst hP hw hK
  obtain⟨xs,x,hq,hx⟩:=hg
  obtain⟨its,rv,p,hz⟩:=I.list hq
  obtain⟨u,hu,ru⟩:=rv.get hx
  have fe:=hf e (by simp)
  have fi:=hf it (by simp)
  obtain⟨⟨old,s1⟩,s2⟩:=st
  obtain⟨ol,l1,l2,l3⟩:=id p.isList
  obtain⟨oi,i1,i2,i3⟩:=id s2
  have xh:a≠e:=fun z=>by
   subst z
   rw[s1] at l1;cases l1
   exact absurd l2 (by simp)
  have hai:a≠it:=fun z=>by
   subst z
   rw[i1] at l1;cases l1
   rw[i2] at l2
   exact absurd l2 (by simp)
  have W:=WalksT.enumerate (prog:=X.prog) (w:=X.w) (I.ok.hd hc) e it a hei xh hai its.toArray
  have hi:i<its.toArray.size:=by
   have:=(aJ.mp hu).1
   simpa using this
  refine W.item i s _ _ hi ⟨⟨old,s1⟩,s2,p.isList⟩ fun T vals h' tk hv hT N6 yz kp=>⟨.ref T,rfl,?_⟩
  refine W.go elts k pos i T _ _ _ yz fun h'' st' D3=>?_
  obtain⟨t,x',hx',JN⟩:=hv
  have QM:x'=u:=by
   have:its.toArray[i]?=some u:=by simpa using hu
   rw[hx'] at this;exact eS this
  subst QM JN
  have OL:=W.apart i T h' yz
  obtain⟨_,_,_,yQ,xG⟩:=yz
  obtain⟨oT,t1,t2,nT,t3⟩:=N6
  have t1':=D3 T oT OL t1
  refine⟨.ref T,upd H T (.tup [.int i,x]),I.O0 (fun b v h1 h2 q=>D3 b v (by simp[h1,h2]) (kp b v (by simp[h1,h2]) q)) fe fi hT yQ xG ⟨_,s1⟩ ⟨_,i1⟩ ?_,rfl,⟨T,x,rfl,I.hok.fresh hT,fun ys hy=>by rw[I.Cb hy hq];exact hx,rfl⟩,⟨st'.1,st'.2.1⟩,fun b hb=>?_⟩
  ·exact⟨by show 2<=sizeLine;decide,[.int i t,x'], .cons ⟨t,rfl⟩ (.cons ru .nil),oT,t1',t2,nT,t3⟩
  ·rw[aH,(hf b hb).1]
   rcases(show b=e\/b=it by simpa using hb) with z|z
   ·rw[z];exact br yQ
   ·rw[z];exact br xG
 done:=by
  intro X hP hw hK hc i pins s σ H E I hf st hg
  subst hP hw hK
  obtain⟨xs,hq,hx⟩:=hg
  obtain⟨its,rv,p,hz⟩:=I.list hq
  have fe:=hf e (by simp)
  have fi:=hf it (by simp)
  obtain⟨⟨old,s1⟩,s2⟩:=st
  obtain⟨ol,l1,l2,l3⟩:=id p.isList
  obtain⟨oi,i1,i2,i3⟩:=id s2
  have hl:=rv.length
  have xh:a≠e:=fun z=>by
   subst z
   rw[s1] at l1;cases l1
   exact absurd l2 (by simp)
  have hai:a≠it:=fun z=>by
   subst z
   rw[i1] at l1;cases l1
   rw[i2] at l2
   exact absurd l2 (by simp)
  have W:=WalksT.enumerate (prog:=X.prog) (w:=X.w) (I.ok.hd hc) e it a hei xh hai its.toArray
  have hn:its.toArray.size=i:=by rw[bT];omega
  refine W.done s _ _ (by rw[hn];exact⟨⟨old,s1⟩,s2,p.isList⟩) fun h' tk kp=>⟨rfl,?_⟩
  exact I.Qs (fun b v h1 h2 q=>kp b v (by simp[h1,h2]) q) fe fi
 self:=fun _ _ _ _ _ st h=>let ⟨old,s1⟩:=st.1;wpAny_pyIter_enum s1 h
def yV(K:PySem.W.Frag)(tl:TE):TI:=fun σ H R=>tl σ H fun x H1=>∃a,x= .ref a/\(∃xs,aF K H1 a xs)/\R (mT K a) H1
theorem CG{X:Cx}{K:PySem.W.Frag}{elts:List Expr}{k:Nat}{tpos:Pos}{l:Expr}{tl:TE}{p pos:Pos}(hK:X.K=K)(hg:Gl X "enumerate")(hm:X.mg "enumerate"=none)(hl:PE X l tl)(hs:starEach [l] X.env=[(false,eval l X.env)]:=by rfl):
    PI X (.Tuple elts k tpos) (.Call (.Name "enumerate" p) [l] [] pos) (yV K tl):=by
  subst hK
  intro pins s σ H R I h
  have ha:PA X [l] (aK tl aQ):=aa hl aj (by rw[hs];rfl)
  refine Call_ (nY I hg hm boot_enumerate (uH (aE (ha pos pins s σ H (fun vs H1=>match vs with|[x]=>∃a,x= .ref a/\(∃xs,aF X.K H1 a xs)/\R (mT X.K a) H1|_=>False) I h) fun us s1 ⟨vs,H1,I1,r1,q1⟩=>?_) hs rfl))
  cases r1 with
  |nil=>exact q1.elim
  | cons r rr =>
    cases rr with
    |cons _ _=>exact q1.elim
    |nil=>
    obtain⟨a,e2,⟨xs,hq⟩,q⟩:=q1
    subst e2
    cases r
    obtain⟨its,rv,p,hz⟩:=I1.list hq
    obtain⟨m,hn,_⟩:=I1.loc
    refine enum_rows (h₀:={objs:= #[]}) (L:=X.env.locals) (m:=m) ⟨hn,fun b o z=>?_,eg _⟩ p.isList fun h' e1 e2 e3 e4 kp ne n1 n2 _ _=>?_
    · cases z
    refine wpAny_pyIter_enum e1 ?_
    have I2:Inv X pins σ H1 {s1 with heap:=h'}:=I1.kept (t':=s1.toks) kp
    refine⟨s1.heap.objs.size+1,[s1.heap.objs.size+1,s1.heap.objs.size],_,_,H1,rfl,I2,Im a _ _ ne,⟨⟨_,e1⟩,e2⟩,fun b hb=>?_,q⟩
    rcases(show b=s1.heap.objs.size+1\/b=s1.heap.objs.size by simpa using hb) with z|z
    · subst z;exact I1.qU (iD _) (I1.hok.fresh (iD _))
    · subst z;exact I1.qU (aA _) (I1.hok.fresh (aA _))
end L2
set_option maxRecDepth 100000
set_option maxHeartbeats 4000000
namespace L2
open PySem PySem.Spec PyProof.Rows
theorem R.Oa{K:PySem.W.Frag}{a:Addr}{xs:List V}{g:TG}{tc:TT}{te:TE}{acc:Addr}{Qe:Hp->Prop}{σ:St}{H:Hp}(Pv:Nat->St->Hp->Prop)(h0:Pv 0 σ H)(hl:∀i σ H,i<=xs.length->Pv i σ H->aF K H a xs)
  (hs:∀i x σ H p,xs[i]?=some x->Pv i σ H->H p=none->g (.ref p) σ (upd H p (.tup [.int i,x])) fun σ2 H2=>tc σ2 H2 fun b H3=>if b=true then te σ2 H3 fun v H4=>∃ys,H4 acc=some (.lst ys)/\ys.length<sizeLine/\Pv (i+1) σ2 (upd H4 acc (.lst (ys++[v]))) else Pv (i+1) σ2 H3)
  (hd:∀σ H,Pv xs.length σ H->Qe H):o5 (mT K a) g tc te acc Qe σ H:=by
 refine⟨fun i m σ H=>m=xs.length-i/\i<=xs.length/\Pv i σ H,⟨xs.length,by simp,eg _,h0⟩,?_⟩
 rintro i m σ H ⟨rfl,hi,p⟩
 have q:=hl i σ H hi p
 by_cases hlt:i<xs.length
 ·refine .inr ⟨⟨xs,xs[i],q,by simp[hlt]⟩,Pv (i+1),fun σ' H' p'=>⟨xs.length-(i+1),by omega,rfl,hlt,p'⟩,fun x H' y=>?_⟩
  obtain⟨pp,y,e,hn,hy,e2⟩:=y
  subst e e2
  exact hs i y σ H pp (hy xs q) p hn
 ·have e:i=xs.length:=by omega
  subst e
  exact .inl ⟨⟨xs,q,rfl⟩,hd σ H p⟩
section
variable{G:Gx}{ρ cB:Rh}{te:TE}{s:TS}{gt:TG}{E:DE}{K:PySem.W.Frag}{Θ:Bool->List PyData->Prop}{tc:TT}{mp:List (Option Nat)}
theorem ay.P8{t0:TE}(hm:(mp.filterMap id).Nodup)(eu:jF mp ρ=cB)(h:Ev G ρ t0 fun fi x=>∃es,x= .list es/\es.length<=10000/\∀v,gP (G.hd fi (.list es) v) cB es.length (fun i d=>∃e,es[i]?=some e/\d= .tuple [.int i,e]) fi gt tc te Θ):ay G ρ (jm (yV K t0) gt tc te mp) Θ:=fun nb σ H Q W z=>
 h nb σ H _ W fun fi v H1 x ⟨es,ex,hn,q⟩ s1 hv=>by
  subst ex
  obtain⟨fl,I,h0,ht,he⟩:=q v
  have W0:=(W.step s1).hd hv
  obtain⟨a,xs,rfl,n,hx,hd⟩:=hv.cG
  refine⟨a,rfl,⟨xs, .of hx⟩,fun acc hacc=>?_⟩
  have p8:Wd (G.hd fi (.list es) (.ref a)) nb cB (L2.eL mp σ) H1:=by rw[<-eu];exact W0.eL hm
  have W1:=p8.more hacc (o:= .lst [])
  have hN:=NB.new s1.2 hacc
  have hno:=sW p8 hacc
  have cS:Step G.B H1 (upd H1 acc (.lst [])):= .same s1.2 (cD hacc)
  have pW:NB G.B a:=jP fun z=>n (.inr (.inr (.inl z)))
  refine R.Oa (xs:=xs) (fun i σ H=>∃ds ys,Wd (G.hd fi (.list es) (.ref a)) (fun x=>nb x\/x=acc) cB σ H/\Step G.B H1 H/\H acc=some (.lst ys)/\af (G.S (fun x=>nb x\/x=acc) fl) H ds ys/\ds.length<=i/\I i ds/\H a=some (.lst xs)) ⟨[],[],W1,cS,aS, .nil,aA _,h0,cS.1 _ _ pW hx⟩ ?_ ?_ ?_
  ·rintro i σ H hi ⟨ds,ys,W,st,_,_,_,_,ha⟩
   exact .of ha
  ·rintro i x σ H p hi ⟨ds,ys,W,st,hy,hd',hl,hI,ha⟩ hp
   obtain⟨a',xs',e',_,h',d'⟩:=W.nh.2.cG
   cases e'
   rw[ha] at h';cases h'
   have hil:i<es.length:=by have:=(aJ.mp hi).1;have:=d'.length;omega
   obtain⟨x',hx',dx⟩:=d'.get (aR hil)
   rw[hi] at hx';cases hx'
   have st2:Step (G.hd fi (.list es) (.ref a)).B H (upd H p (.tup [.int i,x])):= .same W.az (cD hp)
   have hap:acc≠p:=fun z=>by subst z;rw[hp] at hy;cases hy
   have w4:a≠p:=fun z=>by subst z;rw[hp] at ha;cases ha
   refine wY (G:=G.hd fi (.list es) (.ref a)) hn hil (W.step st2) (.inr rfl) hN hno (st.trans st2) hacc (by rw[aH hap];exact hy) (hd'.keep st2.dj) hl (.tup (W.fresh hp) aS (.cons (.int _) (.cons (dx.keep st2.dj) .nil))) (ht i _ ds ⟨_,aR hil,rfl⟩ hl hI) fun σ' H' ds' xs' W' st' hx' hd' hl' hI'=>⟨ds',xs',W',st',hx',hd',hl',hI',st'.1 _ _ pW hx⟩
  ·rintro σ H' ⟨ds,ys,W',st,hy,hd',hl,hI,_⟩
   rw[hd.length] at hl hI
   exact zu W s1 hacc st hy hd' (he ds hl hI) z
end
end L2
set_option maxRecDepth 100000
set_option maxHeartbeats 4000000
namespace L2
open PySem PySem.Spec PyProof.Rows
section
variable{G:Gx}{ρ:Rh}{Φ:Pd}{te:TE}{t:TA}{i n:Nat}{f:Bool}{ds:List PyData}{Θ:List PyData->Prop}
theorem Ev.tupS(h:Av G ρ t fun es=>es.length<=10000/\Φ (i6 es||fu (es.map (·.2))) (.tuple (es.map (·.2)))):Ev G ρ (tL t) Φ:=fun nb σ H Q W z=>
 h nb σ H _ W fun es vs H1 ⟨hl,p⟩ s1 q1=>⟨cL (by rw[q1.len];exact hl) (by decide),fun a ha=>z _ _ _ _ p (s1.trans (.same (W.step s1).az (cD ha))) (by
  cases hs:fu (es.map (·.2)) with
  |true=>rw[Bool.or_true];exact .tup ((W.step s1).fresh ha) aS ((q1.all (f:=false) fun z=>by cases z).jN hs)
  |false=>rw[mH];exact .tup ((W.step s1).fresh ha) aS ((q1.all fun z=>z).keep (aI.of (cD ha))))⟩
theorem Ev.So(h:Ev G ρ te fun _ x=>∃n:Int,x= .int n/\2<=n/\n<=10002/\∀r:Int,wB r->r<10^40->Φ true (.int r)):Ev G ρ (gb Ah [] E0 (aK te aQ)) Φ:=fun nb σ H Q W z=>
 h nb σ H _ W fun f v H1 d ⟨n,e,h1,h2,p⟩ s1 hv=>by
  subst e
  exact⟨n,by rw[hv.bL];rfl,h1,h2,fun r H' sm r1 r2 r3=>z true _ H' _ (p r (O7 r1 r3) (by omega)) (s1.trans (.same (W.step s1).az sm)) (.int r)⟩
theorem Ev.str{x:Str}(h:Φ true (.str x)):Ev G ρ (tC (.str x)) Φ:=fun nb σ H Q W z=>z true _ H _ h (.refl W.az) (by unfold ah;rfl)
end
theorem dG{X:Cx}{K:PySem.W.Frag}{tg l:Expr}{tl:TE}(hK:X.K=K)(hl:PE X l tl):PI X tg l (oh K tl):=by subst hK;exact Q7 hl
theorem JD{env:Env}{n:Str}{l:List (Str×NameKind)}:(List.lookup n l=some .cell\/List.lookup n l=some .free)->
    (List.lookup n (l.map fun x => match x with | (n, k) => if (k == NameKind.free && env.scope.kind == ScopeKind.function && env.kindOf n == some NameKind.cell) = true then (n, NameKind.cell) else (n, k)) = some .cell \/
     List.lookup n (l.map fun x=>match x with|(n,k)=>if(k==NameKind.free && env.scope.kind==ScopeKind.function && env.kindOf n==some NameKind.cell)=true then(n,NameKind.cell) else(n,k))=some .free):=by
  induction l with
  |nil=>intro h;simpa using h
  | cons a r ih =>
    obtain⟨m,k⟩:=a
    intro h
    rw[aZ]
    by_cases c:n=m
    · subst c
      rw[Ab] at h
      dsimp only
      split
      · rw[Ab];exact .inl rfl
      · rw[Ab];exact h
    · have hb:(n==m)=false:=by simpa using c
      have e1:List.lookup n ((m,k)::r)=List.lookup n r:=by rw[bw,hb]
      rw[e1] at h
      dsimp only
      split
      · rw[bw,hb];exact ih h
      · rw[bw,hb];exact ih h
end L2
set_option maxRecDepth 100000
set_option maxHeartbeats 4000000
namespace L2
open PySem PySem.Spec PyProof.Rows
def cnt(wd:Wo):Nat:=wd.countP fun o=>o.isNone
section
variable{G:Gx}{ρ:Rh}{Φ:Pd}{ta tb te:TE}{E:DE}{K:PySem.W.Frag}
theorem Ev.Sn{tl th:TO}(h:Ev G ρ te fun f x=>∃ds,x= .tuple ds/\Ov G ρ tl fun lo=>Ov G ρ th fun hi=>¬(HT.dJ ds.length 0 lo=0/\HT.dJ ds.length ds.length hi=ds.length)/\Φ f (.tuple (gM ds lo hi))):Ev G ρ (qZ (RY K) te tl th) Φ:=fun nb σ H Q W z=>
 h nb σ H _ W fun f v H1 d ⟨ds,e,q⟩ s1 hv=>q nb σ H1 _ (W.step s1) fun lo H2 q2 s2=>q2 nb σ H2 _ ((W.step s1).step s2) fun hi H3 ⟨hn,q3⟩ s3=>by
  subst e
  obtain⟨a,xs,rfl,n,hx,hd⟩:=((hv.keep s2.dj).keep s3.dj).ofT
  have W3:=((W.step s1).step s2).step s3
  refine⟨a,xs,rfl, .of hx,by rw[hd.length];exact hn,fun p hp=>?_⟩
  exact z f _ _ _ q3 (s1.trans (s2.trans (s3.trans (.same W3.az (cD hp))))) (.tup (W3.fresh hp) aS (hd.cut.keep (aI.of (cD hp))))
theorem Ev.SS(h:Ev G ρ ta fun f x=>∃ds,x= .tuple ds/\ds≠[]/\Ev G ρ tb fun g y=>∃es,y= .tuple es/\es≠[]/\ds.length+es.length<=10000/\Φ (f && g) (.tuple (ds++es))):Ev G ρ (bW (NO K) ta tb) Φ:=fun nb σ H Q W z=>
 h nb σ H _ W fun f v H1 d ⟨ds,e,hne,q⟩ s1 hv=>q nb σ H1 _ (W.step s1) fun g u H2 d2 ⟨es,e2,Ka,hl,p⟩ s2 hu=>by
  subst e e2
  obtain⟨a,xs,rfl,n,hx,hd⟩:=(hv.keep s2.dj).ofT
  obtain⟨c,ys,rfl,m,hy,hc⟩:=hu.ofT
  have W2:=(W.step s1).step s2
  have A0:=hd.length
  have hyl:=hc.length
  refine⟨a,c,xs,ys,rfl,rfl, .of hx, .of hy,fun z=>hne (kH.mp (by rw[<-A0,z];rfl)),cL (by rw[A0,hyl];exact hl) (by decide),fun z=>absurd (kH.mp (by rw[<-hyl,z];rfl)) Ka,fun _ q hq=>?_⟩
  refine z (f && g) _ _ _ p (s1.trans (s2.trans (.same W2.az (cD hq)))) (.tup (W2.fresh hq) aS ?_)
  exact(af.append (hd.av (bF (fun z=>(cV _ _▸z).1) fun _ z=>z)) (hc.av (bF (fun z=>(cV _ _▸z).2) fun _ z=>z))).keep (aI.of (cD hq))
end
end L2
set_option maxRecDepth 100000
set_option maxHeartbeats 4000000
namespace L2
open PySem PySem.Spec PyProof.Rows
def sS(es:List Fd):Bool:=es.all fun e=>e.1||ig e.2
section
variable{G:Gx}{ρ:Rh}{Φ:Pd}{t:TA}{te:TE}
theorem jO.DK{nb:Addr->Prop}{H:Hp}:∀{es:List Fd} {vs:List V} {f:Bool},jO G nb H es vs->(f=true->sS es=true)->af (G.S nb f) H (es.map (·.2)) vs
  |[],_,_,h,_=>by unfold jO at h;subst h;exact .nil
  | e :: es, _, f, h, hf => by
    obtain⟨v,ws,rfl,h1,h2⟩:=h
    have hh:f=true->(e.1||ig e.2)=true/\sS es=true:=fun z=>by
      have:=hf z
      unfold sS at this
      rw[lU,cV] at this
      exact this
    refine .cons ?_ (h2.DK fun z=>(hh z).2)
    cases hs:ig e.2 with
    |true=>exact h1.jN hs
    |false=>exact h1.av (bF (fun z=>by have:=(hh z).1;rw[hs,mH] at this;exact this) fun _ z=>z)
theorem Ev.Mq(h:Av G ρ t fun es=>es.length<=10000/\Φ (sS es) (.tuple (es.map (·.2)))):Ev G ρ (tL t) Φ:=fun nb σ H Q W z=>
 h nb σ H _ W fun es vs H1 ⟨hl,p⟩ s1 q1=>⟨cL (by rw[q1.len];exact hl) (by decide),fun a ha=>z _ _ _ _ p (s1.trans (.same (W.step s1).az (cD ha)))
  (.tup ((W.step s1).fresh ha) aS ((q1.DK fun z=>z).keep (aI.of (cD ha))))⟩
end
def HR:R2:=fun x y H Q=>∃a b:Bool,x= .bl a/\y= .bl b/\Q (.bl (!(a==b))) H
theorem Ev.Sa{G:Gx}{ρ:Rh}{ta:TE}{b:Bool}{Φ:Pd}(h:Ev G ρ ta fun _ x=>∃a,x= .bool a/\Φ true (.bool (!(a==b)))):Ev G ρ (bW HR ta (tC (.bl b))) Φ:=fun nb σ H Q W z=>
 h nb σ H _ W fun f v H1 d ⟨a,e,q⟩ s1 hv=>by
  subst e
  unfold ah at hv
  subst hv
  exact⟨a,b,rfl,rfl,z true _ H1 _ q s1 (.bl _)⟩
theorem QI{α:Type}{xs:List α}{k:Int}(h0:0<=k):gM xs none (some k)=xs.take k.toNat:=by
 by_cases h:k<=xs.length
 ·exact KD h0 h
 ·unfold gM HT.dJ
  simp only[pV,Nat.sub_zero]
  rw[qu (by first|omega|(split<;>omega)),qu (by omega)]
abbrev bq(r:List Int):PyData:= .list (r.map .int)
end L2
set_option maxRecDepth 100000
set_option maxHeartbeats 4000000
namespace L2
open PySem PySem.Spec PyProof.Rows
theorem MQ{K:PySem.W.Frag}{a:Addr}{xs:List V}{g:TG}{tb:TS}{D:Ends}{σ:St}{H:Hp}(Pv:Nat->St->Hp->Prop)(h0:Pv 0 σ H)(hl:∀i σ H,i<=xs.length->Pv i σ H->aF K H a xs)
  (hs:∀i x σ H p,xs[i]?=some x->Pv i σ H->H p=none->g (.ref p) σ (upd H p (.tup [.int i,x])) fun σ2 H2=>tb {D with nx:=Pv (i+1),ct:=Pv (i+1),bk:=D.nx} σ2 H2) (hd:∀σ H,Pv xs.length σ H->D.nx σ H):
  ∃W:Nat->Nat->St->Hp->Prop,(∃m,W 0 m σ H)/\∀i m σ H,W i m σ H->
   ((mT K a).stop i H/\D.nx σ H)\/((mT K a).go i H/\∃N:St->Hp->Prop,(∀σ' H',N σ' H'->∃m',m'<m/\W (i+1) m' σ' H')/\∀x H',(mT K a).lG i H x H'->g x σ H' fun σ2 H2=>tb {D with nx:=N,ct:=N,bk:=D.nx} σ2 H2):=by
 refine⟨fun i m σ H=>m=xs.length-i/\i<=xs.length/\Pv i σ H,⟨xs.length,by simp,eg _,h0⟩,?_⟩
 rintro i m σ H ⟨rfl,hi,p⟩
 have q:=hl i σ H hi p
 by_cases hlt:i<xs.length
 ·refine .inr ⟨⟨xs,xs[i],q,by simp[hlt]⟩,Pv (i+1),fun σ' H' p'=>⟨xs.length-(i+1),by omega,rfl,hlt,p'⟩,fun x H' y=>?_⟩
  obtain⟨pp,y,e,hn,hy,e2⟩:=y
  subst e e2
  exact hs i y σ H pp (hy xs q) p hn
 ·have e:i=xs.length:=by omega
  subst e
  exact .inl ⟨⟨xs,q,rfl⟩,hd σ H p⟩
structure iP(H0 H:Hp)(L:Addr)(as:List Addr)(rows:List (List Int)):Prop where
 same:∀a o,H0 a=some o->H a=some o
 hL:H L=some (.lst (as.map V.ref))
 fL:H0 L=none
 fa:∀c∈as,H0 c=none
 nL:L∉as
 nd:as.Nodup
 len:as.length=rows.length
 row:∀(i:Nat) c r,as[i]?=some c->rows[i]?=some r->H c=some (.lst (r.map V.int))
section
variable{H0 H:Hp}{L c q:Addr}{as:List Addr}{rows:List (List Int)}{k:Nat}{r:List Int}{o:HO}{x:Int}
theorem iP.new(g:iP H0 H L as rows)(hq:H q=none):iP H0 (upd H q o) L as rows:=by
 refine⟨fun a o e=>?_,?_,g.fL,g.fa,g.nL,g.nd,g.len,fun i c r e1 e2=>?_⟩
 ·have h:=g.same a o e
  rw[aH (fun z=>by rw[z,hq] at h;cases h)];exact h
 ·rw[aH (fun z=>by have h:=g.hL;rw[z,hq] at h;cases h)];exact g.hL
 ·have h:=g.row i c r e1 e2
  rw[aH (fun z=>by rw[z,hq] at h;cases h)];exact h
theorem iP.app(g:iP H0 H L as rows)(hc:as[k]?=some c)(hr:rows[k]?=some r):iP H0 (upd H c (.lst (r.map V.int++[.int x]))) L as (rows.set k (r++[x])):=by
 have hm:c∈as:=bZ hc
 have hk:k<rows.length:=(aJ.mp hr).1
 refine⟨fun a o e=>?_,?_,g.fL,g.fa,g.nL,g.nd,by rw[fM];exact g.len,fun i d s e1 e2=>?_⟩
 ·rw[aH (fun z=>by have h:=g.fa c hm;rw[<-z,e] at h;cases h)];exact g.same a o e
 ·rw[aH (fun z=>g.nL (by rw[z];exact hm))];exact g.hL
 ·by_cases hik:k=i
  ·subst hik
   rw[hc] at e1;cases e1
   rw[bx hk] at e2;cases e2
   rw[aS,cj];rfl
  ·rw[aT hik] at e2
   have hdc:d≠c:=fun z=>by
    subst z
    obtain⟨l1,e3⟩:=aJ.mp hc
    obtain⟨l2,e4⟩:=aJ.mp e1
    exact hik ((wZ g.nd).mp (e3.trans e4.symm))
   rw[aH hdc]
   exact g.row i d s e1 e2
end
def kJ(rows:List (List Int))(c:Int)(pr:Int×Int):List (List Int):=rows.set pr.1.toNat (rows.getD pr.1.toNat []++[c])
def eW(rows:List (List Int))(c:Int)(prs:aB):List (List Int):=prs.foldl (fun rs pr=>kJ rs c pr) rows
def eG(n:Nat)(cs:List aB)(i:Nat):List (List Int):=(List.range i).foldl (fun rs (c:Nat)=>eW rs c (cs.getD c [])) (List.replicate n [])
theorem JV{rows:List (List Int)}{c:Int}{prs:aB}{pr:Int×Int}:eW rows c (prs++[pr])=kJ (eW rows c prs) c pr:=by unfold eW;rw[tB];rfl
theorem FE{rows:List (List Int)}{c:Int}{prs:aB}:(eW rows c prs).length=rows.length:=by
 unfold eW
 induction prs generalizing rows with
 |nil=>rfl
 |cons p r ih=>rw[List.foldl_cons,ih];unfold kJ;rw[fM]
theorem Aq{n:Nat}{cs:List aB}{i:Nat}{prs:aB}(h:cs[i]?=some prs):eG n cs (i+1)=eW (eG n cs i) i prs:=by
 unfold eG
 rw[yZ,tB]
 show eW _ _ (cs.getD i [])=_
 rw[g8,h];rfl
theorem Dw{n:Nat}{cs:List aB}{i:Nat}:(eG n cs i).length=n:=by
 unfold eG
 induction i with
 |zero=>simp
 |succ i ih=>rw[yZ,tB];show(eW _ _ _).length=n;rw[FE];exact ih
def Short(rows:List (List Int))(m:Nat):Prop:=∀r∈rows,r.length<=m
def uA:Sp:=fun vs H Q _=>∃(nb:Addr->Prop) (p n:Int) (cs:List aB) (v:V),vs=[v]/\jW nb H/\ah nb H (gC p n cs) v/\0<=n/\n<=1000/\(∀prs∈cs,∀pr∈prs,0<=pr.1/\pr.1<n)/\
 (∀i m:Nat,∀prs,cs[i]?=some prs->Short (eW (eG n.toNat cs i) i (prs.take m)) 10000)/\
 ∀(L:Addr) (as:List Addr) (H':Hp),iP H H' L as (eG n.toNat cs cs.length)->Q (.ref L) H'
theorem OR{K:PySem.W.Frag}{D:Ends}{H:Hp}{v:V}(h:uA [v] H D.rt E0):
  oB (qL 1 (jm (oZ (aK (bW (dZ K) (bE 0) (tC (.int 1))) aQ)) (ek 0) kc (l8 aQ) [none]))
   (oB (nP (yV K (bW (dZ K) (bE 0) (tC (.int 2)))) (pN K 2 (oO (ek 2) (oO (ek 3) rG)))
    (nP (oh K (bE 3)) (pN K 2 (oO (ek 4) (oO (ek 5) rG))) (jV (jc K "list" pS (bW (cO K) (bE 1) (bE 4)) (aK (bE 2) aQ)))))
    (qh (bE 1))) D [some v,none,none,none,none,none] H:=by
 obtain⟨nb,p,n,cs,v',e,hlive,hv,n0,n1,hpl,hsh,q⟩:=h
 cases e
 obtain⟨tp,Sw,rfl,SX,htp,hds⟩:=hv.ofT
 unfold af at hds
 obtain⟨vp,r1,rfl,_,hds⟩:=hds
 unfold af at hds
 obtain⟨vn,r2,rfl,hvn,hds⟩:=hds
 unfold af at hds
 obtain⟨vL,r3,rfl,IM,hds⟩:=hds
 unfold af at hds
 subst hds
 have hvn:=hvn.bL
 subst hvn
 obtain⟨NL,ys,rfl,SK,Bt,hys⟩:=IM.cG
 have hyl:=hys.length
 rw[ak] at hyl
 refine⟨.ref tp,rfl,tp,_,1, .int n,rfl,rfl, .of htp,rfl,n,rfl,by omega,by omega,fun acc hacc=>?_⟩
 refine R.rT (fun j σ H1=>∃as,as.length=j/\iP H H1 acc as (List.replicate j [])) ?_ ?_ ?_
 ·refine⟨[],rfl,fun a o e=>?_,aS,hacc,fun _ z=>(by cases z),by simp,sC,rfl,fun i c r e=>by simp at e⟩
  rw[aH (fun z=>by rw[z,hacc] at e;cases e)];exact e
 ·rintro j σ H1 hj ⟨as,hal,g⟩
  refine⟨by decide,fun q1 hq1=>?_⟩
  have AJ:q1≠acc:=fun z=>by have h:=g.hL;rw[<-z,hq1] at h;cases h
  have BX:q1∉as:=fun z=>by
   obtain⟨i,hi⟩:=g6 z
   have h:=g.row i q1 [] hi (by rw[fh,if_pos (by have:=(aJ.mp hi).1;omega)])
   rw[hq1] at h;cases h
  have Qp:H q1=none:=by
   cases e:H q1 with
   |none=>rfl
   |some o=>have h:=g.same q1 o e;rw[hq1] at h;cases h
  refine⟨as.map V.ref,by rw[aH (br AJ)];exact g.hL,by rw[ak];exact cT (show as.length<10000 by omega) (by decide),as++[q1],by simp[hal],fun a o e=>?_,?_,g.fL,fun c hc=>?_,?_,?_,by simp[hal],fun i c r e1 e2=>?_⟩
  ·have h:=g.same a o e
   rw[aH (fun z=>by rw[z,hacc] at e;cases e),aH (fun z=>by rw[z,hq1] at h;cases h)];exact h
  ·rw[aS,cj];rfl
  ·rcases cE.mp hc with z|z
   ·exact g.fa c z
   ·rw[aC.mp z];exact Qp
  ·intro z
   rcases cE.mp z with z|z
   ·exact g.nL z
   ·exact AJ (aC.mp z).symm
  ·rw[lQ]
   exact⟨g.nd,by simp,fun a ha b hb z=>by rw[aC.mp hb] at z;exact BX (z▸ha)⟩
  ·rw[fh] at e2
   split at e2
   ·cases e2
    by_cases hi:i<as.length
    ·rw[eZ hi] at e1
     have hm:=bZ e1
     have h:=g.row i c [] e1 (by rw[fh,if_pos (by omega)])
     rw[aH (fun z=>g.nL (by rw[<-z];exact hm)),aH (fun z=>BX (by rw[<-z];exact hm))];exact h
    ·have:i=as.length:=by omega
     subst this
     rw[ff (aA _),nI] at e1
     cases e1
     rw[aH AJ,aS];rfl
   ·cases e2
 rintro σ1 H1 ⟨as,hal,g⟩
 refine⟨.ref tp,rfl,tp,_,2, .ref NL,rfl,rfl, .of (g.same _ _ htp),rfl,NL,rfl,⟨ys, .of (g.same _ _ Bt)⟩,?_⟩
 refine MQ (xs:=ys) (fun i σ H2=>∃x2 x3 x4 x5:Option V,σ=[some (.ref tp),some (.ref acc),x2,x3,x4,x5]/\iP H H2 acc as (eG n.toNat cs i)) ⟨_,_,_,_,rfl,g⟩ ?_ ?_ ?_
 ·rintro i σ H2 hi ⟨_,_,_,_,_,g2⟩
  exact .of (g2.same _ _ Bt)
 ·rintro i x σ H2 pp hx ⟨x2,x3,x4,x5,rfl,g2⟩ hpp
  have hil:i<cs.length:=by have:=(aJ.mp hx).1;omega
  obtain⟨prs,mC⟩:∃prs,cs[i]?=some prs:=⟨_,aR hil⟩
  obtain⟨x',e1,e2⟩:=hys.get (i:=i) (d:=cN prs) (by rw[bY,mC];rfl)
  rw[hx] at e1;cases e1
  obtain⟨PL,zs,rfl,Se,Di,hzs⟩:=e2.cG
  have Hf:=hzs.length
  rw[ak] at Hf
  have g3:=g2.new (o:= .tup [.int i, .ref PL]) hpp
  refine⟨pp,[.int i, .ref PL],rfl, .of aS,rfl, .int i,[.ref PL],rfl, .ref PL,[],rfl,rfl,?_⟩
  refine⟨.ref PL,rfl,PL,rfl,⟨zs, .of (g3.same _ _ Di)⟩,?_⟩
  refine Fj (xs:=zs) (fun m σ H4=>∃x4 x5:Option V,σ=[some (.ref tp),some (.ref acc),some (.int i),some (.ref PL),x4,x5]/\iP H H4 acc as (eW (eG n.toNat cs i) i (prs.take m))) ⟨_,_,rfl,by simpa[eW] using g3⟩ ?_ ?_ ?_
  ·rintro m σ H4 hm ⟨_,_,_,g4⟩
   exact .of (g4.same _ _ Di)
  ·rintro m z σ H4 hz ⟨x4,x5,rfl,g4⟩
   have hml:m<prs.length:=by have:=(aJ.mp hz).1;omega
   obtain⟨pr,xg⟩:∃pr,prs[m]?=some pr:=⟨_,aR hml⟩
   obtain⟨z',e3,e4⟩:=hzs.get (i:=m) (d:=pairD pr) (by rw[bY,xg];rfl)
   rw[hz] at e3;cases e3
   obtain⟨t,rfl,nt,ht⟩:=Np e4
   obtain⟨k0,k1⟩:=hpl prs (bZ mC) pr (bZ xg)
   have hrl:(eW (eG n.toNat cs i) (i:Int) (prs.take m)).length=n.toNat:=by rw[FE,Dw]
   have SA:=g4.len
   have hk:pr.1.toNat<as.length:=by omega
   have hk2:pr.1.toNat<(eW (eG n.toNat cs i) (i:Int) (prs.take m)).length:=by omega
   obtain⟨c,hc⟩:∃c,as[pr.1.toNat]?=some c:=⟨_,aR hk⟩
   obtain⟨r,hr⟩:∃r,(eW (eG n.toNat cs i) (i:Int) (prs.take m))[pr.1.toNat]?=some r:=⟨_,aR hk2⟩
   have hcl:=g4.row _ _ _ hc hr
   have hrs:=hsh i m prs mC r (bZ hr)
   refine⟨t,_,rfl, .of (g4.same _ _ ht),rfl,_,_,rfl,_,_,rfl,rfl,?_⟩
   refine⟨.ref acc,rfl, .int pr.1,rfl,acc,as.map V.ref,pr.1, .ref c,rfl,rfl, .of g4.hL,jw k0 (by rw[bY,hc];rfl), .inl ⟨rfl,_,aF.of hcl⟩, .int i,rfl,c,r.map V.int, .int i,rfl,rfl,hcl,by rw[ak];exact tR hrs (by decide),_,_,rfl,?_⟩
   rw[take_snoc xg,JV]
   unfold kJ
   rw[g8,hr]
   exact g4.app hc hr
  ·rintro σ H4 ⟨x4,x5,rfl,g4⟩
   rw[Hf,eV] at g4
   refine⟨_,_,_,_,rfl,?_⟩
   rw[Aq mC]
   exact g4
 ·rintro σ H2 ⟨x2,x3,x4,x5,rfl,g2⟩
  rw[hyl] at g2
  exact⟨.ref acc,rfl,q acc as H2 g2⟩
theorem af.Hj{S:Addr->Prop}{H:Hp}:∀{ds:List PyData} {xs:List V},ds.length=xs.length->(∀(i:Nat) d x,ds[i]?=some d->xs[i]?=some x->ah S H d x)->af S H ds xs
 |[],[],_,_=> .nil
 |[],_::_,h,_=>by simp at h
 |_::_,[],h,_=>by simp at h
 |d::ds,x::xs,h,q=> .cons (q 0 d x rfl rfl) (af.Hj (by simpa using h) fun i d' x' e1 e2=>q (i+1) d' x' (by simpa using e1) (by simpa using e2))
section
variable{H0 H H':Hp}{L:Addr}{as:List Addr}{rows:List (List Int)}
theorem iP.vo(g:iP H0 H L as rows){S:Addr->Prop}(hS:∀a,S a->H0 a≠none):ah S H (.list (rows.map bq)) (.ref L):=by
 refine .lst (fun z=>hS L z g.fL) g.hL (af.Hj (by rw[ak,ak,g.len]) fun i d x e1 e2=>?_)
 obtain⟨r,hr,rfl⟩:=dP e1
 rw[bY] at e2
 obtain⟨c,hc,rfl⟩:=jX.mp e2
 exact .lst (fun z=>hS c z (g.fa c (bZ hc))) (g.row i c r hc hr) (lI r)
end
def CY(n:Int)(cs:List aB):Prop:=0<=n/\n<=1000/\(∀prs∈cs,∀pr∈prs,0<=pr.1/\pr.1<n)/\∀i m:Nat,∀prs,cs[i]?=some prs->Short (eW (eG n.toNat cs i) i (prs.take m)) 10000
section
variable{G:Gx}{ρ:Rh}{Φ:Pd}{te:TE}{E:DE}{K:PySem.W.Frag}
theorem Ev.KS(h:Ev G ρ te fun _ x=>∃(p n:Int) (cs:List aB),x=gC p n cs/\CY n cs/\Φ true (.list ((eG n.toNat cs cs.length).map bq))):Ev G ρ (gb uA [] E0 (aK te aQ)) Φ:=fun nb σ H Q W z=>
 h nb σ H _ W fun f v H1 d ⟨p,n,cs,e,⟨h1,h2,h3,h4⟩,q⟩ s1 hv=>by
  subst e
  have W1:=W.step s1
  refine⟨G.S nb f,p,n,cs,v,rfl,W1.iz,hv,h1,h2,h3,h4,fun L as H' g=>?_⟩
  exact z true _ H' _ q (s1.trans (.same W1.az fun a o e=>g.same a o e)) (g.vo fun a q=>W1.iz a q)
end
theorem Jh{rows:List (List Int)}{b:Nat}{c:Int}{pr:Int×Int}(h:Short rows b):Short (kJ rows c pr) (b+1):=fun r hr=>by
 unfold kJ at hr
 rcases List.mem_or_eq_of_mem_set hr with z|z
 ·have:=h r z;omega
 ·subst z
  rw[bR,jT]
  by_cases hk:pr.1.toNat<rows.length
  ·have:(rows.getD pr.1.toNat []).length<=b:=by
    rw[g8,aR hk];exact h _ (jk hk)
   omega
  ·rw[g8,j5 (by omega)]
   simp
theorem we{c:Int}:∀{prs:aB} {rows:List (List Int)} {b:Nat},Short rows b->Short (eW rows c prs) (b+prs.length)
  |[],rows,b,h=>h
  | pr :: prs, rows, b, h => by
    have:=we (c:=c) (prs:=prs) (Jh (c:=c) (pr:=pr) h)
    show Short (eW (kJ rows c pr) c prs) _
    rw[fP,show b+(prs.length+1)=b+1+prs.length by omega]
    exact this
theorem ED(rows:List (List Int)):SeqAt.shaped (.list (rows.map bq))=true:=by
  have h:PyData.depthAll (rows.map bq)<=1/\PyData.canLayAll0 (rows.map bq)=true:=by
    induction rows with
    |nil=>simp[PyData.depthAll,PyData.canLayAll0]
    | cons r rs ih =>
      have h2:=C8 (r.map some)
      have e:(r.map some).map q8=r.map PyData.int:=by rw[jt];rfl
      rw[e] at h2
      simp[PyData.depthAll,PyData.depth,PyData.canLayAll0,PyData.canLay0,h2.1,h2.2,ih.2]
      have:=ih.1
      omega
  unfold SeqAt.shaped
  simp[PyData.canLay0,PyData.depth,h.2]
  have:=h.1
  omega
end L2
set_option maxRecDepth 100000
namespace L2
open PySem PySem.Spec PyProof.Rows
section
variable{κ:Type}[DecidableEq κ]
def eU(kvs:List (κ×V))(k:κ):Option V:=(kvs.find? fun kv=>decide (kv.1=k)).map (·.2)
def putK(kvs:List (κ×V))(k:κ)(v:V):List (κ×V):=
 if(kvs.any fun kv=>decide (kv.1=k))=true then kvs.map (fun kv=>if kv.1=k then(kv.1,v) else kv) else kvs++[(k,v)]
def kj(kvs:List (κ×V))(k:κ):List (κ×V):=kvs.filter fun kv=>decide (kv.1≠k)
theorem Lx{k:κ}:eU ([]:List (κ×V)) k=none:=rfl
theorem tU{p:κ×V}{r:List (κ×V)}{k:κ}(e:p.1=k):eU (p::r) k=some p.2:=by simp[eU,k6,e]
theorem sM{p:κ×V}{r:List (κ×V)}{k:κ}(e:¬p.1=k):eU (p::r) k=eU r k:=by simp[eU,k6,e]
theorem qt(k:κ):∀kvs:List (κ×V),(kvs.any fun kv=>decide (kv.1=k))=(eU kvs k).isSome
  |[]=>rfl
  | p :: r => by
    rw[kg]
    by_cases e:p.1=k
    · simp only[tU e,decide_eq_true e,Bool.true_or,Option.isSome_some]
    · rw[sM e,decide_eq_false e,qT];exact qt k r
theorem CO(kvs:List (κ×V))(k:κ)(v:V):(putK kvs k v).length<=kvs.length+1:=by
 unfold putK
 split
 ·rw[ak];omega
 ·rw[bR,fP,zO];omega
theorem jM.zw{o:Option V}{u:Option Value}(r:jM o u):o.isSome=u.isSome:=by
  cases o with
  | none => cases u with
    |none=>rfl
    |some _=>exact(show False from r).elim
  | some _ => cases u with
    |none=>exact(show False from r).elim
    |some _=>rfl
theorem KV.val{kvs:List (κ×V)}{vs:List (κ×Value)}(r:KV kvs vs)(k:κ):jM (eU kvs k) (valueAt vs k):=by
  unfold KV at r
  induction r with
  |nil=>exact True.intro
  | @cons p q ps qs h t ih =>
    obtain⟨h1,h2⟩:=h
    by_cases e:p.1=k
    · have e':q.1=k:=h1.symm.trans e
      have b:valueAt (q::qs) k=some q.2:=by simp[valueAt,k6,e']
      rw[tU e,b];exact h2
    · have e':¬q.1=k:=fun z=>e (h1.trans z)
      have b:valueAt (q::qs) k=valueAt qs k:=by simp[valueAt,k6,e']
      rw[sM e,b];exact ih
theorem KV.any{kvs:List (κ×V)}{vs:List (κ×Value)}(r:KV kvs vs)(k:κ):(kvs.any fun kv=>decide (kv.1=k))=vs.any fun kv=>decide (kv.1=k):=by
 unfold KV at r
 induction r with
 |nil=>rfl
 |cons h t ih=>rw[kg,kg,ih,h.1]
theorem KV.repl{kvs:List (κ×V)}{vs:List (κ×Value)}(r:KV kvs vs)(k:κ){y:V}{u:Value}(ry:RelV y u):
    KV (kvs.map fun kv=>if kv.1=k then(kv.1,y) else kv) (vs.map fun kv=>if kv.1=k then(kv.1,u) else kv):=by
  unfold KV at r⊢
  induction r with
  |nil=>exact .nil
  | @cons p q ps qs h t ih =>
    rw[aZ,aZ]
    refine .cons ?_ ih
    obtain⟨h1,h2⟩:=h
    by_cases e:p.1=k
    · rw[if_pos e,if_pos (h1.symm.trans e)];exact⟨h1,ry⟩
    · rw[if_neg e,if_neg (fun z=>e (h1.trans z))];exact⟨h1,h2⟩
theorem KV.put{kvs:List (κ×V)}{vs:List (κ×Value)}(r:KV kvs vs)(k:κ){y:V}{u:Value}(ry:RelV y u):KV (putK kvs k y) (stored vs k u):=by
 unfold putK stored
 rw[r.any k]
 by_cases e:(vs.any fun kv=>decide (kv.1=k))=true
 ·rw[if_pos e,if_pos e];exact r.repl k ry
 ·rw[if_neg e,if_neg e];exact Paired.snoc r ⟨rfl,ry⟩
theorem KV.drop{kvs:List (κ×V)}{vs:List (κ×Value)}(r:KV kvs vs)(k:κ):KV (kj kvs k) (without vs k):=by
  unfold KV at r⊢
  unfold kj without
  induction r with
  |nil=>exact .nil
  | @cons p q ps qs h t ih =>
    obtain⟨h1,h2⟩:=h
    rw[i7,i7]
    by_cases e:p.1=k
    · have a:¬decide (p.1≠k)=true:=by simp[e]
      have b:¬decide (q.1≠k)=true:=by simp[h1.symm.trans e]
      rw[if_neg a,if_neg b];exact ih
    · have e':¬q.1=k:=fun z=>e (h1.trans z)
      have a:decide (p.1≠k)=true:=by simp[e]
      have b:decide (q.1≠k)=true:=by simp[e']
      rw[if_pos a,if_pos b];exact .cons ⟨h1,h2⟩ ih
theorem KV.keys{kvs:List (κ×V)}{vs:List (κ×Value)}(r:KV kvs vs):kvs.map (·.1)=vs.map (·.1):=by
 unfold KV at r
 induction r with
 |nil=>rfl
 |cons h t ih=>rw[aZ,aZ,ih,h.1]
theorem KV.length{kvs:List (κ×V)}{vs:List (κ×Value)}(r:KV kvs vs):kvs.length=vs.length:=Paired.length r
theorem De(kvs:List (κ×V))(k:κ):(kj kvs k).length<=kvs.length:=pD _ _
end
theorem om{P:Program}{w:World}{k:Key}{u:Value}(r:RelV (kV k) u):(dQ P w).is k u=true:=by
 cases k with
 |inl i=>obtain⟨t,e⟩:=(show∃t,u=Value.int i t from r);subst e;exact HK P w i t
 |inr x=>obtain⟨t,e⟩:=(show∃t,u=Value.str x t from r);subst e;exact Ng P w x t
theorem Cv{P:Program}{w:World}:∀{ks:List Key} {us:List Value},Vals (ks.map kV) us->ItemsAre (dQ P w) ks us
  |[],_,r=>by rw[k7] at r;cases r;exact .nil
  | k :: ks, _, r => by
    rw[aZ] at r
    cases r with
    |cons h t=>exact .cons (om h) (Cv t)
abbrev KT(H:Hp):List (List Key×V)->List (List Key×Addr×Value)->Prop:=Paired fun p q=>p.1=q.1/\H q.2.1=some (.tup (p.1.map kV))/\RelV p.2 q.2.2
theorem KT.val{H:Hp}{kvs:List (List Key×V)}{xs:List (List Key×Addr×Value)}(r:KT H kvs xs)(k:List Key):jM (eU kvs k) ((atKey xs k).map (·.2)):=by
  induction r with
  |nil=>exact True.intro
  | @cons p q ps qs h t ih =>
    obtain⟨h1,_,h2⟩:=h
    by_cases e:p.1=k
    · have e':q.1=k:=h1.symm.trans e
      have b:atKey (q::qs) k=some q.2:=by simp[atKey,k6,e']
      rw[tU e,b];exact h2
    · have e':¬q.1=k:=fun z=>e (h1.trans z)
      have b:atKey (q::qs) k=atKey qs k:=by simp[atKey,k6,e']
      rw[sM e,b];exact ih
section
variable{P:Program}{w:World}{H:Hp}{h:Heap}{a:Addr}
theorem CD{u:HO}(ok:cM P w H h)(e:Rd H a u):bB P w H h a u:=e.ok ok
theorem u9{kvs:List (Key×V)}(ok:cM P w H h)(e:Rd H a (.dK kvs)):kvs.length<=sizeLine/\(a==sysModules)=false/\∃vs,KV kvs vs/\h.DictOf (dQ P w) a vs:=
 show bB P w H h a (.dK kvs) from CD ok e
theorem AS{kvs:List (Key×V)}(ok:cM P w H h)(e:H a=some (.dK kvs)):kvs.length<=sizeLine/\(a==sysModules)=false/\∃vs,KV kvs vs/\h.DictOf (dQ P w) a vs:=u9 ok (.inl e)
theorem Cj{ks:List Key}(ok:cM P w H h)(e:H a=some (.tup (ks.map kV))):(tupleKind (dQ P w)).is h ks a:=by
 obtain⟨_,its,r,o,h1,h2,n,h3⟩:=(show bB P w H h a (.tup (ks.map kV)) from ok a _ e)
 exact⟨o,its.toArray,n,h1,h2,h3,by simpa using Cv r⟩
theorem Ku{kvs:List (List Key×V)}(ok:cM P w H h)(e:Rd H a (.dT kvs)):kvs.length<=sizeLine/\(a==sysModules)=false/\
    ∃xs,KT H kvs xs/\h.DictOfH (tupleKind (dQ P w)) a xs:=by
  obtain⟨z,y,xs,r,o,es,ep,h1,h2,h3,h4,h5⟩:=(show bB P w H h a (.dT kvs) from CD ok e)
  refine⟨z,y,xs,r,o,es,ep,h1,h2,h3,h4,fun x hx=>?_,h5⟩
  have all:∀{l:List (List Key×V)} {m:List (List Key×Addr×Value)},KT H l m->∀x∈m,(tupleKind (dQ P w)).is h x.1 x.2.1:=by
    intro l m q
    induction q with
    |nil=>intro x hx;exact nomatch hx
    | @cons p q ps qs hq t ih =>
      intro x hx
      rcases bQ.mp hx with e|hx
      · subst e
        exact Cj ok (by rw[<-hq.1];exact hq.2.1)
      · exact ih x hx
  exact all r x hx
end
def pQ(H:Hp)(a:Addr)(y:V)(r:Option V):Prop:=
 (∃kvs k,Rd H a (.dK kvs)/\y=kV k/\r=eU kvs k)\/∃kvs k b,Rd H a (.dT kvs)/\y= .ref b/\H b=some (.tup (k.map kV))/\r=eU kvs k
theorem pQ.k{H:Hp}{a:Addr}{kvs:List (Key×V)}{k:Key}(e:H a=some (.dK kvs)):pQ H a (kV k) (eU kvs k):= .inl ⟨kvs,k, .inl e,rfl,rfl⟩
section
variable{X:Cx}{pins:List (Addr×Obj)}{σ:St}{H:Hp}{s:Shared}{a:Addr}{y v:V}{u r:Value}{o:Option V}{A:Around}{E:Value->Shared->Prop}
theorem Inv.big(I:Inv X pins σ H s):sysModules<s.heap.objs.size:=by
 have h:mainGlobals<s.heap.objs.size:=(I.mod.glob.keeps I.bk).lt
 exact kZ (by decide) h
theorem JA{Q:Value->Shared->Prop}(hu:A.units+1<cLine)(I:Inv X pins σ H s)(g:pQ H a y o)(ry:RelV y u)(h:∀s',Inv X pins σ H s'->Q (.bool o.isSome) s'):
  wpAny (model X.prog X.w) A (compareOp .In u (.ref a)) Q E s:=by
 rcases g with ⟨kvs,k,e,ey,l⟩|⟨kvs,k,b,e,ey,eb,l⟩
 ·subst ey
  obtain⟨z,hd,vs,rel,dd⟩:=u9 I.hok e
  refine wpAny_in_of (om ry) hd dd.mapOf ?_
  rw[<-(rel.val k).zw,<-l]
  exact h _ (I.tok _)
 ·subst ey
  cases (show u=Value.ref b from ry)
  obtain⟨z,hd,xs,rel,dd⟩:=Ku I.hok e
  refine wpAny_in_heap (tupleKind_room_in1 hu) (Cj I.hok eb) hd dd ?_
  have q:=(rel.val k).zw
  rw[Option.isSome_map] at q
  rw[<-q,<-l]
  exact h _ (I.tok _)
theorem yr{h':Heap}{t':Nat}{ob:HO}(I:Inv X pins σ H s)(mu:qk (H a))(hs:Heap.SameBut a s.heap h')(he:∃q,h'.get? a=some q)(new:bB X.prog X.w (upd H a ob) h' a ob):
  Inv X pins σ (upd H a ob) {s with heap:=h',toks:=t'}:=
 I.write (x:=a) (e:=a) mu (.inl rfl) (fun b q hb z=>(hs.2 b hb).trans z) he new
theorem rL{P:Program}{w:World}{H':Hp}{h':Heap}{kvs:List (Key×V)}{vs:List (Key×Value)}(z:kvs.length<=sizeLine)(hd:(a==sysModules)=false)(rel:KV kvs vs)(dd:h'.DictOf (dQ P w) a vs):
  bB P w H' h' a (.dK kvs):=⟨z,hd,vs,rel,dd⟩
end
section
variable{X:Cx}{pins:List (Addr×Obj)}{σ:St}{H:Hp}{s:Shared}{a:Addr}{kvs:List (Key×V)}{k:Key}{u:Value}{A:Around}{E:Value->Shared->Prop}
theorem Sg{Q:Unit->Shared->Prop}(I:Inv X pins σ H s)(e:H a=some (.dK kvs))(ry:RelV (kV k) u)(l:(eU kvs k).isSome=true)(h:∀s',Inv X pins σ (upd H a (.dK (kj kvs k))) s'->Q () s'):
  wpAny (model X.prog X.w) A (delItem (.ref a) u) Q E s:=by
 obtain⟨z,hd,vs,rel,dd⟩:=AS I.hok e
 refine wpAny_delItem_slot dd.typeIs (by decide) Bv
  (call_meetsIn Bv dd.typeIs PySem.F.entry_dict_delitem (PySem.F.args_dict_delitem_2 _ _) (meets_dict_delitem_pairs (dQ X.prog X.w) a (om ry)) ⟨vs,dd,by rw[<-rel.length];exact z,by rw[<-(rel.val k).zw];exact l,fun h' lg hs=>h _ ?_⟩)
 have he:∃q,h'.get? a=some q:=let ⟨q,_,_,hq,_⟩:=lg;⟨q,hq⟩
 exact yr I (by rw[e];exact True.intro) hs he (rL (cL (De kvs k) z) hd (rel.drop k) lg)
theorem MM{v:V}{more:List Value}{Q:Value->Shared->Prop}(I:Inv X pins σ H s)(e:H a=some (.dK kvs))(ry:RelV (kV k) u)(l:eU kvs k=some v)(hm:more=[]\/∃x,more=[x])
  (h:∀w' s',Inv X pins σ (upd H a (.dK (kj kvs k))) s'->RelV v w'->Q w' s'):wpAny (model X.prog X.w) A (call (.builtin "dict.pop") (.ref a::u::more)) Q E s:=by
 obtain⟨z,hd,vs,rel,dd⟩:=AS I.hok e
 obtain⟨w',hw,rw'⟩:=jM.some_of (v:=v) (o:=valueAt vs k) (by rw[<-l];exact rel.val k)
 have hp:(keyPart u).isSome=true:=by
  cases k with
  |inl i=>obtain⟨t,q⟩:=(show∃t,u=Value.int i t from ry);subst q;rfl
  |inr x=>obtain⟨t,q⟩:=(show∃t,u=Value.str x t from ry);subst q;rfl
 have ha:argsOk "dict.pop" ⟨.ref a::u::more,[]⟩:=by
  rcases hm with q|⟨x,q⟩
  ·subst q;exact PySem.F.args_dict_pop_2 _ _
  ·subst q;exact PySem.F.args_dict_pop_3 _ _ _
 refine call_meetsIn xx dd.typeIs PySem.F.entry_dict_pop ha (meets_dict_pop_there (dQ X.prog X.w) a (om ry) more hm hp)
  ⟨vs,w',dd,by rw[<-rel.length];exact z,hw,fun h' lg hs=>h w' _ ?_ rw'⟩
 have he:∃q,h'.get? a=some q:=let ⟨q,_,_,hq,_⟩:=lg;⟨q,hq⟩
 exact yr I (by rw[e];exact True.intro) hs he (rL (cL (De kvs k) z) hd (rel.drop k) lg)
theorem Rt{Q:Value->Shared->Prop}(I:Inv X pins σ H s)(e:Rd H a (.dK kvs))(h:∀t s',Inv X pins σ H s'->Q (.int kvs.length t) s'):wpAny (model X.prog X.w) A (call (.builtin "len") [.ref a]) Q E s:=by
 obtain⟨z,hd,vs,rel,dd⟩:=u9 I.hok e
 refine call_len_dict hd dd (by rw[<-rel.length];rw[sizeLine_eq] at z;omega) ?_
 rw[<-rel.length]
 exact h _ _ (I.tok _)
end
theorem Od{P:Program}{w:World}{H:Hp}(h:Heap)(hb:sysModules<h.objs.size):bB P w H (h.push {cls:= .type "dict",data:= .dict #[]}) h.objs.size (.dK []):=
 ⟨eg _,beq_eq_false_iff_ne.mpr (br (bS hb)),[], .nil,Heap.DictOf.new h⟩
def Gh:TE:=fun _ H Q=>∀p,H p=none->Q (.ref p) (upd H p (.dK []))
section
variable{X:Cx}{pos:Pos}
theorem N7:PE X (.Dict [] [] pos) Gh:=fun pins s σ H Q I h=>
 wpAny_Dict_empty ⟨.ref s.heap.objs.size,_,I.laid (a:=s.heap.objs.size) (o:= .dK []) (t':=s.toks) (fun _ _ q=>bC _ q) (aA _) (Od s.heap I.big),rfl,h _ (I.hok.fresh (aA _))⟩
end
def lA(kvs more:List (Key×V)):List (Key×V):=more.foldl (fun acc kv=>putK acc kv.1 kv.2) kvs
theorem KV.merge:∀{more:List (Key×V)} {rs:List (Key×Value)} {kvs:List (Key×V)} {vs:List (Key×Value)},KV more rs->KV kvs vs->KV (lA kvs more) (merged vs rs):=by
  intro more rs kvs vs r
  unfold KV at r
  induction r generalizing kvs vs with
  |nil=>intro q;exact q
  | @cons p q ps qs h t ih =>
    intro r0
    have e:KV (putK kvs p.1 p.2) (stored vs q.1 q.2):=by
      have:=r0.put p.1 h.2
      rw[<-h.1];exact this
    exact ih e
theorem EN:∀(more kvs:List (Key×V)),(lA kvs more).length<=kvs.length+more.length
  |[],kvs=>by show kvs.length<=kvs.length+0;omega
  | p :: r, kvs => by
    have h1:=EN r (putK kvs p.1 p.2)
    have h2:=CO kvs p.1 p.2
    show(lA (putK kvs p.1 p.2) r).length<=_
    rw[fP];omega
end L2
/-THE LAST THEOREM (shape;LID,My.*are yours):
   My.Adr:a structure of the addresses that your layer names (classes,functions);My.Txt K t:a structure (Prop) of the equations over K;
   My.txt_mk:{K} {implicit addresses ..} (e1:nsIn K mainGlobals "law"=some (some (.ref f))) (e2:K.lookup f=some ⟨oc,od, .func (fnOf "law" "law" params body scope dV kV doc pm an cdv ct),sl⟩) (e3:codeIn K cdv "law"=true) .. :∃t,My.Txt K t
set_option maxRecDepth 100000 in
set_option maxHeartbeats 0 in
(the tactic k_is has no namespace:write k_is)-/
namespace L2
open PySem PySem.Spec PyProof.Rows
section
variable{X:Cx}
theorem Qc:eF X (.builtin "len") (fun xs H Q=>∃a kvs,xs=[V.ref a]/\H a=some (.dK kvs)/\Q (.int kvs.length) H):=by
 intro pins s σ H xs us Q I r h
 obtain⟨a,kvs,rfl,ha,q⟩:=h
 obtain⟨u,rfl,ru⟩:=vals1 r
 cases ru
 exact Rt I (.inl ha) fun t s' I'=>⟨.int kvs.length,H,I',⟨t,rfl⟩,q⟩
end
end L2
set_option maxRecDepth 100000
set_option maxHeartbeats 4000000
namespace L2
open PySem PySem.Spec PyProof.Rows
section
variable{prog:Program}{w:World}{A:Around}{E:Value->Shared->Prop}{s:Shared}
theorem MO{T:String}{r d:Addr}{n:Nat}{P:Nat->Value->Prop}{OK:Heap->Prop}{Q:List Value->Shared->Prop}(K:PySem.W.KdlSrc prog w T r d n P OK)(hh:A.handled=none)(hok:OK s.heap)(hn:n<=sizeLine)
  (hQ:∀h' tk' items,(∀b o,s.heap.get? b=some o->h'.get? b=some o)->s.heap.objs.size<=h'.objs.size->items.length=n->(∀(i:Nat) v,items[i]?=some v->P i v)->Q items {s with heap:=h',toks:=tk'}):wpAny (model prog w) A (collect (.ref r)) Q E s:=by
 obtain⟨lr,ld⟩:=K.there _ hok
 unfold collect
 refine wpAny_bind (wpAny_runValue (codeAny_builtin BD ?_))
 rw[kE Dr _]
 show wpAny _ A.in1 (newList []>>=fun l=>again (.builtin "list.__iadd__" ⟨[l, .ref r],[]⟩)) _ _ s
 refine wpAny_bind (wpAny_newObj_type ?_)
 refine wpAny_pure ⟨plainId_quiet uC _,codeAny_builtin Gk ?_⟩
 rw[kE uC _]
 have gL:(s.heap.push ({cls:= .type "list",data:= .seq ([]:List Value).toArray}:Obj)).get? s.heap.objs.size=some {cls:= .type "list",data:= .seq ([]:List Value).toArray}:=dX _ rfl
 show wpAny _ A.in1 (Builtin.List.listExtendWith (.ref s.heap.objs.size) (.ref r) (.ref s.heap.objs.size)) _ _ {s with heap:=s.heap.push ({cls:= .type "list",data:= .seq ([]:List Value).toArray}:Obj)}
 refine PySem.W.kdl_extend (A:=A) (R:=fun r s'=>match r with
    | .ok (.ret v)=>wpAny (model prog w) A (match v with| .ref x=>(do match(<-load x).data with| .seq xs _=>pure xs.toList|_=>unsupported "internal:collect")|_=>unsupported "internal:collect") Q E s'
    | .ok _=>False
    | .error e=>E e s') (s:={s with heap:=s.heap.push ({cls:= .type "list",data:= .seq ([]:List Value).toArray}:Obj)}) K hh (K.keep _ _ hok fun b _ o e=>bC _ e) s.heap.objs.size (mW lr) (mW ld) _ _ gL (fun h' tk acc' c' hk hS hacc=>?_) hn
 refine wpAny_bind (wpAny_load hS (wpAny_pure ?_))
 refine hQ h' tk acc'.toList (fun b o e=>hk b o (bS (aX e)) (bC _ e)) (gH (aX hS)) (by rw[cF];exact hacc.1) fun i v e=>hacc.2 i v (by rw[<-gz];exact e)
theorem Jo{a:Addr}{vs:List (Key×Value)}{ms:List Int}{Q:Value->Shared->Prop}(hh:A.handled=none)(lo:(a==sysModules)=false)(hd:s.heap.DictOf (dQ prog w) a vs)(hk:vs.map (·.1)=ms.map Sum.inl)(h64:ms.length<64)
    (h:∀h' tk' (l:Addr) (out:List Value) (ns:List Int) (e:Nat),(∀b o,s.heap.get? b=some o->h'.get? b=some o)->s.heap.objs.size<=l->h'.get? l=some (seqObj "list" out.toArray e)->IntsAre out ns->ns.Pairwise (· <= ·)->ns.Perm ms->
      Q (.ref l) {s with heap:=h',toks:=tk'}):wpAny (model prog w) A (call (.builtin "sorted") [.ref a]) Q E s:=by
  obtain⟨ep,hat⟩:=hd.dictAt
  have hvl:vs.length=ms.length:=by have:=congrArg List.length hk;simpa using this
  refine qg kind_sorted plain_sorted entry_sorted (args_sorted1 _) ?_
  unfold Builtin.«sorted»
  refine wpAny_bind (m:=checkCount "sorted" 1 1 _) (wpAny_pure (wpAny_bind ?_))
  refine MO (A:=A.in1) (PySem.W.kdl_dict lo) hh hat (by rw[hvl];exact cL (gH h64) (by decide)) fun h1 wO items k1 k2 hil hit=>?_
  have hI:IntsAre items ms:=by
    have key:∀(its:List Value) (us:List (Key×Value)) (ms:List Int),us.map (·.1)=ms.map Sum.inl->its.length=us.length->(∀(i:Nat) v,its[i]?=some v->∃k x,us[i]?=some (k,x)/\(dQ prog w).is k v=true)->IntsAre its ms:=by
      intro its
      induction its with
      | nil =>
        intro us ms e l _
        cases us with
        | nil => cases ms with
          |nil=>exact .nil
          |cons _ _=>cases e
        |cons _ _=>cases l
      | cons v its ih =>
        intro us ms e l hp
        cases us with
        |nil=>cases l
        | cons u us => cases ms with
          |nil=>cases e
          | cons m ms =>
            have e1:u.1=Sum.inl m:=by injection e
            have e2:us.map (·.1)=ms.map Sum.inl:=by injection e
            obtain⟨k,x,q1,q2⟩:=hp 0 v rfl
            have q1:u=(k,x):=by simpa using q1
            subst q1
            have e1:k=Sum.inl m:=e1
            subst e1
            obtain⟨t,rfl⟩:=rE (k:=m) (v:=v) q2
            exact .cons m t (ih us ms e2 (by simpa using l) fun i v q=>by simpa using hp (i+1) v (by simpa using q))
    exact key items vs ms hk hil hit
  have hlen:items.length=ms.length:=by rw[hil,hvl]
  refine wpAny_bind (wpAny_newList ?_)
  have gL:(h1.push (seqObj "list" items.toArray 0)).get? h1.objs.size=some (seqObj "list" items.toArray 0):=dX _ rfl
  refine wpAny_bind (wpAny_holding (wpAny_call_entry slot_list_sort ⟨_,gL,rfl⟩ entry_list_sort (list_sort_tree gL hI (by omega) fun out ns' a1 a2 a3=>⟨_,rfl,?_⟩) (args_list_sort _)))
  obtain⟨e,he⟩:=sortedHeap_at (out:=out) gL
  refine wpAny_pure ⟨_,rfl,h _ wO h1.objs.size out.toList ns' e (fun b o q=>?_) k2 (by simpa using he) a1 a3 a2⟩
  have lb:=aX (k1 b o q)
  rw[sortedHeap_old (bS lb) (by rw[ju];exact gY lb)]
  exact bC _ (k1 b o q)
end
def p9:List V->Hp->VK->Prop:=fun xs H Q=>∃a,∃kvs:List (Key×V),∃ms:List Int,xs=[.ref a]/\Rd H a (.dK kvs)/\kvs.map (·.1)=ms.map Sum.inl/\ms.length<64/\
 ∀l (rs:List Int),H l=none->rs.Pairwise (· <= ·)->rs.Perm ms->Q (.ref l) (upd H l (.lst (rs.map V.int)))
theorem Gy{X:Cx}(hc:X.calm=true):eF X (.builtin "sorted") p9:=by
 intro pins s σ H xs us Q I rv h
 obtain⟨a,kvs,ms,rfl,hH,hk,h64,q⟩:=h
 obtain⟨u,rfl,ru⟩:=vals1 rv
 cases ru
 obtain⟨z,hd,vs,rel,dd⟩:=u9 I.hok hH
 refine Jo (I.ok.hd hc) hd dd (by rw[<-rel.keys];exact hk) h64 fun h' tk' l out ns e kp hl gl hI pw pp=>?_
 have new:bB X.prog X.w (upd H l (.lst (ns.map V.int))) h' l (.lst (ns.map V.int)):=by
  refine⟨?_,out,e,pT hI,gl⟩
  rw[ak,pp.length_eq];exact cL (gH h64) (by decide)
 exact⟨.ref l,_,I.laid (t':=tk') kp hl new,rfl,q _ _ (I.hok.fresh hl) pw pp⟩
section
variable{X:Cx}
def GF:V->V->V->Hp->(Hp->Prop)->Prop:=fun o i v H Q=>∃a kvs k,o= .ref a/\i=kV k/\H a=some (.dK kvs)/\kvs.length<sizeLine/\Q (upd H a (.dK (putK kvs k v)))
theorem set_dict:rZ X GF:=by
 intro pins s σ H o i v ov iv u Q I ro ri rv h
 obtain⟨a,kvs,k,rfl,rfl,hH,SE,q⟩:=h
 cases ro
 obtain⟨z,hd,vs,rel,dd⟩:=AS I.hok hH
 have hz:vs.length<=sizeLine:=by rw[<-rel.length];exact z
 have hl:(putK kvs k v).length<=sizeLine:=by have:=CO kvs k v;omega
 refine wpAny_setItem_pairs (hsz:=hz) (om ri) dd fun h' lg hs=>?_
 have he:∃q,h'.get? a=some q:=let ⟨q,_,_,hq,_⟩:=lg;⟨q,hq⟩
 exact⟨_,yr I (by rw[hH];exact True.intro) hs he (rL hl hd (rel.put k rv) lg),q⟩
end
end L2
set_option maxRecDepth 100000
set_option maxHeartbeats 4000000
set_option maxRecDepth 100000
set_option maxHeartbeats 4000000
namespace L2
abbrev Cn:=List (Int×Int)
structure Dj(cs:Cn):Prop where
 lF:∀c∈cs,0<=c.1/\c.1<=12/\0<=c.2/\c.2<=10^7
 nd:(cs.map (·.1)).Nodup
 len:cs.length<=14
 pos:∃c∈cs,0<c.1/\0<c.2
def CS:Cn->Rat->Rat
 |[],_=>0
 |c::r,v=>(if 0<c.1 then((c.1*c.2:Int):Rat)*v^(c.1.toNat-1) else 0)+CS r v
def Gj:Cn->Int
 |[]=>0
 |c::r=>c.1*c.2+Gj r
def EY(cs:Cn)(v:Rat):Rat:=CS cs v/(Gj cs:Int)
def JZ(l c:Cn)(s v:Rat):Rat:=s*EY l (1-EY c (1-v))
section
variable{l c:Cn}{s:Rat}(hl:Dj l)(hc:Dj c)(s0:0<=s)
include hl hc s0
end
def DX(x:Rat):Int:= -((-x).floor)
end L2
namespace L2
structure Gw where
 l:Cn
 c:Cn
 s:Rat
 u:Int
def Gw.gr(g:Gw)(x:Int):Rat:=JZ g.l g.c g.s ((x:Rat)/g.u)*g.u
def Gw.lo(g:Gw):Nat->Int
 |0=>(g.s*g.u).floor
 |k+1=>(g.gr (g.lo k)).floor
def Gw.hi(g:Gw):Nat->Int
 |0=>DX (g.s*g.u)
 |k+1=>DX (g.gr (g.hi k))
end L2
set_option maxRecDepth 100000
set_option maxHeartbeats 4000000
namespace L2
open PySem PySem.Spec PyProof.Rows
@[reducible] def Ss(g:Gw)(k:Nat):PyData:= .tuple [.int (g.lo k), .int (g.hi k)]
@[reducible] def SJ(n:Nat):PyData:= .tuple [.str "falls", .int n]
@[reducible] def S4(x:Int):PyData:= .tuple [.str "stays", .int x]
@[reducible] def S5:PyData:= .tuple [.str "open"]
def KR(K:PySem.W.Frag)(n:Nat)(t:iJ):TG:=fun v σ H Q=>∃a xs,v= .ref a/\aF K H a xs/\xs.length=n/\t xs σ H Q
theorem Gv.lst{G:Gx}{ρ:Rh}{f:Bool}{ds:List PyData}{K:PySem.W.Frag}{Θ:Rh->Prop}{n:Nat}{u:iJ}(hl:ds.length=n)(h:pH G ρ u f ds Θ):Gv G ρ (KR K n u) f (.list ds) Θ:=fun nb σ H v Q W hv z=>by
 obtain⟨a,xs,rfl,m,hx,hd⟩:=hv.cG
 exact⟨a,xs,rfl, .of hx,by rw[hd.length];exact hl,h nb σ H xs Q W hd z⟩
end L2
set_option maxRecDepth 100000
set_option maxHeartbeats 4000000
namespace L2
open PySem PySem.Spec PyProof.Rows PySem.W
section
variable{n:Nat}{cmp:Nat->Nat->(Bool->Shared->Prop)->Shared->Prop}{s:Shared}
def VP(n:Nat)(p:Array Nat):Prop:=p.toList.Perm (List.range n)
theorem VP.of{p q:Array Nat}(h:VP n p)(z:q.Perm p):VP n q:=(Br.mp z).trans h
theorem VP.lt{p:Array Nat}(h0:0<n)(h:VP n p)(k:Nat):p.getD k 0<n:=by
 by_cases hk:k<p.size
 ·have e:p.getD k 0=p[k]:=by simp[Array.getD,hk]
  rw[e]
  have m:p[k]∈p.toList:=by simp
  exact jv.mp (h.mem_iff.mp m)
 ·have e:p.getD k 0=0:=by simp[Array.getD,hk]
  rw[e];exact h0
variable(h0:0<n)(hc:∀i j C,i<n->j<n->(∀b,C b s)->cmp i j C s)
include h0 hc
theorem vZ{p:Array Nat}(hp:VP n p){Q:Nat->Shared->Prop}(hQ:∀r,Q r s):∀f m,(kas_asc p f m).kasWp cmp Q s
  |0,m=>hQ m
  | f + 1, m => hc _ _ _ (hp.lt h0 _) (hp.lt h0 _) fun b => by
    cases b with
    |true=>exact hQ m
    |false=>exact vZ hp hQ f (m+1)
theorem tN{Q:Array Nat×Nat×Nat->Shared->Prop}(hQ:∀p m q,VP n p->Q (p,m,q) s):∀f p m q,VP n p->(kas_desc f p m q).kasWp cmp Q s
  |0,p,m,q,hp=>hQ p m q hp
  | f + 1, p, m, q, hp => hc _ _ _ (hp.lt h0 _) (hp.lt h0 _) fun b => by
    cases b with
    | true =>
      simp only[if_true]
      split
      · exact tN hQ f _ _ _ (hp.of (mirror_perm _ _ _ _))
      · exact tN hQ f _ _ _ hp
    | false =>
      simp only[gq,if_false]
      refine hc _ _ _ (hp.lt h0 _) (hp.lt h0 _) fun b=>?_
      cases b with
      |true=>simp only[if_true];exact hQ p m q hp
      |false=>simp only[gq,if_false];exact tN hQ f p (m+1) (q+1) hp
theorem FW{p:Array Nat}(hp:VP n p){Q:Nat×Array Nat->Shared->Prop}(hQ:∀m p,VP n p->Q (m,p) s)(m r:Nat):(kas_tail3 m r p).kasWp cmp Q s:=by
 unfold kas_tail3
 rw[qi]
 have fF:VP n (kas_rev p 0 m):=hp.of (mirror_perm _ _ _ _)
 exact vZ h0 hc fF (fun r=>hQ r _ fF) _ _
theorem FG{p:Array Nat}(hp:VP n p){Q:Nat×Array Nat->Shared->Prop}(hQ:∀m p,VP n p->Q (m,p) s)(m r:Nat):(kas_descPart m r p).kasWp cmp Q s:=by
 unfold kas_descPart
 rw[qi]
 refine tN h0 hc (fun p' m' q' fF=>?_) _ _ _ _ hp
 split
 ·exact FW h0 hc (fF.of (mirror_perm _ _ _ _)) hQ _ _
 ·exact FW h0 hc fF hQ _ _
theorem Ju{p:Array Nat}(hp:VP n p){Q:Nat×Array Nat->Shared->Prop}(hQ:∀m p,VP n p->Q (m,p) s)(r:Nat):(kas_count r p).kasWp cmp Q s:=by
 unfold kas_count
 rw[qi]
 refine vZ h0 hc hp (fun m=>?_) _ _
 split
 ·exact hQ _ _ hp
 split
 ·refine hc _ _ _ (hp.lt h0 _) (hp.lt h0 _) fun b=>?_
  cases b with
  |true=>simp only[if_true];exact hQ _ _ hp
  |false=>simp only[gq,if_false];exact FG h0 hc (hp.of (mirror_perm _ _ _ _)) hQ _ _
 ·exact FG h0 hc hp hQ _ _
theorem Ar{p:Array Nat}(hp:VP n p)(k:Nat){Q:Nat->Shared->Prop}(hQ:∀r,Q r s):∀f l r,(kas_place p k f l r).kasWp cmp Q s
  |0,l,r=>hQ l
  | f + 1, l, r => by
    unfold kas_place
    split
    · exact hQ l
    · refine hc _ _ _ (hp.lt h0 _) (hp.lt h0 _) fun b=>?_
      cases b with
      |true=>simp only[if_true];exact Ar hp k hQ f _ _
      |false=>simp only[gq,if_false];exact Ar hp k hQ f _ _
theorem HC{Q:Array Nat->Shared->Prop}(hQ:∀p,VP n p->Q p s):∀f p k,VP n p->(kas_bin f p k).kasWp cmp Q s
  |0,p,k,hp=>hQ p hp
  | f + 1, p, k, hp => by
    unfold kas_bin
    rw[qi]
    exact Ar h0 hc hp k (fun l=>HC hQ f _ _ (hp.of (bubble_perm _ _ _))) _ _ _
theorem MP{Q:Array Nat->Shared->Prop}(hQ:∀p,VP n p->Q p s):(kas_sort n).kasWp cmp Q s:=by
 unfold kas_sort
 rw[qi]
 refine Ju h0 hc (p:=List.toArray (List.range n)) (by unfold VP;exact .refl _) (fun m p hp=>?_) _
 dsimp only
 split
 ·exact HC h0 hc hQ _ _ _ hp
 ·exact hQ _ hp
end
def kI(h:Heap)(v:Value):Prop:=∃a o i j t u m,v= .ref a/\h.get? a=some o/\o.cls= .type "tuple" /\o.data= .seq #[.int i t, .int j u] m
section
variable{prog:Program}{w:World}{A:Around}{E:Value->Shared->Prop}{s:Shared}
theorem Ru{x y:Value}{C:Bool->Shared->Prop}(hx:kI s.heap x)(hy:kI s.heap y)(h:∀b,C b s):wpAny (model prog w) A (keyLt' (tuples' true) x y) C E s:=by
  obtain⟨a,o,i,j,t,u,m,rfl,h1,h2,h3⟩:=hx
  obtain⟨a',o',i',j',t',u',m',rfl,ET,h2',h3'⟩:=hy
  refine kat_lt h1 h3 ET h3' ?_
  refine kat_cons (wpAny_eqBool_int ?_)
  cases (i==i') with
  | false =>
    refine kat_no ?_
    exact oneLt_int (h _)
  | true =>
    refine kat_yes (kat_cons (wpAny_eqBool_int ?_))
    cases (j==j') with
    | false =>
      refine kat_no ?_
      refine kat_one _ _ (lt_int ?_)
      exact h _
    |true=>exact kat_yes (kat_nil (h _))
theorem QD{M:Model}{vs:List Value}{Q:SortKind->Shared->Prop}(hp:∀v∈vs,kI s.heap v)(hne:0<vs.length)(h:Q (tuples' true) s):wpAny M A (keyKind' vs.toArray) Q E s:=by
  obtain⟨fs,hf,hl,hT⟩:∃fs:List Value,KatTups s.heap vs fs/\fs.length=vs.length/\∀v∈fs,∃i t,v= .int i t:=by
    clear hne h
    induction vs with
    |nil=>exact⟨[], .nil,rfl,fun _ h=>nomatch h⟩
    | cons v r ih =>
      obtain⟨fs,h1,h2,h3⟩:=ih fun x hx=>hp x (dN _ hx)
      obtain⟨a,o,i,j,t,u,m,rfl,g1,g2,g3⟩:=hp v (dB ..)
      refine⟨.int i t::fs, .cons g1 g2 g3 rfl h1,by simp[h2],fun x hx=>?_⟩
      rcases bQ.mp hx with e|hx
      · exact⟨i,t,e⟩
      · exact h3 x hx
  refine kat_kind (T:= .type "int") hf (by omega) (fun v hv=>?_) (by decide) h
  obtain⟨i,t,rfl⟩:=hT v hv
  exact Looks.of_pure rfl
theorem kI.keep{h h':Heap}{v:Value}(x:kI h v)(k:∀b o,h.get? b=some o->h'.get? b=some o):kI h' v:=by
 obtain⟨a,o,i,j,t,u,m,e,h1,h2,h3⟩:=x
 exact⟨a,o,i,j,t,u,m,e,k _ _ h1,h2,h3⟩
theorem OJ{a:Addr}{vs:List Value}{n:Nat}{P:Fin->Shared->Prop}(ho:s.heap.get? a=some (seqObj "list" vs.toArray n))(hp:∀v∈vs,kI s.heap v)(hna:∀v∈vs,v≠ .ref a)(h64:vs.length<64)
  (h:∀out:Array Value,out.toList.Perm vs->P (.done (.ret .none)) {s with heap:=sortedHeap s.heap a vs out}):
  wpAny (model prog w) A (Builtin.«list.sort» ⟨[.ref a],[]⟩) P E s:=by
 rw[list_sort_plain]
 have ha:a<s.heap.objs.size:=aX ho
 refine wpAny_bind (listItems_at ho rfl ?_)
 refine wpAny_bind (listUpdate_at ho rfl ?_)
 obtain⟨e1,pR⟩:∃e1,(s.heap.update a (Obj.mapSeq fun _=> #[])).get? a=some (seqObj "list" #[] e1):=⟨_,get?_update_seq ho (fun _=> #[])⟩
 refine wpAny_bind (seqEpoch_at pR rfl ?_)
 refine wpAny_bind (wpAny_newTuple ?_)
 refine wpAny_bind (wpAny_newList ?_)
 refine wpAny_holding ?_
 have ho6:(((s.heap.update a (Obj.mapSeq fun _=> #[])).push (seqObj "tuple" vs.toArray 0)).push (seqObj "list" #[] 0)).get? a=some (seqObj "list" #[] e1):=by
  rw[oX _ _ _ (by rw[size_push',mJ];exact bS (gY ha)),oX _ _ _ (by rw[mJ];exact bS ha)]
  exact pR
 show wpAny (model prog w) A _ P E {s with heap:=((s.heap.update a (Obj.mapSeq fun _=> #[])).push (seqObj "tuple" vs.toArray 0)).push (seqObj "list" #[] 0)}
 dsimp only
 have hsz:vs.toArray.size=vs.length:=by simp
 have w5:∀v∈vs,kI (((s.heap.update a (Obj.mapSeq fun _=> #[])).push (seqObj "tuple" vs.toArray 0)).push (seqObj "list" #[] 0)) v:=fun v hv=>by
  obtain⟨b,o,i,j,t,u,m,rfl,g1,g2,g3⟩:=hp v hv
  have hb:b≠a:=fun z=>hna _ hv (by rw[z])
  refine⟨b,o,i,j,t,u,m,rfl,bC _ (bC _ ?_),g2,g3⟩
  rw[Heap.get?_update_ne _ _ _ _ hb];exact g1
 by_cases h2:vs.toArray.size<2
 ·rw[if_pos h2,if_pos h2]
  refine wpAny_bind (wpAny_pure ?_)
  rw[StateT.run_pure]
  refine wpAny_bind (wpAny_pure ?_)
  dsimp only
  refine wpAny_bind (seqEpoch_at ho6 rfl ?_)
  refine wpAny_bind (listUpdate_at ho6 rfl ?_ (hsz2:=by rw[zK];show(pairsOf vs).size<=_;rw[pairsOf_size,sizeLine_eq];omega))
  simp only[bne_self_eq_false,gq,if_false]
  refine wpAny_pure (h _ ?_)
  have e:(Array.map (fun x=>x.2) (vs.toArray.zip vs.toArray)).toList=vs:=by
   rw[zU,Array.toList_zip]
   simp[List.map_snd_zip]
  show(Array.map (fun x=>x.2) (vs.toArray.zip vs.toArray)).toList.Perm vs
  rw[e]
 ·rw[if_neg h2,if_neg h2]
  refine wpAny_bind (QD w5 (by omega) ?_)
  refine wpAny_bind (wpAny_mono (kat_run (κ:=tuples' true) (vs:=vs) (ks:=vs) (s:={s with heap:=((s.heap.update a (Obj.mapSeq fun _=> #[])).push (seqObj "tuple" vs.toArray 0)).push (seqObj "list" #[] 0)}) (Q:=fun st' s'=>s'={s with heap:=((s.heap.update a (Obj.mapSeq fun _=> #[])).push (seqObj "tuple" vs.toArray 0)).push (seqObj "list" #[] 0)}/\failedOf st'=none/\((arrOf st').map (·.2)).toList.Perm vs)
   (G:=fun p s'=>s'={s with heap:=((s.heap.update a (Obj.mapSeq fun _=> #[])).push (seqObj "tuple" vs.toArray 0)).push (seqObj "list" #[] 0)}/\VP vs.length p) rfl (by omega) h64 (fun p st' s' g1 g2 g3 ⟨g4,g5⟩=>⟨g4,g3,?_⟩) (MP (n:=vs.length) (by omega) (fun i j C hi hj hC=>?_) fun p hp=>⟨rfl,hp⟩)) ?_ fun _ _ e=>e)
  ·rw[kat_snds rfl g2]
   show(List.map _ _).Perm vs
   have:=g5.map fun i=>vs.getD i Value.none
   refine this.trans (List.Perm.of_eq ?_)
   refine jC fun k=>?_
   rw[bY]
   by_cases hk:k<vs.length
   ·rw[List.getElem?_range hk,aR hk];simp[hk]
   ·rw[j5 (by rw[o7];omega),j5 (by omega)];rfl
  ·rw[kat_ask_eq (vs:=vs) rfl]
   unfold kas_cmp
   rw[kat_item rfl,kat_item rfl]
   refine Ru (w5 _ ?_) (w5 _ ?_) hC
   ·rw[g8,aR hi];exact jk _
   ·rw[g8,aR hj];exact jk _
  rintro⟨⟨⟩,st'⟩ s' ⟨rfl,hf,hs⟩
  dsimp only
  refine wpAny_bind (seqEpoch_at ho6 rfl ?_)
  refine wpAny_bind (listUpdate_at ho6 rfl ?_ (hsz2:=by
   have e:=hs.length_eq
   rw[cF] at e
   rw[sizeLine_eq]
   have e':(Array.map (fun x=>x.2) (arrOf st')).size=vs.length:=e
   omega))
  rw[hf]
  simp only[bne_self_eq_false,gq,if_false]
  exact wpAny_pure (h _ hs)
theorem Lq{l:Addr}{vs:List Value}{Q:Value->Shared->Prop}(hl:s.heap.IsList l vs.toArray)(hp:∀v∈vs,kI s.heap v)(h64:vs.length<64)
  (h:∀out:Array Value,out.toList.Perm vs->Q (.ref (s.heap.objs.size+1)) {s with heap:=sortedAll s.heap vs out}):
  wpAny (model prog w) A (call (.builtin "sorted") [.ref l]) Q E s:=by
 refine qg kind_sorted plain_sorted entry_sorted (args_sorted1 _) ?_
 unfold Builtin.«sorted»
 refine wpAny_bind (m:=checkCount "sorted" 1 1 _) (wpAny_pure ?_)
 refine wpAny_bind (collect_list hl ?_)
 refine wpAny_bind (wpAny_newList ?_)
 have hsz:((s.heap.push (seqObj "list" #[] 0)).update s.heap.objs.size (Obj.mapSeq (· ++vs.toArray))).objs.size=s.heap.objs.size+1:=by
  rw[mJ,size_push']
 have jY:(((s.heap.push (seqObj "list" #[] 0)).update s.heap.objs.size (Obj.mapSeq (· ++vs.toArray))).push (seqObj "list" vs.toArray 0)).get? (s.heap.objs.size+1)=some (seqObj "list" vs.toArray 0):=by
  rw[<-hsz];exact dX _ rfl
 have keep:∀b o,s.heap.get? b=some o->(((s.heap.push (seqObj "list" #[] 0)).update s.heap.objs.size (Obj.mapSeq (· ++vs.toArray))).push (seqObj "list" vs.toArray 0)).get? b=some o:=fun b o q=>by
  have hlt:b<s.heap.objs.size:=aX q
  rw[oX _ _ _ (by rw[hsz];exact bS (gY hlt)),Heap.get?_update_ne _ _ _ _ (bS hlt),oX _ _ _ (bS hlt)]
  exact q
 show wpAny _ _ _ _ _ {s with heap:=((s.heap.push (seqObj "list" #[] 0)).update s.heap.objs.size (Obj.mapSeq (· ++vs.toArray))).push (seqObj "list" vs.toArray 0)}
 rw[hsz]
 refine wpAny_bind (wpAny_holding (wpAny_call_entry slot_list_sort ⟨_,jY,rfl⟩ entry_list_sort (OJ jY (fun v hv=>(hp v hv).keep keep) (fun v hv z=>?_) h64 fun out a1=>⟨_,rfl,?_⟩) (args_list_sort _)))
 ·obtain⟨b,o,i,j,t,u,m,rfl,g1,_⟩:=hp v hv
  have:=aX g1
  have z':b=s.heap.objs.size+1:=by cases z;rfl
  rw[z'] at this
  exact absurd this (Nat.not_lt.mpr (iD _))
 ·exact wpAny_pure ⟨_,rfl,h out a1⟩
end
def z7(K:PySem.W.Frag):List V->Hp->VK->Prop:=fun xs H Q=>∃p ys,xs=[.ref p]/\aF K H p ys/\ys.length<64/\(∀y∈ys,∃a i j,y= .ref a/\H a=some (.tup [.int i, .int j]))/\∀zs:List V,zs.Perm ys->∀l,H l=none->Q (.ref l) (upd H l (.lst zs))
theorem LY:∀{vs us:List Value} {ys:List V},Vals ys vs->us.Perm vs->∃zs,Vals zs us/\zs.Perm ys:=by
  intro vs us ys h p
  induction p generalizing ys with
  |nil=>cases h;exact⟨[], .nil, .refl _⟩
  | cons x p ih =>
    cases h with
    | cons r rr =>
      obtain⟨zs,h1,h2⟩:=ih rr
      exact⟨_::zs, .cons r h1,h2.cons _⟩
  | swap x y l =>
    cases h with
    | cons r rr =>
      cases rr with
      |cons r' rr'=>exact⟨_::_::_, .cons r' (.cons r rr'), .swap ..⟩
  | trans p1 p2 ih1 ih2 =>
    obtain⟨zs,h1,h2⟩:=ih2 h
    obtain⟨ws,h3,h4⟩:=ih1 h1
    exact⟨ws,h3,h4.trans h2⟩
theorem Rn{X:Cx}:eF X (.builtin "sorted") (z7 X.K):=by
  intro pins s σ H xs us Q I rv h
  obtain⟨p,ys,rfl,hp,h64,hy,q⟩:=h
  obtain⟨u,rfl,ru⟩:=vals1 rv
  cases ru
  obtain⟨its,rs,il,hz⟩:=I.list hp
  have hl:=rs.length
  refine Lq (vs:=its) il.isList (fun v hv=>?_) (by omega) fun out ho=>?_
  · obtain⟨k,hk,e⟩:=List.mem_iff_getElem.mp hv
    have hk':k<ys.length:=by omega
    obtain⟨v',hv',Cz⟩:=rs.get (i:=k) (x:=ys[k]) (aR hk')
    have:v'=v:=by rw[aR hk,e] at hv';exact(eS hv').symm
    subst this
    obtain⟨a,i,j,ea,ha⟩:=hy _ (jk hk')
    rw[ea] at Cz
    cases Cz
    obtain⟨_,its2,yu,o,g1,g2,m,g3⟩:=(show bB X.prog X.w H s.heap a (.tup [.int i, .int j]) from I.hok a _ ha)
    cases yu with
    | cons x1 x2 =>
      cases x2 with
      | cons y1 y2 =>
        cases y2
        obtain⟨t,rfl⟩:=x1
        obtain⟨t2,rfl⟩:=y1
        exact⟨a,o,i,j,t,t2,m,rfl,g1,g2,g3⟩
  · obtain⟨zs,h1,h2⟩:=LY rs ho
    obtain⟨e,ge⟩:=sortedAll_at s.heap its out
    have new:bB X.prog X.w (upd H (s.heap.objs.size+1) (.lst zs)) (sortedAll s.heap its out) (s.heap.objs.size+1) (.lst zs):=by
      refine⟨?_,out.toList,e,h1,by simpa using ge⟩
      rw[h2.length_eq];exact cL (gH h64) (by decide)
    exact⟨.ref (s.heap.objs.size+1),_,I.laid (t':=s.toks) (fun b o z=>sortedAll_old z) (iD _) new,rfl,q _ h2 _ (I.hok.fresh (iD _))⟩
theorem Ec{nb:Addr->Prop}{H:Hp}:∀{cs:Cn} {xs:List V},af nb H (cs.map pairD) xs->∀y∈xs,∃a i j,y= .ref a/\H a=some (.tup [.int i, .int j])
  |[],xs,h,y,hy=>by unfold af at h;rw[h] at hy;cases hy
  | c :: r, xs, h, y, hy => by
    unfold af at h
    obtain⟨z,zs,rfl,h1,h2⟩:=h
    rcases bQ.mp hy with e|hy
    · subst e
      obtain⟨a,ws,rfl,n,hx,hd⟩:=h1.ofT
      have:ws=[V.int c.1,V.int c.2]:=kN (is:=[c.1,c.2]) hd
      subst this
      exact⟨a,_,_,rfl,hx⟩
    · exact Ec h2 y hy
theorem Nd{nb:Addr->Prop}{H:Hp}{ys zs:List V}(p:zs.Perm ys):∀{ds:List PyData},af nb H ds ys->∃es,es.Perm ds/\af nb H es zs:=by
  induction p with
  | nil => intro ds h; cases ds with
    |nil=>exact⟨[], .refl _, .nil⟩
    |cons d r=>unfold af at h;obtain⟨_,_,e,_⟩:=h;cases e
  | cons x p ih =>
    intro ds h
    cases ds with
    |nil=>unfold af at h;cases h
    | cons d r =>
      unfold af at h
      obtain⟨y,ys',e,h1,h2⟩:=h
      cases e
      obtain⟨es,h3,h4⟩:=ih h2
      exact⟨d::es,h3.cons _, .cons h1 h4⟩
  | swap x y l =>
    intro ds h
    cases ds with
    |nil=>unfold af at h;cases h
    | cons d r =>
      unfold af at h
      obtain⟨y',ys',e,h1,h2⟩:=h
      cases e
      cases r with
      |nil=>unfold af at h2;cases h2
      | cons d2 r2 =>
        unfold af at h2
        obtain⟨y2,Sq,e,h3,h4⟩:=h2
        cases e
        exact⟨d2::d::r2, .swap .., .cons h3 (.cons h1 h4)⟩
  | trans p1 p2 ih1 ih2 =>
    intro ds h
    obtain⟨es,h1,h2⟩:=ih2 h
    obtain⟨fs,h3,h4⟩:=ih1 h2
    exact⟨fs,h3.trans h1,h4⟩
theorem M9{es ds:List PyData}(h1:es.Perm ds):∀{cs:Cn},cs.map pairD=ds->∃cs':Cn,cs'.Perm cs/\es=cs'.map pairD:=by
  induction h1 with
  |nil=>intro cs hds;exact⟨[],by rw[List.map_eq_nil_iff.mp hds],rfl⟩
  | cons x p ih =>
    intro cs hds
    cases cs with
    |nil=>cases hds
    | cons c r =>
      rw[aZ] at hds
      cases hds
      obtain⟨cs',h1,h2⟩:=ih (cs:=r) rfl
      exact⟨c::cs',h1.cons _,by rw[aZ,h2]⟩
  | swap x y l =>
    intro cs hds
    cases cs with
    |nil=>cases hds
    | cons c r =>
      rw[aZ] at hds
      cases r with
      |nil=>cases hds
      | cons c2 r2 =>
        rw[aZ] at hds
        cases hds
        exact⟨c2::c::r2, .swap ..,rfl⟩
  | trans p1 p2 ih1 ih2 =>
    intro cs hds
    obtain⟨c1,g1,g2⟩:=ih2 hds
    obtain⟨c2,g3,g4⟩:=ih1 g2.symm
    exact⟨c2,g3.trans g1,g4⟩
theorem ay.Qz{G:Gx}{ρ:Rh}{te:TE}{K:PySem.W.Frag}{Θ:Bool->List PyData->Prop}(h:Ev G ρ te fun f x=>∃cs:Cn,x= .list (cs.map pairD)/\cs.length<64/\∀(cs':Cn) (g:Bool),cs'.Perm cs->Θ g (cs'.map pairD)):ay G ρ (dw (z7 K) (aK te aQ)) Θ:=fun nb σ H Q W z=>
 h nb σ H _ W fun f v H1 x ⟨cs,ex,hn,q⟩ s1 hv=>by
  subst ex
  obtain⟨a,xs,rfl,na,hx,hd⟩:=hv.cG
  have hl:=hd.length
  refine⟨a,xs,rfl, .of hx,by rw[hl,ak];exact hn,Ec hd,fun zs hz l iH=>?_⟩
  obtain⟨es,h1,h2⟩:=Nd hz hd
  obtain⟨cs',h3,rfl⟩:=M9 h1 rfl
  exact ay.fin (f:=f) W s1 iH h2 (q cs' _ h3) z
end L2
set_option maxRecDepth 100000
set_option maxHeartbeats 4000000
namespace L2
open PySem PySem.Spec PyProof.Rows PySem.W
section
variable{n:Nat}{key:Nat->Int}{cmp:Nat->Nat->(Bool->Shared->Prop)->Shared->Prop}{s:Shared}
variable(h0:0<n)(hc:∀i j C,i<n->j<n->C (decide (key i<key j)) s->cmp i j C s)
include h0 hc
end
end L2
set_option maxRecDepth 100000
set_option maxHeartbeats 4000000
set_option maxRecDepth 100000
set_option maxHeartbeats 4000000
namespace L2
open PySem PySem.Spec PyProof.Rows
@[reducible] def Sb(l c:Cn)(u p:Int):Gw:=⟨l,c,(p:Rat)/u,u⟩
end L2
set_option maxRecDepth 100000
set_option maxHeartbeats 4000000
namespace L2
open PySem PySem.Spec PyProof.Rows
theorem Tv.lend{G:Gx}{ρ:Rh}{t:TT}{Θ:Bool->Prop}{a:Addr}{f:Bool}{ds:List PyData}(i:Nat)(e:ρ[i]?=some (.own a f ds))(h:Tv G (ρ.set i (.d f (.list ds))) t Θ):Tv G ρ t Θ:=fun nb σ H Q W z=>
 h _ σ H Q (Sv.share W e) z
end L2
set_option maxRecDepth 100000
set_option maxHeartbeats 4000000
namespace L2
open PySem PySem.Spec PyProof.Rows
theorem LJ:typeLookup (.type "list") "keys"=pure none:=by rw[typeLookup_type,builtinLookup_eq_fast];kernel_rfl
theorem J3:typeLookup (.type "list") "__getattr__"=pure none:=by rw[typeLookup_type,builtinLookup_eq_fast];kernel_rfl
section
variable{prog:Program}{w:World}{A:Around}{E:Value->Shared->Prop}{h:Heap}{g:Array GenState}{d:Drawn}{t:Nat}{os:OsState}{a:Addr}{o:Obj}
theorem Nt{tk:Tok}{Q:Fin->Shared->Prop}{xs:Array Value}{n:Nat}(hh:A.handled=none)(hx:h.get? a=some (seqObj "list" xs n))
  (hq:∀h' tk e,Heap.NewAttrErr h h' e (.ref a) "keys" ->E (.ref e) ⟨h',g,d,tk,os⟩):
  wpAny (model prog w) A (Builtin.«object.__getattribute__» ⟨[.ref a, .str "keys" tk],[]⟩) Q E ⟨h,g,d,t,os⟩:=by
 have hT:(⟨h,g,d,t,os⟩:Shared).TypeIs (.ref a) "list":=⟨_,hx,rfl⟩
 have f4:=LJ
 unfold Builtin.«object.__getattribute__»
 repeat (any_goals (first|assumption|wp_step))
 exact wpAny_raiseAttrError hh hq (attrMsg_fits (by decide+kernel) (by size_fits))
theorem Kc{tk:Tok}{R:Result->Shared->Prop}{xs:Array Value}{n:Nat}(hh:A.handled=none)(hx:h.get? a=some (seqObj "list" xs n))(hq:∀h' tk e,Heap.NewAttrErr h h' e (.ref a) "keys" ->R (.error (.ref e)) ⟨h',g,d,tk,os⟩):
  codeAny (model prog w) A (.call (.builtin "list.__getattribute__") ⟨[.ref a, .str "keys" tk],[]⟩) R ⟨h,g,d,t,os⟩:=
 codeAny_call_builtin tQ.plain PySem.F.entry_list_ga (tQ.check _ _ _ _ _ _ _ _ (show(⟨h,g,d,t,os⟩:Shared).TypeIs (.ref a) "list" from⟨_,hx,rfl⟩) (PySem.F.args_list_getattribute_2 _ _) (Nt (by exact hh) hx hq))
theorem Jd{Q:Option Value->Shared->Prop}{xs:Array Value}{n:Nat}(hh:A.handled=none)(hx:h.get? a=some (seqObj "list" xs n))
  (hq:∀h' tk,(∀b ob,h.get? b=some ob->h'.get? b=some ob)->Q none ⟨h',g,d,tk,os⟩):wpAny (model prog w) A (getAttr? (.ref a) "keys") Q E ⟨h,g,d,t,os⟩:=by
 have hT:(⟨h,g,d,t,os⟩:Shared).TypeIs (.ref a) "list":=⟨_,hx,rfl⟩
 have f1:=sub_AttributeError
 have f2:=tQ.lookup
 have f3:=tQ.bind (.ref a)
 have f5:=J3
 unfold getAttr? getAttrBy? getAttrBy
 repeat (any_goals (first|assumption|wp_step))
 refine Kc hh hx fun h' tk e hx'=>?_
 obtain⟨t',u',he⟩:=hx'.there
 unfold getattributeRaised
 repeat (any_goals (first|assumption|wp_step))
 exact hq _ _ hx'.keeps
end
end L2
set_option maxRecDepth 100000
set_option maxHeartbeats 4000000
namespace L2
open PySem PySem.Spec PyProof.Rows
theorem B5:entryFor table "dict.update.loop"=some Builtin.«dict.update.loop» :=entryFor_of_tree (by kernel_rfl)
theorem tG:plainId "dict.update.loop"=true:=by decide+kernel
def sX(P:Program)(w:World)(h:Heap)(v:Value)(p:Key×Value):Prop:=∃a o m ku,v= .ref a/\h.get? a=some o/\o.cls= .type "tuple" /\o.data= .seq #[ku,p.2] m/\(dQ P w).is p.1 ku=true
section
variable{prog:Program}{w:World}{A:Around}{E:Value->Shared->Prop}{s:Shared}
theorem RA{R:Result->Shared->Prop}{d it l:Addr}{its:List Value}{ps:List (Key×Value)}(hh:A.in1.handled=none)(hdl:d≠l)(hdi:d≠it)(hil:l≠it)(hlen:its.length=ps.length)(hsz:its.length<=10000):
    ∀(k i:Nat) (s:Shared) (t:Tok),its.length-i=k->i<=its.length->s.heap.IsListIter it l i->s.heap.IsList l its.toArray->(∀(j:Nat) (v:Value) (p:Key×Value),its[j]?=some v->ps[j]?=some p->sX prog w s.heap v p)->(∀(j:Nat) (v:Value),its[j]?=some v->v≠Value.ref d/\v≠Value.ref it)->
      s.heap.DictOf (dQ prog w) d (merged [] (ps.take i))->(merged [] (ps.take i)).length<=i->
      (∀h' tk,(∀b o,b≠d->b≠it->s.heap.get? b=some o->h'.get? b=some o)->h'.DictOf (dQ prog w) d (merged [] ps)->R (.ok (.ret .none)) {s with heap:=h',toks:=tk})->
      codeAny (model prog w) A (.builtin "dict.update.loop" ⟨[.ref d, .ref it, .int i t, .none],[]⟩) R s:=by
  intro k
  induction k with
  | zero =>
    intro i s t hk hi hit hl hp hne hD rq hR
    have hin:i=its.length:=by omega
    subst hin
    refine codeAny_builtin B5 ?_
    rw[kE tG _]
    show wpAny _ A.in1 (pyNext (.ref it)>>=_) _ _ s
    refine wpAny_bind (wpAny_pyNext_list_end hh hit hl (by simp) fun h' he=>?_)
    show wpAny _ A.in1 (ret Value.none) _ _ _
    rw[hlen,eV] at hD
    exact wpAny_pure (hR h' s.toks (fun b o _ n e=>he b o n e) (hD.extBut he hdi))
  | succ k ih =>
    intro i s t hk hi hit hl hp hne hD rq hR
    have hlt:i<its.length:=by omega
    obtain⟨v,hv⟩:∃v,its[i]?=some v:=⟨_,aR hlt⟩
    obtain⟨p,hpp⟩:∃p,ps[i]?=some p:=⟨_,aR (by omega)⟩
    obtain⟨hn1,hn2⟩:=hne i v hv
    obtain⟨a,o,m,ku,rfl,g1,g2,g3,g4⟩:=hp i v p hv hpp
    have had:a≠d:=fun z=>hn1 (by rw[z])
    have hai:a≠it:=fun z=>hn2 (by rw[z])
    refine codeAny_builtin B5 ?_
    rw[kE tG _]
    show wpAny _ A.in1 (pyNext (.ref it)>>=_) _ _ s
    refine wpAny_bind (wpAny_pyNext_list_item hit hl (x:= .ref a) (by simpa using hv) fun h1 Io xo=>?_)
    have lH:h1.get? a=some o:=(xo.2 a hai).trans g1
    have hT:(⟨h1,s.gens,s.drawn,s.toks,s.os⟩:Shared).TypeIs (.ref a) "tuple":=⟨o,lH,g2⟩
    show wpAny _ A.in1 (holding [Value.ref a] _>>=_) _ _ _
    refine wpAny_bind (wpAny_holding (wpAny_bind (wpAny_tryCatch ?_)))
    show wpAny _ A.in1 (Builtin.Dict.pairItems (.ref a)) _ _ _
    unfold Builtin.Dict.pairItems
    refine wpAny_bind (wpAny_typeOf hT ?_)
    rw[if_pos (by decide)]
    refine wpAny_bind (wpAny_seqItems lH g3 (wpAny_pure ?_))
    show wpAny _ A.in1 (holding [ku,p.2] (dictSet d ku p.2)) _ _ _
    have sL:h1.DictOf (dQ prog w) d (merged [] (ps.take i)):=hD.sameBut xo hdi
    refine wpAny_holding (wpAny_dictSet_pairs (s:=⟨h1,s.gens,s.drawn,s.toks,s.os⟩) g4 sL (fun h2 sH Gm=>?_) (cL rq (cL hi (cL hsz (by decide)))))
    have e:stored (merged [] (ps.take i)) p.1 p.2=merged [] (ps.take (i+1)):=by rw[take_snoc hpp];unfold merged;rw[tB];rfl
    rw[e] at sH
    have kk:∀b o,b≠d->b≠it->s.heap.get? b=some o->h2.get? b=some o:=fun b o n1 n2 z=>(Gm.2 b n1).trans ((xo.2 b n2).trans z)
    refine wpAny_pure ⟨plainId_quiet tG _,ih (i+1) ⟨h2,s.gens,s.drawn,s.toks+1,s.os⟩ _ (by omega) hlt ?_ ?_ ?_ hne sH ?_ fun h' tk k' vg=>?_⟩
    · exact Io.at fun o z=>(Gm.2 it (br hdi)).trans z
    · exact hl.at fun o z=>kk l o (br hdl) hil z
    · intro j v' p' hv' fF
      obtain⟨hn1,hn2⟩:=hne j v' hv'
      obtain⟨a,o,m,ku,rfl,q1,q2,q3,q4⟩:=hp j v' p' hv' fF
      exact⟨a,o,m,ku,rfl,kk a o (fun z=>hn1 (by rw[z])) (fun z=>hn2 (by rw[z])) q1,q2,q3,q4⟩
    · rw[<-e]
      unfold stored
      split
      · rw[ak];omega
      · rw[bR,jT];omega
    · exact hR h' tk (fun b o n1 n2 z=>k' b o n1 n2 (kk b o n1 n2 z)) vg
theorem Qv{l:Addr}{its:List Value}{n:Nat}{ps:List (Key×Value)}{Q:Value->Shared->Prop}(hh:A.handled=none)(hlo:s.heap.get? l=some (seqObj "list" its.toArray n))(hlen:its.length=ps.length)(hsz:its.length<=10000)
  (hp:∀(j:Nat) (v:Value) (p:Key×Value),its[j]?=some v->ps[j]?=some p->sX prog w s.heap v p)
  (h:∀h' tk,h'.DictOf (dQ prog w) s.heap.objs.size (merged [] ps)->(∀b o,s.heap.get? b=some o->h'.get? b=some o)->Q (.ref s.heap.objs.size) {s with heap:=h',toks:=tk}):
  wpAny (model prog w) A (call (.type "dict") [.ref l]) Q E s:=by
 refine callType_codes (Q₁:=fun obj s₁=>obj= .ref s.heap.objs.size/\s₁={s with heap:=s.heap.push {cls:= .type "dict",data:= .dict #[]}}) PySem.F.kt_called_dict (PySem.F.kt_typeCall_dict_1 _) PySem.F.entry_dict_init (kt_code_dict_new _ ⟨rfl,rfl⟩) ?_
 rintro obj s₁ ⟨rfl,rfl⟩
 have hnew:(s.heap.push {cls:= .type "dict",data:= .dict #[]}).DictOf (dQ prog w) s.heap.objs.size []:=Heap.DictOf.new s.heap
 have hl1:(s.heap.push {cls:= .type "dict",data:= .dict #[]}).get? l=some (seqObj "list" its.toArray n):=bC _ hlo
 have iH:l<s.heap.objs.size:=aX hlo
 refine⟨hnew.typeIs,PySem.F.args_dict_init_2 _ _,?_⟩
 unfold Builtin.«dict.__init__»
 refine wpAny_bind ?_
 unfold Builtin.Dict.selfAndRest
 refine wpAny_bind (wpAny_notOrdered_dict hnew.typeIs ?_)
 show wpAny _ _ (pure (s.heap.objs.size,[Value.ref l])) _ _ _
 refine wpAny_pure ?_
 show wpAny _ _ (Builtin.Dict.updateFrom "dict.__init__" s.heap.objs.size (.ref l) [] .none) _ _ _
 unfold Builtin.Dict.updateFrom
 refine wpAny_bind (wpAny_typeOf (T:="list") ⟨_,hl1,rfl⟩ ?_)
 rw[if_pos (by decide)]
 refine wpAny_bind (Jd (A:=A.in1.in1) hh hl1 fun h1 tk k1=>?_)
 rw[if_pos (show(none:Option Value).isNone=true from rfl)]
 refine wpAny_bind (wpAny_rule (wpAny_bind ?_))
 have hl2:h1.get? l=some (seqObj "list" its.toArray n):=k1 _ _ hl1
 have sL:h1.DictOf (dQ prog w) s.heap.objs.size []:=let ⟨o',es,ep,ho,r⟩:=hnew;⟨o',es,ep,k1 _ _ ho,r⟩
 have hs1:s.heap.objs.size<h1.objs.size:=by obtain⟨o',es,ep,ho,_⟩:=sL;exact aX ho
 have FQ:h1.IsList l its.toArray:=⟨_,hl2,rfl,n,rfl⟩
 refine wpAny_pyIter_list FQ ?_
 refine wpAny_pure ⟨plainId_quiet tG _,?_⟩
 refine RA (A:=A.in1) (its:=its) (ps:=ps) hh (br (bS iH)) (bS hs1) (bS (kZ iH hs1)) hlen hsz its.length 0 _ _ (by omega) (eg _) ⟨_,dX _ rfl,rfl,rfl⟩ (FQ.push _) ?_ ?_ (sL.push _) (aA _) fun h' tk' k' vg=>?_
 ·intro j v p hv hpp
  obtain⟨a,o,m,ku,rfl,q1,q2,q3,q4⟩:=hp j v p hv hpp
  exact⟨a,o,m,ku,rfl,bC _ (k1 _ _ (bC _ q1)),q2,q3,q4⟩
 ·intro j v hv
  obtain⟨p,hpp⟩:∃p,ps[j]?=some p:=⟨_,aR (by have:=(aJ.mp hv).1;omega)⟩
  obtain⟨a,o,m,ku,rfl,q1,_⟩:=hp j v p hv hpp
  have la:=aX q1
  refine⟨fun z=>?_,fun z=>?_⟩
  ·cases z;exact absurd la (fG _)
  ·have z':a=h1.objs.size:=by cases z;rfl
   rw[z'] at la
   exact absurd (kZ la hs1) (fG _)
 ·refine⟨rfl,h h' tk' vg fun b o z=>?_⟩
  have lb:=aX z
  exact k' b o (bS lb) (bS (kZ lb hs1)) (bC _ (k1 _ _ (bC _ z)))
end
def wR:List V->Hp->VK->Prop:=fun xs H Q=>∃(l:Addr) (ys:List V) (kvs:List (Key×V)),xs=[.ref l]/\H l=some (.lst ys)/\ys.length=kvs.length/\ys.length<=10000/\
 (∀(j:Nat) (y:V) (p:Key×V),ys[j]?=some y->kvs[j]?=some p->∃a,y= .ref a/\H a=some (.tup [kV p.1,p.2]))/\∀d,H d=none->Q (.ref d) (upd H d (.dK (lA [] kvs)))
theorem J8{X:Cx}(hc:X.calm=true):eF X (.type "dict") wR:=by
  intro pins s σ H xs us Q I rv h
  obtain⟨l,ys,kvs,rfl,hH,hlen,hsz,hy,q⟩:=h
  obtain⟨u,rfl,ru⟩:=vals1 rv
  cases ru
  obtain⟨_,its,n,rs,h1⟩:=(show bB X.prog X.w H s.heap l (.lst ys) from I.hok l _ hH)
  have hli:=rs.length
  have key:∃ps:List (Key×Value),KV kvs ps/\∀(j:Nat) (v:Value) (p:Key×Value),its[j]?=some v->ps[j]?=some p->sX X.prog X.w s.heap v p:=by
    have gen:∀(ys:List V) (its:List Value) (kvs:List (Key×V)),Vals ys its->ys.length=kvs.length->(∀(j:Nat) (y:V) (p:Key×V),ys[j]?=some y->kvs[j]?=some p->∃a,y= .ref a/\H a=some (.tup [kV p.1,p.2]))->∃ps:List (Key×Value),KV kvs ps/\∀(j:Nat) (v:Value) (p:Key×Value),its[j]?=some v->ps[j]?=some p->sX X.prog X.w s.heap v p:=by
      intro ys
      induction ys with
      | nil =>
        intro its kvs r e _
        cases r
        cases kvs with
        |nil=>exact⟨[], .nil,fun j v p z=>by simp at z⟩
        |cons _ _=>cases e
      | cons y ys ih =>
        intro its kvs r e hq
        cases r with
        | cons r1 r2 =>
          cases kvs with
          |nil=>cases e
          | cons kv kvs =>
            obtain⟨ps,g1,g2⟩:=ih _ kvs r2 (by simpa using e) fun j y p a b=>hq (j+1) y p (by simpa using a) (by simpa using b)
            obtain⟨a,rfl,ha⟩:=hq 0 y kv rfl rfl
            cases r1
            obtain⟨_,its2,yu,o,w1,w2,m,w3⟩:=(show bB X.prog X.w H s.heap a (.tup [kV kv.1,kv.2]) from I.hok a _ ha)
            cases yu with
            | cons x1 x2 =>
              cases x2 with
              | cons y1 y2 =>
                cases y2
                refine⟨(kv.1,_)::ps, .cons ⟨rfl,y1⟩ g1,fun j v p a b=>?_⟩
                cases j with
                | zero =>
                  simp at a b
                  subst a b
                  exact⟨_,o,m,_,rfl,w1,w2,w3,om x1⟩
                |succ j=>exact g2 j v p (by simpa using a) (by simpa using b)
    exact gen ys its kvs rs hlen hy
  obtain⟨ps,rel,hps⟩:=key
  have hpl:=rel.length
  refine Qv (I.ok.hd hc) h1 (by omega) (by omega) hps fun h' tk' hD k=>?_
  have hml:=EN kvs []
  have new:bB X.prog X.w (upd H s.heap.objs.size (.dK (lA [] kvs))) h' s.heap.objs.size (.dK (lA [] kvs)):=by
    refine rL (cL hml (cL (show _<=10000 by simp;omega) (by decide))) ?_ (rel.merge .nil) hD
    have hb:=I.big
    have:s.heap.objs.size≠sysModules:=mW hb
    simpa using this
  exact⟨.ref s.heap.objs.size,_,I.laid (t':=tk') k (aA _) new,rfl,q _ (I.hok.fresh (aA _))⟩
end L2
set_option maxRecDepth 100000
set_option maxHeartbeats 4000000
namespace L2
open PySem PySem.Spec PyProof.Rows
abbrev Ks:=List (Int×PyData)
def j6(ks:Ks)(k:Int):Option PyData:=(ks.find? fun p=>decide (p.1=k)).map (·.2)
def gu(ks:Ks)(k:Int):Bool:=ks.any fun p=>decide (p.1=k)
def jU(ks:Ks)(k:Int)(d:PyData):Ks:=if gu ks k then ks.map fun p=>if p.1=k then(p.1,d) else p else ks++[(k,d)]
def nW(ks:Ks)(k:Int):Ks:=ks.filter fun p=>decide (p.1≠k)
theorem Ds(ks:Ks)(k:Int):(j6 ks k).isSome=gu ks k:=by
  unfold j6 gu
  rw[Option.isSome_map]
  induction ks with
  |nil=>rfl
  | cons p r ih =>
    rw[k6,kg]
    by_cases h:p.1=k
    · simp[h]
    · simp only[h,decide_false,qT];exact ih
theorem JW{ks:Ks}{k:Int}:gu ks k=true↔k∈ks.map (·.1):=by
 unfold gu
 rw[pU,cY]
 constructor
 ·rintro⟨p,h1,h2⟩;exact⟨p,h1,by simpa using h2⟩
 ·rintro⟨p,h1,h2⟩;exact⟨p,h1,by simpa using h2⟩
theorem HZ{k:Int}:j6 [] k=none:=rfl
theorem sq{p:Int×PyData}{r:Ks}{k:Int}:j6 (p::r) k=if p.1=k then some p.2 else j6 r k:=by
 unfold j6
 rw[k6]
 by_cases h:p.1=k<;>simp[h]
theorem SV{ks:Ks}{k j:Int}{d:PyData}:j6 (ks++[(k,d)]) j=match j6 ks j with|some x=>some x|none=>if j=k then some d else none:=by
  induction ks with
  | nil =>
    rw[List.nil_append,sq,HZ]
    by_cases h:k=j
    · subst h;simp
    · have h':¬j=k:=fun z=>h z.symm
      simp[h,h']
  | cons p r ih =>
    rw[nv,sq,sq,ih]
    by_cases h:p.1=j<;>simp[h]
section
variable{S:Addr->Prop}{H:Hp}
theorem au.val:∀{ks:Ks} {ps:List (Key×V)} (k:Int),au S H (ks.map cy) ps->match j6 ks k with|some d=>∃v,eU ps (Sum.inl k)=some v/\ah S H d v|none=>eU ps (Sum.inl k)=none
  |[],ps,k,h=>by unfold au at h;subst h;exact Lx
  | p :: r, ps, k, h => by
    rw[aZ] at h
    unfold au at h
    obtain⟨q,qs,rfl,h1,h2⟩:=h
    unfold bI at h1
    obtain⟨h3,h4⟩:=h1
    have h3:q.1=Sum.inl p.1:=h3
    rw[sq]
    have ih:=au.val k h2
    by_cases e:p.1=k
    · rw[if_pos e]
      refine⟨q.2,?_,h4⟩
      rw[tU (by rw[h3,e])]
    · rw[if_neg e,sM (fun z=>e (by rw[h3] at z;exact wo z))]
      exact ih
theorem au.snoc:∀{ks:Ks} {ps:List (Key×V)} {k:Int} {d:PyData} {v:V},au S H (ks.map cy) ps->ah S H d v->au S H ((ks++[(k,d)]).map cy) (ps++[(Sum.inl k,v)])
  | [], ps, k, d, v, h, hd => by
    unfold au at h;subst h
    show au S H [cy (k,d)] [(Sum.inl k,v)]
    unfold au
    exact⟨_,_,rfl,by unfold bI;exact⟨rfl,hd⟩,by unfold au;rfl⟩
  | p :: r, ps, k, d, v, h, hd => by
    rw[aZ] at h
    unfold au at h
    obtain⟨q,qs,rfl,h1,h2⟩:=h
    rw[nv,aZ,nv]
    unfold au
    exact⟨q,_,rfl,h1,au.snoc h2 hd⟩
theorem au.repl:∀{ks:Ks} {ps:List (Key×V)} {k:Int} {d:PyData} {v:V},au S H (ks.map cy) ps->ah S H d v->au S H ((ks.map fun p=>if p.1=k then(p.1,d) else p).map cy) (ps.map fun kv=>if kv.1=Sum.inl k then(kv.1,v) else kv)
  |[],ps,k,d,v,h,hd=>by unfold au at h;subst h;simp only[k7];unfold au;rfl
  | p :: r, ps, k, d, v, h, hd => by
    rw[aZ] at h
    unfold au at h
    obtain⟨q,qs,rfl,h1,h2⟩:=h
    rw[aZ,aZ,aZ]
    unfold bI at h1
    obtain⟨h3,h4⟩:=h1
    have h3:q.1=Sum.inl p.1:=h3
    unfold au
    refine⟨_,_,rfl,?_,au.repl h2 hd⟩
    by_cases e:p.1=k
    · rw[if_pos e,if_pos (by rw[h3,e])]
      unfold bI
      exact⟨h3,hd⟩
    · rw[if_neg e,if_neg (fun z=>e (by rw[h3] at z;exact wo z))]
      unfold bI
      exact⟨h3,h4⟩
theorem au.any:∀{ks:Ks} {ps:List (Key×V)} (k:Int),au S H (ks.map cy) ps->(ps.any fun kv=>decide (kv.1=Sum.inl k))=gu ks k:=fun{ks ps} k h=>by
 rw[qt,<-Ds]
 have:=au.val k h
 cases hv:j6 ks k with
 |none=>rw[hv] at this;rw[this];rfl
 |some d=>rw[hv] at this;obtain⟨v,e,_⟩:=this;rw[e];rfl
theorem au.put{ks:Ks}{ps:List (Key×V)}{k:Int}{d:PyData}{v:V}(h:au S H (ks.map cy) ps)(hd:ah S H d v):au S H ((jU ks k d).map cy) (putK ps (Sum.inl k) v):=by
 unfold jU putK
 rw[au.any k h]
 split
 ·exact au.repl h hd
 ·exact au.snoc h hd
theorem au.len:∀{ks:Ks} {ps:List (Key×V)},au S H (ks.map cy) ps->ps.length=ks.length
  |[],ps,h=>by unfold au at h;subst h;rfl
  | p :: r, ps, h => by
    rw[aZ] at h
    unfold au at h
    obtain⟨q,qs,rfl,_,h2⟩:=h
    simp[au.len h2]
theorem au.keys:∀{ks:Ks} {ps:List (Key×V)},au S H (ks.map cy) ps->ps.map (·.1)=(ks.map (·.1)).map Sum.inl
  |[],ps,h=>by unfold au at h;subst h;rfl
  | p :: r, ps, h => by
    rw[aZ] at h
    unfold au at h
    obtain⟨q,qs,rfl,h1,h2⟩:=h
    unfold bI at h1
    have h3:q.1=Sum.inl p.1:=h1.1
    simp[au.keys h2,h3]
end
def ny(G:Gx)(ρ:Rh)(te:TE)(Φ:Bool->Ks->Prop):Prop:=∀nb σ H (Q:VK),Wd G nb ρ σ H->
 (∀f a ps H' ks,Φ f ks->Step G.B H H'->H a=none->H' a=some (.dK ps)->au (fun x=>G.S nb f x\/x=a) H' (ks.map cy) ps->Q (.ref a) H')->te σ H Q
section
variable{G:Gx}{ρ cB:Rh}{Φ Ψ:Pd}{ta tb te:TE}{t:TA}{i:Nat}{f g:Bool}{d e:PyData}{ks:Ks}{K:PySem.W.Frag}{E:DE}{Θ:Bool->Ks->Prop}
theorem Wd.grow{nb:Addr->Prop}{σ:St}{H H1:Hp}{a:Addr}{o:HO}(W:Wd G nb ρ σ H)(s1:Step G.B H H1)(ha:H a=none)(e:H1 a=some o):Wd G (fun x=>nb x\/x=a) ρ σ H1/\NB G.B a/\∀f x,G.S (fun x=>nb x\/x=a) f x->(G.S nb f x\/x=a):=by
  have hN:NB G.B a:=NB.new W.az ha
  have hA:∀f x,G.S (fun x=>nb x\/x=a) f x->(G.S nb f x\/x=a):=fun f x z=>by
    rcases z with (z|z)|z|z|z
    · exact .inl (.inl z)
    · exact .inr z
    · exact .inl (.inr (.inl z))
    · exact .inl (.inr (.inr (.inl z)))
    · exact .inl (.inr (.inr (.inr z)))
  have W1:=W.step s1
  refine⟨?_,hN,hA⟩
  refine⟨W1.az,fun x n=>?_,W1.old,fun x n q=>?_,W.gA,W.len,W.gB,fun h m=>(((W.fO h m).fresh ha).keep (s1.but fun x z=> .inl (.inr (.inr (.inl z))))).av (hA h.1),fun j s e'=>?_,W.apart,W.eH,W.cR⟩
  · rcases n with n|n
    · exact W1.live x n
    · subst n;rw[e];exact iu _
  · rcases n with n|n
    · exact W.cK x n q
    · subst n
      cases z:G.H0 x with
      |none=>rfl
      |some o=>rw[W.old x o q z] at ha;cases ha
  · obtain⟨x,e1,h⟩:=W.ok j s e'
    refine⟨x,e1,?_⟩
    cases s with
    |no=>trivial
    |d f d=>obtain⟨v,e,h⟩:=h;exact⟨v,e,((h.fresh ha).keep (s1.but fun x z=> .inl (.inr (.inr (.inl z))))).av (hA f)⟩
    |own c f es=>obtain⟨e,n,q,xs,hx,hd⟩:=h;exact⟨e, .inl n,q,xs,s1.1 _ _ q hx,((hd.fresh ha).keep (s1.but fun x z=> .inl (.inr (.inr (.inl z))))).av (hA f)⟩
    |az=>exact h
    |raw v=>exact h
    |bf c f es=>obtain⟨e,n,q,xs,hx,hd⟩:=h;exact⟨e, .inl n,q,xs,s1.1 _ _ q hx,((hd.fresh ha).keep (s1.but fun x z=> .inl (.inr (.inr (.inl z))))).av (hA f)⟩
    | cu c =>
      obtain⟨e,n,q⟩:=h
      refine⟨e,fun a ha=>⟨.inl (n a ha).1,(n a ha).2⟩,c.av (hA c.f) (c.keep (.of fun x o hx e=>s1.1 x o ?_ e) (c.fresh ha q))⟩
      rcases hx with hx|hx
      · exact jP fun z=>hx (.inl (.inr (.inr (.inl z))))
      · exact(n x hx).2
theorem L8{nb:Addr->Prop}{σ:St}{H H1:Hp}{a:Addr}{ps:List (Key×V)}(W:Wd G nb ρ σ H)(s1:Step G.B H H1)(ha:H a=none)(e:H1 a=some (.dK ps))(hd:au (fun x=>G.S nb f x\/x=a) H1 (ks.map cy) ps):
  Wd G (fun x=>nb x\/x=a) (ρ.set i (.bf a f ks)) (σ.set i (some (.ref a))) H1:=by
 obtain⟨W2,hN,hA⟩:=W.grow s1 ha e
 refine W2.set ⟨rfl, .inr rfl,hN,ps,e,hd.av (hA f)⟩ (fun _ _ _ z=>by cases z) ?_ (fun x hx j t hj ht hc=>?_)
 rotate_left
 ·have hx:x=a:=aC.mp hx
  subst hx
  rcases hc with ⟨c,z⟩|⟨c,rfl⟩
  ·cases z
  ·exact fun z=>W.live x ((W.ok j _ ht).choose_spec.2.2.1 x z).1 ha
 rintro a' f' ds' ⟨rfl,rfl,rfl⟩ j c g cs hj hc z
 subst z
 obtain⟨x,e1,h1,h2,h3,ys,hy,_⟩:=W.ok j _ hc
 rw[hy] at ha;cases ha
theorem Sv.GR(h:ny G ρ te fun f ks=>∀a,E.nx (ρ.set i (.bf a f ks))):Sv G ρ (jf te (ek i)) E:=fun nb σ H D W K=>h nb σ H _ W fun f a ps H1 ks q s1 ha e hd=>K.nx _ _ _ H1 (q a) (L8 W s1 ha e hd)
theorem ny.new(h:Θ true []):ny G ρ Gh Θ:=fun nb σ H Q W z p hp=>z true p [] _ [] h (.same W.az (cD hp)) hp aS (by unfold au;rfl)
@[reducible] def tM(p:Int×PyData):PyData:= .tuple [.int p.1,p.2]
def m7(ks:Ks)(more:Ks):Ks:=more.foldl (fun acc p=>jU acc p.1 p.2) ks
theorem CN{S:Addr->Prop}{H:Hp}:∀{more:Ks} {ms:List (Key×V)} {ks:Ks} {ps:List (Key×V)},au S H (more.map cy) ms->au S H (ks.map cy) ps->au S H ((m7 ks more).map cy) (lA ps ms)
  |[],ms,ks,ps,h,g=>by unfold au at h;subst h;exact g
  | p :: r, ms, ks, ps, h, g => by
    rw[aZ] at h
    unfold au at h
    obtain⟨q,qs,rfl,h1,h2⟩:=h
    unfold bI at h1
    obtain⟨k,v⟩:=q
    have h3:k=Sum.inl p.1:=h1.1
    subst h3
    show au S H ((m7 (jU ks p.1 p.2) r).map cy) (lA (putK ps (Sum.inl p.1) v) qs)
    exact CN (more:=r) h2 (au.put g h1.2)
theorem ny.LK(h:Ev G ρ te fun f x=>∃es:Ks,x= .list (es.map tM)/\es.length<=10000/\Θ f (m7 [] es)):ny G ρ (dw wR (aK te aQ)) Θ:=fun nb σ H Q W z=>
  h nb σ H _ W fun f v H1 x ⟨es,ex,hl,q⟩ s1 hv=>by
    subst ex
    obtain⟨a,xs,rfl,n,hx,hd⟩:=hv.cG
    have key:∀{es:Ks} {xs:List V},af (G.S nb f) H1 (es.map tM) xs->∃kvs:List (Key×V),xs.length=kvs.length/\(∀(j:Nat) (y:V) (p:Key×V),xs[j]?=some y->kvs[j]?=some p->∃a,y= .ref a/\H1 a=some (.tup [kV p.1,p.2]))/\au (G.S nb f) H1 (es.map cy) kvs:=by
      intro es
      induction es with
      |nil=>intro xs h;unfold af at h;subst h;exact⟨[],rfl,fun j y p z=>by simp at z,by simp only[k7];unfold au;rfl⟩
      | cons e es ih =>
        intro xs h
        rw[aZ] at h
        unfold af at h
        obtain⟨y,ys,rfl,h1,h2⟩:=h
        obtain⟨kvs,g1,g2,g3⟩:=ih h2
        obtain⟨b,ws,rfl,bU,hb,hws⟩:=h1.ofT
        unfold af at hws
        obtain⟨w1,wr,rfl,k1,hws⟩:=hws
        unfold af at hws
        obtain⟨w2,wr,rfl,k2,hws⟩:=hws
        unfold af at hws
        subst hws
        rw[k1.bL] at hb
        refine⟨(Sum.inl e.1,w2)::kvs,by simp[g1],fun j y p a b'=>?_,?_⟩
        · cases j with
          |zero=>simp at a b';subst a b';exact⟨b,rfl,hb⟩
          |succ j=>exact g2 j y p (by simpa using a) (by simpa using b')
        · rw[aZ]
          unfold au
          exact⟨_,_,rfl,by unfold bI;exact⟨rfl,k2⟩,g3⟩
    obtain⟨kvs,g1,g2,g3⟩:=key hd
    have hlx:=hd.length
    rw[ak] at hlx
    refine⟨a,xs,kvs,rfl,hx,g1,by omega,g2,fun p hp=>?_⟩
    have KI:au (G.S nb f) H1 (([]:Ks).map cy) []:=by simp only[k7];unfold au;rfl
    exact z f p _ _ _ q (s1.trans (.same s1.2 (cD hp))) (W.none_of s1 hp) aS (((CN g3 KI).fresh hp).keep (aI.of (cD hp)))
theorem DY{nb:Addr->Prop}{σ:St}{H:Hp}{a:Addr}{ps:List (Key×V)}{ks':Ks}(W:Wd G nb ρ σ H)(e:ρ[i]?=some (.bf a f ks))(hd:au (G.S nb g) H (ks'.map cy) ps):Wd G nb (ρ.set i (.bf a g ks')) σ (upd H a (.dK ps)):=by
 obtain⟨x,e1,h1,h2,h3,ys,hy,_⟩:=W.ok i _ e
 subst h1
 have hil:i<ρ.length:=(aJ.mp e).1
 have W0:Wd G nb (ρ.set i .no) (σ.set i (some (.ref a))) H:=W.set trivial fun _ _ _ z=>by cases z
 have W1:Wd G nb (ρ.set i .no) (σ.set i (some (.ref a))) (upd H a (.dK ps)):=W0.write h2 h3 (fun j c f' cs hc z=>by
   subst z
   have hij:i≠j:=fun z=>by subst z;rw[bx hil] at hc;cases hc
   rw[aT hij] at hc
   obtain⟨_,_,_,_,_,ps,hp,_⟩:=W.ok j _ hc
   rw[hy] at hp;cases hp) (fun j c f' cs hc=>by
   by_cases hij:i=j
   ·subst hij;rw[bx hil] at hc;cases hc
   ·rw[aT hij] at hc
    exact(W.eH i j _ _ _ _ _ _ hij e hc).symm) (fun j c hc z=>by
   have hij:i≠j:=fun z=>by subst z;rw[bx hil] at hc;cases hc
   rw[aT hij] at hc
   exact W.cR j i c _ (br hij) hc e a z (aC.mpr rfl))
 have W2:=W1.set (i:=i) (s:= .bf a g ks') (x:=some (.ref a)) ⟨rfl,h2,h3,ps,aS,hd.keep (aI.set (.inl h2))⟩ (fun _ _ _ z=>by cases z) (by
  rintro a' f' ds' ⟨rfl,rfl,rfl⟩ j c g' cs hj hc
  rw[aT (br hj)] at hc
  exact W.eH i j _ _ _ _ _ _ (br hj) e hc) (fun x hx j t hj ht hc z=>by
  rw[aT (br hj)] at ht
  have hx:x=a:=aC.mp hx
  subst hx
  rcases hc with ⟨c,q⟩|⟨c,rfl⟩
  ·cases q
  ·exact W.cR j i c _ hj ht e x z (aC.mpr rfl))
 rw[iN,iN] at W2
 have:σ.set i (some (.ref a))=σ:=by
  apply jC
  intro j
  by_cases hij:i=j
  ·subst hij;rw[bx (by rw[W.len];exact hil),e1]
  ·rw[aT hij]
 rwa[this] at W2
theorem Sv.Iw{a:Addr}(e:ρ[i]?=some (.bf a f ks))(h:Ev G ρ te fun g d=>Ev G ρ tb fun _ y=>∃k,y= .int k/\ks.length<10000/\E.nx (ρ.set i (.bf a (f && g) (jU ks k d)))):Sv G ρ (jf te (yD (bE i) tb GF)) E:=fun nb σ H D W KK=>
 h nb σ H _ W fun g v H1 d q s1 hv=>by
  obtain⟨x,e1,h1,h2,h3,ps,hp,hd⟩:=(W.step s1).ok i _ e
  subst h1
  refine⟨.ref a,e1,q nb σ H1 _ (W.step s1) fun g' u H2 y ⟨k,ey,hl,p⟩ s2 hu=>?_⟩
  subst ey
  have W2:=(W.step s1).step s2
  have hlen:=hd.len
  refine⟨a,ps, .inl k,rfl,hu.bL,s2.1 _ _ h3 hp,cT (by rw[hlen];exact hl) (by decide),KK.nx nb _ _ _ p (DY W2 e ?_)⟩
  exact au.put ((hd.keep s2.dj).av (bF (fun z=>(cV _ _▸z).1) fun _ z=>z)) ((hv.keep s2.dj).av (bF (fun z=>(cV _ _▸z).2) fun _ z=>z))
end
def rX(ng:Bool):R2:=fun x y H Q=>∃a o,y= .ref a/\pQ H a x o/\Q (.bl (o.isSome !=ng)) H
theorem sY{X:Cx}(hu:X.A.units+64<cLine):dz X (compareOp .In) (rX false):=by
 intro pins s σ H x y v u Q I rx ry h
 obtain⟨a,o,rfl,g,q⟩:=h
 cases ry
 exact JA (by omega) I g rx fun s' I'=>⟨.bl o.isSome,H,I',rfl,by simpa using q⟩
section
variable{G:Gx}{ρ:Rh}{Φ:Pd}{ta tb te:TE}{i:Nat}{f:Bool}{ks:Ks}{K:PySem.W.Frag}{E:DE}
theorem Ev.C5{a:Addr}{ng:Bool}(e:ρ[i]?=some (.bf a f ks))(h:Ev G ρ ta fun _ y=>∃k,y= .int k/\Φ true (.bool (gu ks k !=ng))):Ev G ρ (bW (rX ng) ta (bE i)) Φ:=fun nb σ H Q W z=>
 h nb σ H _ W fun g w H1 y ⟨k,ey,p⟩ s1 hw=>by
  obtain⟨x,e1,h1,h2,h3,ps,hp,hd⟩:=(W.step s1).ok i _ e
  subst h1 ey
  refine⟨.ref a,e1,a,_,rfl,by rw[hw.bL];exact pQ.k (k:= .inl k) hp,?_⟩
  have:(eU ps (Sum.inl k)).isSome=gu ks k:=by rw[<-qt];exact au.any k hd
  rw[this]
  exact z true _ H1 _ p s1 (.bl _)
theorem Fg{nb:Addr->Prop}{σ:St}{H:Hp}{a:Addr}(W:Wd G nb ρ σ H)(e:ρ[i]?=some (.bf a f ks)):Wd G (fun x=>nb x/\x≠a) (ρ.set i (.d f (.dict (ks.map cy)))) σ H:=by
  obtain⟨x,e1,h1,h2,h3,xs,hx,hd⟩:=W.ok i _ e
  subst h1
  have hil:i<ρ.length:=(aJ.mp e).1
  have W0:Wd G nb (ρ.set i .no) (σ.set i (some (.ref a))) H:=W.set trivial fun _ _ _ z=>by cases z
  have W1:Wd G (fun x=>nb x/\x≠a) (ρ.set i .no) (σ.set i (some (.ref a))) H:=by
    refine⟨W0.az,fun x n=>W0.live x n.1,W0.old,fun x n=>W0.cK x n.1,W0.gA,W0.len,W0.gB,fun h m=>(W0.fO h m).av (bF (fun z=>z) fun _ z=>z.1),fun j s e'=>?_,W0.apart,W0.eH,W0.cR⟩
    obtain⟨x,ja,h⟩:=W0.ok j s e'
    refine⟨x,ja,?_⟩
    have hij:s≠ .no->i≠j:=fun n z=>by subst z;rw[bx hil] at e';cases e';exact n rfl
    cases s with
    |no=>trivial
    |d f d=>obtain⟨v,e,h⟩:=h;exact⟨v,e,h.av (bF (fun z=>z) fun _ z=>z.1)⟩
    | own c f es =>
      obtain⟨e2,n,q,ys,hy,hd'⟩:=h
      have hca:c≠a:=fun z=>by subst z;rw[hx] at hy;cases hy
      exact⟨e2,⟨n,hca⟩,q,ys,hy,hd'.av (bF (fun z=>z) fun _ z=>z.1)⟩
    |az=>exact h
    |raw v=>exact h
    | bf c f es =>
      obtain⟨e2,n,q,ps,hp,hd'⟩:=h
      have hij:=hij (by intro z;cases z)
      rw[aT hij] at e'
      exact⟨e2,⟨n,(W.eH i j _ _ _ _ _ _ hij e e').symm⟩,q,ps,hp,hd'.av (bF (fun z=>z) fun _ z=>z.1)⟩
    | cu c =>
      obtain⟨e2,n,q⟩:=h
      have hij:=hij (by intro z;cases z)
      rw[aT hij] at e'
      exact⟨e2,fun x hx=>⟨⟨(n x hx).1,fun z=>W.cR j i c _ (br hij) e' e x hx (by rw[z];exact aC.mpr rfl)⟩,(n x hx).2⟩,c.av (bF (fun z=>z) fun _ z=>z.1) q⟩
  have W2:=W1.jD (i:=i) (f:=f) (d:= .dict (ks.map cy)) (v:= .ref a) (by
    unfold ah
    refine⟨a,xs,rfl,fun z=>?_, .inl hx,hd.av (bF (fun z=>z) fun _ z=>z.1)⟩
    rcases z with z|z|z|z
    · exact z.2 rfl
    · exact W.gA a z (W.cK a h2 h3)
    · exact z h3
    · exact z.2 (W.cK a h2 h3))
  rw[iN,iN] at W2
  have:σ.set i (some (.ref a))=σ:=by
    apply jC
    intro j
    by_cases hij:i=j
    · subst hij;rw[bx (by rw[W.len];exact hil),e1]
    · rw[aT hij]
  rwa[this] at W2
theorem Ev.PR{ng:Bool}(h:Ev G ρ ta fun _ y=>∃k,y= .int k/\Ev G ρ tb fun _ x=>∃ks:Ks,x= .dict (ks.map cy)/\Φ true (.bool (gu ks k !=ng))):Ev G ρ (bW (rX ng) ta tb) Φ:=
 Ev.iV (h.mono fun f x ⟨k,ex,q⟩=>q.mono fun g y ⟨ks,ey,p⟩ nb σ H u v Q W hu hv z=>by
  subst ex ey
  unfold ah at hv
  obtain⟨a,ps,rfl,n,hp,hd⟩:=hv
  refine⟨a,_,rfl,by rw[hu.bL];exact .inl ⟨ps, .inl k,hp,rfl,rfl⟩,?_⟩
  have:(eU ps (Sum.inl k)).isSome=gu ks k:=by rw[<-qt];exact au.any k hd
  rw[this]
  exact z true _ H _ p (.refl W.az) (.bl _))
end
end L2
set_option maxRecDepth 100000
set_option maxHeartbeats 4000000
namespace L2
open PySem PySem.Spec PyProof.Rows
section
variable{prog:Program}{w:World}{A:Around}{E:Value->Shared->Prop}{s:Shared}
theorem LL{l:Addr}{vs:List Value}{ns:List Int}{Q:Value->Shared->Prop}(hl:s.heap.IsList l vs.toArray)(hI:IntsAre vs ns)(hz:vs.length<64)
  (h:∀(out:Array Value) (ns':List Int),IntsAre out.toList ns'->ns'.Perm ns->ns'.Pairwise (· <= ·)->Q (.ref (s.heap.objs.size+1)) {s with heap:=sortedAll s.heap vs out}):
  wpAny (model prog w) A (call (.builtin "sorted") [.ref l]) Q E s:=by
 have hZ:vs.length<=sizeLine:=by rw[sizeLine_eq];omega
 refine qg kind_sorted plain_sorted entry_sorted (args_sorted1 _) ?_
 unfold Builtin.«sorted»
 refine wpAny_bind (m:=checkCount "sorted" 1 1 _) (wpAny_pure ?_)
 refine wpAny_bind (collect_list hl ?_ (hsz:=hZ))
 refine wpAny_bind (wpAny_newList ?_)
 have hsz:((s.heap.push (seqObj "list" #[] 0)).update s.heap.objs.size (Obj.mapSeq (· ++vs.toArray))).objs.size=s.heap.objs.size+1:=by
  rw[mJ,size_push']
 have jY:(((s.heap.push (seqObj "list" #[] 0)).update s.heap.objs.size (Obj.mapSeq (· ++vs.toArray))).push (seqObj "list" vs.toArray 0)).get? (s.heap.objs.size+1)=some (seqObj "list" vs.toArray 0):=by
  rw[<-hsz];exact dX _ rfl
 show wpAny _ _ _ _ _ {s with heap:=((s.heap.push (seqObj "list" #[] 0)).update s.heap.objs.size (Obj.mapSeq (· ++vs.toArray))).push (seqObj "list" vs.toArray 0)}
 rw[hsz]
 refine wpAny_bind (wpAny_holding (wpAny_call_entry slot_list_sort ⟨_,jY,rfl⟩ entry_list_sort (list_sort_tree jY hI hz fun out ns' a1 a2 a3=>⟨_,rfl,?_⟩) (args_list_sort _)))
 exact wpAny_pure ⟨_,rfl,h out ns' a1 a2 a3⟩
end
def vX(K:PySem.W.Frag):List V->Hp->VK->Prop:=fun xs H Q=>∃p,∃ns:List Int,xs=[.ref p]/\aF K H p (ns.map V.int)/\ns.length<64/\∀rs:List Int,rs.Perm ns->rs.Pairwise (· <= ·)->∀l,H l=none->Q (.ref l) (upd H l (.lst (rs.map V.int)))
theorem Ox{X:Cx}:eF X (.builtin "sorted") (vX X.K):=by
 intro pins s σ H xs us Q I rv h
 obtain⟨p,ns,rfl,hp,hn,q⟩:=h
 obtain⟨u,rfl,ru⟩:=vals1 rv
 cases ru
 obtain⟨its,rs,il,hz⟩:=I.list hp
 have hI:=qe rs
 have hlen:=hI.length
 refine LL (vs:=its) il.isList hI (by omega) fun out ns' h1 h2 h3=>?_
 obtain⟨e,ge⟩:=sortedAll_at s.heap its out
 have new:bB X.prog X.w (upd H (s.heap.objs.size+1) (.lst (ns'.map V.int))) (sortedAll s.heap its out) (s.heap.objs.size+1) (.lst (ns'.map V.int)):=by
  refine⟨?_,out.toList,e,pT h1,by simpa using ge⟩
  rw[ak,h2.length_eq];exact cL (gH hn) (by decide)
 exact⟨.ref (s.heap.objs.size+1),_,I.laid (t':=s.toks) (fun b o z=>sortedAll_old z) (iD _) new,rfl,q _ h2 h3 _ (I.hok.fresh (iD _))⟩
theorem ay.Jq{G:Gx}{ρ:Rh}{te:TE}{K:PySem.W.Frag}{Θ:Bool->List PyData->Prop}(h:Ev G ρ te fun _ x=>∃ns:List Int,x= .list (ns.map .int)/\ns.length<64/\∀rs:List Int,rs.Perm ns->rs.Pairwise (· <= ·)->Θ true (rs.map .int)):
  ay G ρ (dw (vX K) (aK te aQ)) Θ:=fun nb σ H Q W z=>
 h nb σ H _ W fun f v H1 x ⟨ns,ex,hn,q⟩ s1 hv=>by
  subst ex
  obtain⟨a,xs,rfl,na,hx,hd⟩:=hv.cG
  have e:=kN hd
  subst e
  refine⟨a,ns,rfl, .of hx,hn,fun rs hp hw l hl=>?_⟩
  exact ay.fin (f:=true) W s1 hl (lI rs) (q rs hp hw) z
theorem ay.Qa{G:Gx}{ρ:Rh}{i:Nat}{a:Addr}{f:Bool}{ks:Ks}{Θ:Bool->List PyData->Prop}(e:ρ[i]?=some (.bf a f ks))(hl:ks.length<64)(h:∀rs:List Int,rs.Pairwise (· <= ·)->rs.Perm (ks.map (·.1))->Θ true (rs.map .int)):
  ay G ρ (dw p9 (aK (bE i) aQ)) Θ:=fun nb σ H Q W z=>by
 obtain⟨x,e1,h1,h2,h3,ps,hp,hd⟩:=W.ok i _ e
 subst h1
 refine⟨.ref a,e1,a,ps,ks.map (·.1),rfl, .inl hp,au.keys hd,by rw[ak];exact hl,fun l rs hl' hw iA=>?_⟩
 exact ay.fin (f:=true) W (.refl W.az) hl' (lI rs) (h rs hw iA) z
def rY:List V->Hp->VK->Prop:=fun xs H Q=>∃a kvs,xs=[V.ref a]/\H a=some (.dK kvs)/\Q (.int kvs.length) H
theorem DG{X:Cx}:eF X (.builtin "len") rY:=Qc
theorem Ev.D8{G:Gx}{ρ:Rh}{Φ:Pd}{i:Nat}{a:Addr}{f:Bool}{ks:Ks}(e:ρ[i]?=some (.bf a f ks))(h:Φ true (.int ks.length)):Ev G ρ (dw rY (aK (bE i) aQ)) Φ:=fun nb σ H Q W z=>by
 obtain⟨x,e1,h1,h2,h3,ps,hp,hd⟩:=W.ok i _ e
 subst h1
 refine⟨.ref a,e1,a,ps,rfl,hp,?_⟩
 rw[hd.len]
 exact z true _ H _ h (.refl W.az) (.int _)
end L2
set_option maxRecDepth 100000
set_option maxHeartbeats 4000000
namespace L2
open PySem PySem.Spec PyProof.Rows
structure OB(n:Int)(cs:List aB):Prop where
 n0:1<=n
 n1:n<=10
 c0:cs≠[]
 c1:cs.length<=8
 ok:∀prs∈cs,prs≠[]/\prs.length<=4/\(prs.map (·.1)).Pairwise (· < ·)/\∀pr∈prs,0<=pr.1/\pr.1<n
section
variable{n:Int}{cs:List aB}(h:OB n cs)
include h
end
end L2
set_option maxRecDepth 100000
set_option maxHeartbeats 4000000
set_option maxRecDepth 100000
set_option maxHeartbeats 4000000
namespace L2
open PySem PySem.Spec PyProof.Rows
theorem af.era{nb:Addr->Prop}{H:Hp}:∀{ds:List PyData} {xs:List V} (m:Nat),af nb H ds xs->af nb H (ds.eraseIdx m) (xs.eraseIdx m)
 |[],_,m,h=>by unfold af at h;subst h;exact .nil
 |e::ds,_,0,h=>by unfold af at h;obtain⟨y,ys,rfl,h1,h2⟩:=h;exact h2
 |e::ds,_,m+1,h=>by unfold af at h;obtain⟨y,ys,rfl,h1,h2⟩:=h;exact .cons h1 (af.era m h2)
section
variable{G:Gx}{ρ:Rh}{te:TE}{E:DE}{i j:Nat}{f:Bool}{ds:List PyData}{K:PySem.W.Frag}
theorem Sv.extend{a:Addr}(e:ρ[i]?=some (.own a f ds))(h:Ev G ρ te fun g y=>∃es,y= .list es/\ds.length+es.length<=10000/\E.nx (ρ.set i (.own a (f && g) (ds++es)))):
  Sv G ρ (jV (jc K "list" Cm (bE i) (aK te aQ))) E:=fun nb σ H D W KK=>by
 obtain⟨x,e1,h1,h2,h3,xs,hx,hd⟩:=W.ok i _ e
 subst h1
 refine⟨.ref a,e1, .inl ⟨rfl,_,aF.of hx⟩,h nb σ H _ W fun g v H1 y ⟨es,ey,hl,q⟩ s1 hv=>?_⟩
 subst ey
 obtain⟨c,ys,rfl,n,hy,he⟩:=hv.cG
 have W1:=W.step s1
 have tY:=s1.1 _ _ h3 hx
 have hd1:=hd.keep s1.dj
 refine⟨a,c,xs,ys,rfl,rfl,tY,hy,cL (by rw[hd.length,he.length];exact hl) (by decide),KK.nx nb _ _ _ q (oS W1 e ?_)⟩
 exact af.append (hd1.av (bF (fun z=>(cV _ _▸z).1) fun _ z=>z)) (he.av (bF (fun z=>(cV _ _▸z).2) fun _ z=>z))
end
end L2
set_option maxRecDepth 100000
set_option maxHeartbeats 4000000
namespace L2
open PySem PySem.Spec PyProof.Rows
def DR:V->List V->Hp->VK->Prop:=fun x vs H Q=>∃l,∃ns:List Int,∃k:Int,x= .ref l/\vs=[.int k]/\H l=some (.lst (ns.map V.int))/\k∈ns/\Q .aG (upd H l (.lst ((ns.erase k).map V.int)))
theorem C6:∀{its:List Value} {ns:List Int} {m:Nat} {v:Value},IntsAre its ns->its[m]?=some v->∃k t,ns[m]?=some k/\v= .int k t
 |_,_,_,_, .nil,e=>by simp at e
 |_,_,0,_, .cons n t h,e=>by simp at e;exact⟨n,t,rfl,e.symm⟩
 |_,_,m+1,_, .cons n t h,e=>by simpa using C6 (m:=m) h (by simpa using e)
theorem GH{α β:Type}(f:α->β):∀(xs:List α) (k:Nat),(xs.map f).eraseIdx k=(xs.eraseIdx k).map f
 |[],_=>rfl
 |x::xs,0=>rfl
 |x::xs,k+1=>by show f x::(xs.map f).eraseIdx k=_;rw[GH f xs k];rfl
section
variable{X:Cx}
theorem Oz:oN X "list.remove" DR:=by
 intro pins s σ H x vs v us Q I rx rv h
 obtain⟨l,ns,k,rfl,rfl,hH,hk,q⟩:=h
 cases rx
 obtain⟨u,rfl,ru⟩:=rv.one
 obtain⟨t,rfl⟩:=ru
 obtain⟨z,its,n,r,hl,e⟩:=I.k9 hH
 have hI:=qe r
 have hlen:=hI.length
 have hj:ns.idxOf k<ns.length:=List.idxOf_lt_length_of_mem hk
 have hat:∀m (hm:m<its.toArray.size),isInt k its.toArray[m]=decide (ns[m]'(by rw[bT] at hm;omega)=k):=fun m hm=>by
  rw[bT] at hm
  obtain⟨k',t',e1,e2⟩:=C6 (m:=m) (v:=its[m]) hI (aR hm)
  have e3:ns[m]'(by omega)=k':=by rw[aR (by omega)] at e1;exact eS e1
  rw[List.getElem_toArray,e2,e3]
  unfold isInt
  first|rfl|(simp)|skip
 refine call_meets CT ⟨_,e,rfl⟩ PySem.F.entry_list_remove (PySem.F.args_list_remove_2 _ _)
  (MeetsSeq.list_remove l its.toArray n (.int k t) (isInt k) (fun y hy=>eq_isInt k t hI y (by simpa using hy)) (ns.idxOf k) (by rw[bT];omega) ?_ ?_ (by rw[bT];omega)) ⟨e,?_⟩
 ·rw[hat]
  exact decide_eq_true (List.getElem_idxOf hj)
 ·intro m hm hlt
  rw[hat]
  exact decide_eq_false fun z=>by
   have:=List.not_of_lt_findIdx (p:=(· ==k)) (xs:=ns) (i:=m) (by exact hlt)
   simp at this
   exact this z
 ·refine⟨.aG,_,I.qO (its':=its.eraseIdx (ns.idxOf k)) hH e ?_ (by rw[List.erase_eq_eraseIdx_of_idxOf rfl,<-GH];exact r.eraseIdx _) ?_,rfl,q⟩
  ·show its.toArray.eraseIdxIfInBounds _=_
   rw[Af]
  ·have:=List.length_erase_le (a:=k) (l:=ns)
   rw[ak] at hl z⊢
   omega
end
section
variable{G:Gx}{ρ:Rh}{te:TE}{E:DE}{i j:Nat}{f:Bool}{K:PySem.W.Frag}
theorem Sv.remove{a:Addr}{ns:List Int}(e:ρ[i]?=some (.own a f (ns.map .int)))(h:Ev G ρ te fun _ y=>∃k,y= .int k/\k∈ns/\E.nx (ρ.set i (.own a f ((ns.erase k).map .int)))):
  Sv G ρ (jV (jc K "list" DR (bE i) (aK te aQ))) E:=fun nb σ H D W KK=>by
 obtain⟨x,e1,h1,h2,h3,xs,hx,hd⟩:=W.ok i _ e
 subst h1
 have hxs:=kN hd
 subst hxs
 refine⟨.ref a,e1, .inl ⟨rfl,_,aF.of hx⟩,h nb σ H _ W fun g v H1 y ⟨k,ey,hk,q⟩ s1 hv=>?_⟩
 subst ey
 have hk':=hv.bL
 subst hk'
 exact⟨a,ns,k,rfl,rfl,s1.1 _ _ h3 hx,hk,KK.nx nb _ _ _ q (oS (W.step s1) e (lI _))⟩
end
section
variable{G:Gx}{ρ:Rh}{ta tb te:TE}{t:TA}{E:DE}{i j:Nat}{f:Bool}{K:PySem.W.Frag}{Φ:Pd}{Θ:Bool->List PyData->Prop}
def sU(K:PySem.W.Frag)(ng:Bool):R2:=fun x y H Q=>ow K ng x y H Q\/rX ng x y H Q
end
theorem JQ{X:Cx}{K:PySem.W.Frag}(hK:X.K=K)(hu:X.A.units+64<cLine):dz X (compareOp .In) (sU K false):=by
 intro pins s σ H x y v u Q I rx ry h
 rcases h with h|h
 ·exact uE hK pins s σ H x y v u Q I rx ry h
 ·exact sY hu pins s σ H x y v u Q I rx ry h
section
variable{G:Gx}{ρ:Rh}{ta tb te:TE}{t:TA}{E:DE}{i j:Nat}{f:Bool}{K:PySem.W.Frag}{Φ:Pd}{Θ:Bool->List PyData->Prop}
theorem Ev.Oj{ng:Bool}(h:Ev G ρ ta fun _ x=>∃k:Int,x= .int k/\Ev G ρ tb fun _ y=>∃ns:List Int,y= .list (ns.map .int)/\Φ true (.bool (decide (k∈ns) !=ng))):Ev G ρ (bW (sU K ng) ta tb) Φ:=fun nb σ H Q W z=>
 h nb σ H _ W fun f v H1 d ⟨k,e,q⟩ s1 hv=>q nb σ H1 _ (W.step s1) fun g u H2 d2 ⟨ns,e2,p⟩ s2 hu=>by
  subst e e2
  have hk:=hv.bL
  subst hk
  obtain⟨a,xs,rfl,na,hx,hd⟩:=hu.cG
  have ex:=kN hd
  subst ex
  refine Or.inl ⟨a,ns.map V.int,rfl, .inl (.of hx),rfl,?_,?_⟩
  ·rw[fN]
   intro x hx
   obtain⟨o,_,rfl⟩:=cY.mp hx
   rfl
  ·have e:jQ (V.int k) (ns.map V.int)=decide (k∈ns):=by
    unfold jQ
    rw[List.any_map,iZ,pU,decide_eq_true_eq]
    constructor
    ·rintro⟨o,m,h⟩
     have:o=k:=eq_of_beq h
     exact this▸m
    ·intro m
     exact⟨k,m,beq_self_eq_true k⟩
   have e2:(if ng=true then !jQ (V.int k) (ns.map V.int) else jQ (V.int k) (ns.map V.int))=(decide (k∈ns) !=ng):=by
    rw[e]
    cases ng<;>simp
   rw[e2]
   exact z true _ H2 _ p (s1.trans s2) (.bl _)
theorem Ev.Ke{ng:Bool}(h:Ev G ρ ta fun _ y=>∃k,y= .int k/\Ev G ρ tb fun _ x=>∃ks:Ks,x= .dict (ks.map cy)/\Φ true (.bool (gu ks k !=ng))):Ev G ρ (bW (sU K ng) ta tb) Φ:=
 Ev.iV (h.mono fun f x ⟨k,ex,q⟩=>q.mono fun g y ⟨ks,ey,p⟩ nb σ H u v Q W hu hv z=>by
  subst ex ey
  unfold ah at hv
  obtain⟨a,ps,rfl,n,hp,hd⟩:=hv
  refine Or.inr ⟨a,_,rfl,by rw[hu.bL];exact .inl ⟨ps, .inl k,hp,rfl,rfl⟩,?_⟩
  have:(eU ps (Sum.inl k)).isSome=gu ks k:=by rw[<-qt];exact au.any k hd
  rw[this]
  exact z true _ H _ p (.refl W.az) (.bl _))
end
theorem Mw{H:Hp}{a:Addr}{xs ys:List (Key×V)}(h:Rd H a (.dK xs))(g:Rd H a (.dK ys)):xs=ys:=by
 rcases h with h|⟨o,h⟩<;>rcases g with g|⟨u,g⟩<;>rw[h] at g<;>cases g<;>rfl
theorem pK.fn:∀{d e:PyData} {k:Key},pK d k->pK e k->d=e
  | .int i, e, k, h, g => by
    have h:k= .inl i:=h
    cases e<;>first|exact g.elim|(have g:k=_:=g;rw[h] at g;injection g with g;subst g;rfl)|(have g:k=_:=g;rw[h] at g;cases g)
  | .str i, e, k, h, g => by
    have h:k= .inr i:=h
    cases e<;>first|exact g.elim|(have g:k=_:=g;rw[h] at g;injection g with g;subst g;rfl)|(have g:k=_:=g;rw[h] at g;cases g)
  | .none,_,_,h,_=>h.elim
  | .bool _,_,_,h,_=>h.elim
  | .list _,_,_,h,_=>h.elim
  | .tuple _,_,_,h,_=>h.elim
  | .dict _,_,_,h,_=>h.elim
mutual
theorem ah.fn{S S':Addr->Prop}{H:Hp}:∀{d e:PyData} {v:V},ah S H d v->ah S' H e v->d=e
  | .none, e, v, h, g => by
    unfold ah at h;subst h
    cases e<;>unfold ah at g<;>first|rfl|(cases g;done)|(obtain⟨_,_,z,_⟩:=g;cases z)
  | .bool b, e, v, h, g => by
    unfold ah at h;subst h
    cases e<;>unfold ah at g<;>first|(cases g;done)|(cases g;rfl)|(obtain⟨_,_,z,_⟩:=g;cases z)
  | .int b, e, v, h, g => by
    unfold ah at h;subst h
    cases e<;>unfold ah at g<;>first|(cases g;done)|(cases g;rfl)|(obtain⟨_,_,z,_⟩:=g;cases z)
  | .str b, e, v, h, g => by
    unfold ah at h;subst h
    cases e<;>unfold ah at g<;>first|(cases g;done)|(cases g;rfl)|(obtain⟨_,_,z,_⟩:=g;cases z)
  | .list ds, e, v, h, g => by
    unfold ah at h
    obtain⟨a,xs,rfl,n,hx,hd⟩:=h
    cases e<;>unfold ah at g<;>first|(cases g;done)|skip
    all_goals (obtain⟨a',xs',z,n',hx',hd'⟩:=g;cases z)
    all_goals first
      |(rcases hx' with hx'|⟨o,hx'⟩<;>rw[hx] at hx'<;>cases hx';done)
      |(rw[hx] at hx';cases hx';done)
      |(rw[hx] at hx';cases hx';rw[af.fn hd hd'])
  | .tuple ds, e, v, h, g => by
    unfold ah at h
    obtain⟨a,xs,rfl,n,hx,hd⟩:=h
    cases e<;>unfold ah at g<;>first|(cases g;done)|skip
    all_goals (obtain⟨a',xs',z,n',hx',hd'⟩:=g;cases z)
    all_goals first
      |(rcases hx' with hx'|⟨o,hx'⟩<;>rw[hx] at hx'<;>cases hx';done)
      |(rw[hx] at hx';cases hx';done)
      |(rw[hx] at hx';cases hx';rw[af.fn hd hd'])
  | .dict ds, e, v, h, g => by
    unfold ah at h
    obtain⟨a,xs,rfl,n,hx,hd⟩:=h
    cases e<;>unfold ah at g<;>first|(cases g;done)|skip
    all_goals (obtain⟨a',xs',z,n',hx',hd'⟩:=g;cases z)
    all_goals first
      |(rcases hx with hx|⟨o,hx⟩<;>rw[hx] at hx'<;>cases hx';done)
      |(rw[au.fn hd (by rw[Mw hx hx'];exact hd')])
theorem af.fn{S S':Addr->Prop}{H:Hp}:∀{ds es:List PyData} {vs:List V},af S H ds vs->af S' H es vs->ds=es
  | [], es, vs, h, g => by
    unfold af at h;subst h
    cases es with
    |nil=>rfl
    |cons e es=>unfold af at g;obtain⟨_,_,z,_⟩:=g;cases z
  | d :: ds, es, vs, h, g => by
    unfold af at h
    obtain⟨y,ys,rfl,h1,h2⟩:=h
    cases es with
    |nil=>unfold af at g;cases g
    | cons e es =>
      unfold af at g
      obtain⟨y',ys',z,g1,g2⟩:=g
      cases z
      rw[ah.fn h1 g1,af.fn h2 g2]
theorem au.fn{S S':Addr->Prop}{H:Hp}:∀{ds es:List (PyData×PyData)} {vs:List (Key×V)},au S H ds vs->au S' H es vs->ds=es
  | [], es, vs, h, g => by
    unfold au at h;subst h
    cases es with
    |nil=>rfl
    |cons e es=>unfold au at g;obtain⟨_,_,z,_⟩:=g;cases z
  | d :: ds, es, vs, h, g => by
    unfold au at h
    obtain⟨y,ys,rfl,h1,h2⟩:=h
    cases es with
    |nil=>unfold au at g;cases g
    | cons e es =>
      unfold au at g
      obtain⟨y',ys',z,g1,g2⟩:=g
      cases z
      rw[bI.fn h1 g1,au.fn h2 g2]
theorem bI.fn{S S':Addr->Prop}{H:Hp}:∀{d e:PyData×PyData} {v:Key×V},bI S H d v->bI S' H e v->d=e
  | (k, d), (k', e), v, h, g => by
    unfold bI at h g
    rw[pK.fn h.1 g.1,ah.fn h.2 g.2]
end
mutual
theorem ah.out{S:Addr->Prop}{H:Hp}{c:Addr}{D:PyData}(hc:ah S H D (.ref c)):∀{d:PyData} {v:V},sizeOf d<sizeOf D->ah S H d v->ah (fun x=>S x\/x=c) H d v
  | .none,_,_,h=>by unfold ah at h⊢;exact h
  | .bool _,_,_,h=>by unfold ah at h⊢;exact h
  | .int _,_,_,h=>by unfold ah at h⊢;exact h
  | .str _,_,_,h=>by unfold ah at h⊢;exact h
  | .list ds, v, hs, h => by
    have h0:=h
    unfold ah at h⊢
    obtain⟨a,xs,rfl,n,hx,hd⟩:=h
    refine⟨a,xs,rfl,fun z=>z.elim n fun z=>?_,hx,af.out hc (by simp at hs;omega) hd⟩
    subst z
    rw[ah.fn hc h0] at hs
    exact absurd hs (fG _)
  | .tuple ds, v, hs, h => by
    have h0:=h
    unfold ah at h⊢
    obtain⟨a,xs,rfl,n,hx,hd⟩:=h
    refine⟨a,xs,rfl,fun z=>z.elim n fun z=>?_,hx,af.out hc (by simp at hs;omega) hd⟩
    subst z
    rw[ah.fn hc h0] at hs
    exact absurd hs (fG _)
  | .dict ds, v, hs, h => by
    have h0:=h
    unfold ah at h⊢
    obtain⟨a,xs,rfl,n,hx,hd⟩:=h
    refine⟨a,xs,rfl,fun z=>z.elim n fun z=>?_,hx,au.out hc (by simp at hs;omega) hd⟩
    subst z
    rw[ah.fn hc h0] at hs
    exact absurd hs (fG _)
theorem af.out{S:Addr->Prop}{H:Hp}{c:Addr}{D:PyData}(hc:ah S H D (.ref c)):∀{ds:List PyData} {vs:List V},sizeOf ds<sizeOf D->af S H ds vs->af (fun x=>S x\/x=c) H ds vs
  |[],_,_,h=>by unfold af at h⊢;exact h
  | d :: ds, _, hs, h => by
    unfold af at h⊢
    obtain⟨y,ys,e,h1,h2⟩:=h
    exact⟨y,ys,e,ah.out hc (by simp at hs;omega) h1,af.out hc (by simp at hs;omega) h2⟩
theorem au.out{S:Addr->Prop}{H:Hp}{c:Addr}{D:PyData}(hc:ah S H D (.ref c)):∀{ds:List (PyData×PyData)} {vs:List (Key×V)},sizeOf ds<sizeOf D->au S H ds vs->au (fun x=>S x\/x=c) H ds vs
  |[],_,_,h=>by unfold au at h⊢;exact h
  | d :: ds, _, hs, h => by
    unfold au at h⊢
    obtain⟨y,ys,e,h1,h2⟩:=h
    exact⟨y,ys,e,bI.out hc (by simp at hs;omega) h1,au.out hc (by simp at hs;omega) h2⟩
theorem bI.out{S:Addr->Prop}{H:Hp}{c:Addr}{D:PyData}(hc:ah S H D (.ref c)):∀{d:PyData×PyData} {v:Key×V},sizeOf d<sizeOf D->bI S H d v->bI (fun x=>S x\/x=c) H d v
  | (k, d), _, hs, h => by
    unfold bI at h⊢
    exact⟨h.1,ah.out hc (by simp at hs;omega) h.2⟩
end
def iS(G:Gx)(ρ:Rh)(te:TE)(Φ:PyData->Prop):Prop:=∀nb σ H (Q:VK),Wd G nb ρ σ H->(∀v H' d,Φ d->Step G.B H H'->ah (fun a=>H a≠none) H' d v->Q v H')->te σ H Q
section
variable{G:Gx}{ρ:Rh}{ta tb te:TE}{t:TA}{E:DE}{i j k m:Nat}{f:Bool}{K:PySem.W.Frag}{Φ:PyData->Prop}
theorem Wd.FN{nb:Addr->Prop}{σ:St}{H H1:Hp}{a:Addr}(W:Wd G nb ρ σ H)(s:Step G.B H H1)(h:H a≠none):H1 a≠none:=fun e=>h (W.none_of s e)
theorem iS.jg{n:Nat}{F:DF}(hm:eN F)(e:ρ[i]?=some .az)(h:Av G ρ t fun es=>es.length+1=n/\F (es.map (·.2)) fun f d=>f=true/\Φ d):iS G ρ (gb (eO n F) [] E0 (aK (bE i) t)) Φ:=fun nb σ H Q W z=>by
 obtain⟨b,l,hB,e1,B⟩:=W.tT e
 refine⟨.ref b,e1,h nb σ H _ W fun es vs H1 ⟨hl,p⟩ s1 q1=>?_⟩
 have W1:=W.step s1
 show eO n F ((V.ref b::vs)++[]) H1 Q E0
 rw[iC]
 have hb:∀f,G.S nb f b:=fun f=> .inr (.inr (.inl fun n=>n b l hB rfl))
 refine⟨by rw[fP,q1.len,hl],b,l,vs,G.S nb (i6 es),es.map (·.2),rfl,W1.az b l hB,W1.iz,hb _,q1.all fun z=>z,hm _ _ _ p fun f d ⟨hf,hp⟩ v H' bt B' hd=>z v H' d hp (s1.trans (.uG hB bt B')) (hd.av fun a q=>?_)⟩
 exact .inr ⟨hf,W.FN s1 q⟩
theorem iS.fR{n:Nat}{F:DF}(hm:eN F)(h:Av G ρ t fun es=>es.length=n/\F (es.map (·.2)) fun f d=>f=true/\Φ d):iS G ρ (gb (dh n F) [] E0 t) Φ:=fun nb σ H Q W z=>
 h nb σ H _ W fun es vs H1 ⟨hl,p⟩ s1 q1=>by
  have W1:=W.step s1
  rw[iC]
  refine⟨by rw[q1.len,hl],G.S nb (i6 es),es.map (·.2),W1.iz,q1.all fun z=>z,hm _ _ _ p fun f d ⟨hf,hp⟩ v H' sm hd=>z v H' d hp (s1.trans (.same W1.az sm)) (hd.av fun a q=>?_)⟩
  exact .inr ⟨hf,W.FN s1 q⟩
theorem Wd.Pg{nb:Addr->Prop}{σ:St}{H H1:Hp}{c:Addr}{ds:List PyData}(W:Wd G nb ρ σ H)(s1:Step G.B H H1)(h:ah (fun a=>H a≠none) H1 (.list ds) (.ref c)):
  Wd G (fun x=>nb x\/x=c) (ρ.set i (.own c true ds)) (σ.set i (some (.ref c))) H1:=by
 have h0:=h
 obtain⟨c',xs,e,n,hx,hd⟩:=h.cG
 cases e
 have hc:H c=none:=jP fun z=>n z
 refine Sv.zZ W s1 hc hx ((af.out h0 (by simp) hd).av fun x z=>?_)
 rcases z with z|z
 ·exact .inl (W.iz x z)
 ·exact .inr z
end
end L2
set_option maxRecDepth 100000
set_option maxHeartbeats 1000000
namespace L2
open PySem PySem.Spec PyProof.Rows
theorem zl:∀{names:List (Str×NameKind)} {n:Nat} {acc:List (Str×Addr)},(∀x y c,acc.lookup x=some c->acc.lookup y=some c->x=y)->(∀x c,acc.lookup x=some c->c<n)->∀{x y:Str} {c:Addr},(cellsFrom n names acc).lookup x=some c->(cellsFrom n names acc).lookup y=some c->x=y
  |[],n,acc,h1,h2,x,y,c,e1,e2=>h1 x y c e1 e2
  | (m, k) :: r, n, acc, h1, h2, x, y, c, e1, e2 => by
    unfold cellsFrom at e1 e2
    by_cases hk:(k== .cell)=true
    · rw[if_pos hk] at e1 e2
      have look:∀{z:Str} {d:Addr},((m,n)::acc).lookup z=some d->(z=m/\d=n)\/acc.lookup z=some d:=fun{z d} e=>by
        by_cases hz:(z==m)=true
        · rw[bw,hz] at e
          cases e
          exact .inl ⟨by simpa using hz,rfl⟩
        · have hz:(z==m)=false:=by simpa using hz
          rw[bw,hz] at e
          exact .inr e
      refine zl (names:=r) (n:=n+1) (acc:=(m,n)::acc) (fun x y c g1 g2=>?_) (fun x c g=>?_) e1 e2
      · rcases look g1 with ⟨a1,a2⟩|a
        · rcases look g2 with ⟨b1,b2⟩|b
          · rw[a1,b1]
          · rw[a2] at b;exact absurd (h2 _ _ b) (fG _)
        · rcases look g2 with ⟨b1,b2⟩|b
          · rw[b2] at a;exact absurd (h2 _ _ a) (fG _)
          · exact h1 _ _ _ a b
      · rcases look g with ⟨a1,a2⟩|a
        · rw[a2];exact nN n
        · exact gY (h2 _ _ a)
    · rw[if_neg hk] at e1 e2
      exact zl (names:=r) h1 h2 e1 e2
theorem tV{x:Str}:∀{names:List (Str×NameKind)} {n:Nat} {acc:List (Str×Addr)},(∀k,(x,k)∈names->k≠ .cell)->(cellsFrom n names acc).lookup x=acc.lookup x
  |[],n,acc,h=>rfl
  | (m, k) :: r, n, acc, h => by
    unfold cellsFrom
    by_cases hk:(k== .cell)=true
    · rw[if_pos hk,tV (names:=r) fun k hk=>h k (dN _ hk)]
      have hne:(x==m)=false:=by
        rw[beq_eq_false_iff_ne]
        intro z
        subst z
        exact h k (dB ..) (by simpa using hk)
      rw[bw,hne]
    · rw[if_neg hk]
      exact tV (names:=r) fun k hk=>h k (dN _ hk)
theorem zH{x:Str}{lo:Nat}:∀{names:List (Str×NameKind)} {n:Nat} {acc:List (Str×Addr)} {c:Addr},lo<=n->((∃d,acc.lookup x=some d/\lo<=d)\/(x,NameKind.cell)∈names)->(cellsFrom n names acc).lookup x=some c->lo<=c
  | [], n, acc, c, hl, h, e => by
    rcases h with ⟨d,e',z⟩|h
    · have e:acc.lookup x=some c:=e
      rw[e'] at e;cases e;exact z
    · cases h
  | (m, k) :: r, n, acc, c, hl, h, e => by
    unfold cellsFrom at e
    by_cases hk:(k== .cell)=true
    · rw[if_pos hk] at e
      refine zH (names:=r) (Nat.le_succ_of_le hl) ?_ e
      by_cases hx:(x==m)=true
      · exact .inl ⟨n,by rw[bw,hx],hl⟩
      · have hx':(x==m)=false:=by simpa using hx
        rcases h with ⟨d,e',z⟩|h
        · exact .inl ⟨d,by rw[bw,hx'];exact e',z⟩
        · rcases bQ.mp h with z|z
          · cases z;simp at hx
          · exact .inr z
    · rw[if_neg hk] at e
      refine zH (names:=r) hl ?_ e
      rcases h with h|h
      · exact .inl h
      · rcases bQ.mp h with z|z
        · cases z;exact absurd (by rfl) hk
        · exact .inr z
theorem vP{x:Str}{c:Addr}:∀{names:List (Str×NameKind)} {n:Nat} {acc:List (Str×Addr)} {h:Heap},h.objs.size=n->(cellsFrom n names acc).lookup x=some c->(n<=c/\(pushCells h names).IsCell c none)\/acc.lookup x=some c
  |[],n,acc,h,hn,e=> .inr e
  | (m, k) :: r, n, acc, h, hn, e => by
    unfold cellsFrom at e
    unfold pushCells
    by_cases hk:(k== .cell)=true
    · rw[if_pos hk] at e⊢
      rcases vP (names:=r) (h:=h.push {cls:= .type "cell",data:= .cell none}) (by rw[ju,hn]) e with ⟨z1,z2⟩|z
      · exact .inl ⟨Bb z1,z2⟩
      · by_cases hx:(x==m)=true
        · rw[bw,hx] at z
          cases z
          refine .inl ⟨aA _,?_⟩
          subst hn
          exact⟨_,pushCells_keeps _ _ _ _ (dX _ rfl),rfl⟩
        · have hx':(x==m)=false:=by simpa using hx
          rw[bw,hx'] at z
          exact .inr z
    · rw[if_neg hk] at e⊢
      exact vP (names:=r) hn e
theorem yN{env:Env}:∀{l:List (Str×NameKind)} {x:Str} {k:NameKind},
    (l.map fun(n,k)=>if(k==NameKind.free && env.scope.kind== .function && env.kindOf n==some .cell) then(n,NameKind.cell) else(n,k)).lookup x=some k->k= .cell\/k= .free->l.lookup x=some .free\/l.lookup x=some .cell
  |[],_,_,h,_=>by simp at h
  | (n, q) :: r, x, k, h, hk => by
    have ih:=yN (env:=env) (l:=r) (x:=x) (k:=k)
    rw[aZ] at h
    dsimp only at h
    by_cases hx:(x==n)=true
    · simp only[bw,hx]
      by_cases hq:(q==NameKind.free && env.scope.kind== .function && env.kindOf n==some .cell)=true
      · have:q= .free:=by
          simp only[cV] at hq
          simpa using hq.1.1
        rw[this];exact .inl rfl
      · rw[if_neg hq] at h
        simp only[bw,hx] at h
        have qC:q=k:=eS h
        rcases hk with e|e
        · rw[qC,e];exact .inr rfl
        · rw[qC,e];exact .inl rfl
    · have hx':(x==n)=false:=by simpa using hx
      simp only[bw,hx']
      refine ih ?_ hk
      by_cases hq:(q==NameKind.free && env.scope.kind== .function && env.kindOf n==some .cell)=true
      · rw[if_pos hq] at h
        simp only[bw,hx'] at h
        exact h
      · rw[if_neg hq] at h
        simp only[bw,hx'] at h
        exact h
def cU(sx:Scope)(NX:List Str)(scope:Scope)(N:List Str)(mp:List (Option Nat)):Bool:=
 (scope.kind== .function) && scope.names.all (fun y=>y.2 != .cell||scope.names.lookup y.1 !=some .free) && scope.names.all (fun y=>y.2 != .local||scope.names.lookup y.1==some .local) &&
 scope.names.all (fun y=>y.2 != .free||sx.names.lookup y.1==some .cell||sx.names.lookup y.1==some .free) &&(mp.length==N.length) &&
 ((N.zip mp).all fun p=>match p.2 with|none=>true|some j=>NX[j]?==some p.1 && scope.names.lookup p.1==some .free)
structure bM(sx:Scope)(NX:List Str)(scope:Scope)(N:List Str)(mp:List (Option Nat)):Prop where
 kind:scope.kind= .function
 own:∀x,scope.names.lookup x=some .free->∀k,(x,k)∈scope.names->k≠ .cell
 names:∀y∈scope.names,y.2= .local->scope.names.lookup y.1=some .local
 free:∀y∈scope.names,y.2= .free->sx.names.lookup y.1=some .cell\/sx.names.lookup y.1=some .free
 len:mp.length=N.length
 look:∀(i j:Nat) (x:Str),mp[i]?=some (some j)->N[i]?=some x->NX[j]?=some x/\scope.names.lookup x=some .free
theorem bM.of{sx:Scope}{NX:List Str}{scope:Scope}{N:List Str}{mp:List (Option Nat)}(h:cU sx NX scope N mp=true):bM sx NX scope N mp:=by
 unfold cU at h
 simp only[cV,fN] at h
 obtain⟨⟨⟨⟨⟨h1,h2⟩,h3⟩,h4⟩,h5⟩,h6⟩:=h
 refine⟨by simpa using h1,fun x e k m z=>?_,fun y hy e=>?_,fun y hy e=>?_,by simpa using h5,fun i j x e1 e2=>?_⟩
 ·subst z
  have:=h2 (x, .cell) m
  simp[e] at this
 ·have:=h3 y hy
  simpa[e] using this
 ·have:=h4 y hy
  simpa[e] using this
 ·have hm:(x,some j)∈N.zip mp:=by
   have:(N.zip mp)[i]?=some (x,some j):=by
    rw[List.getElem?_zip_eq_some];exact⟨e2,e1⟩
   exact bZ this
  have:=h6 _ hm
  simpa using this
def ou(X:Cx)(scope:Scope)(C:Addr):List (Str×Addr):=cellsFrom (C+1) scope.names (jH X.env.cells scope.names [])
def dU(X:Cx)(scope:Scope)(C:Addr)(N:List Str)(s₀:Shared)(H₀:Hp)(fp:List Addr):Cx:=
 {X with N:=N,s₀:=s₀,H₀:=H₀,env:=compEnvC scope (ou X scope C) C X.env,outer:=X.stack,ex:=fp,fn:=fun x=>scope.names.lookup x==some .cell,pn:=[],xe:=fun _ _=>False}
theorem Nn{M:Model}{A:Around}{E:Value->Shared->Prop}{s:Shared}{scope:Scope}{globals:Addr}{closure:List (Str×Addr)}{qual:Str}{outer:Env}{builtins:Addr}{Q:Env->Shared->Prop}
  (hQ : ∀ h', h' = pushCells (s.heap.push { cls := .type "dict", data := .dict #[] }) scope.names -> h'.Ns s.heap.objs.size (fun _ => none) -> (∀ b o, s.heap.get? b = some o -> h'.get? b = some o) ->
   Q (newEnv scope s.heap.objs.size globals (cellsFrom (s.heap.objs.size+1) scope.names closure) qual none .none (some outer) builtins) {s with heap:=h'}):
  wpAny M A (newFunctionEnv scope globals closure [] qual none .none (some outer) builtins) Q E s:=by
 simp only[newFunctionEnv,Option.isSome_some,if_true]
 refine wpAny_bind (wpAny_alloc ?_)
 refine wpAny_bind (wpAny_layCells _ (fun name kind cells=>by cases hkc:kind==NameKind.cell<;>simp[hkc]) _ _ _ _ ?_)
 rw[show({s with heap:=s.heap.push {cls:= .type "dict",data:= .dict #[]}}:Shared).heap.objs.size=s.heap.objs.size+1 from ju ..]
 rw[List.forIn_nil]
 refine wpAny_bind (wpAny_pure (wpAny_pure ?_))
 exact hQ _ rfl ((Heap.Ns.new s.heap (.type "dict")).keeps (pushCells_keeps _ _)) fun b o e=>pushCells_keeps _ _ b o (bC _ e)
section
variable{X:Cx}
theorem CZ{elt iter tg:Expr}{ifs:List Expr}{scope:Scope}{pos pos':Pos}{N:List Str}{mp:List (Option Nat)}{wi:TI}{g:TG}{tc:TT}{te:TE}{use:Option (Value->Sem Unit)}
    {pins:List (Addr×Obj)} {s:Shared} {σ:St} {H:Hp} {Q:VK} {QQ:Value->Shared->Prop}
    (ok:bM X.env.scope X.N scope N mp) (hc:X.calm=true) (hi:PI X tg iter wi)
    (hb:∀C s₀ H₀ fp,PG (dU X scope C N s₀ H₀ fp) tg g/\o4 (dU X scope C N s₀ H₀ fp) ifs tc/\PE (dU X scope C N s₀ H₀ fp) elt te)
    (hs:∀x,foldedSetIterable iter X.env x=pure x) (I:Inv X pins σ H s) (h:jm wi g tc te mp σ H Q)
    (fin:∀acc C H' s' m,Inv X pins σ H' s'->gV X pins H' C->s'.heap.Ns C m->Q (.ref acc) H'->compPost (model X.prog X.w) X.A X.xe use QQ (.ref acc) C (.ok .next) s'):
    wpAny (model X.prog X.w) X.A (comprehension (.ListComp elt [⟨tg,iter,ifs,0⟩] scope pos) scope X.env pos' (newList []) false (eval iter X.env) use) QQ X.xe s:=by
  have hfree:∀x∈scope.names,x.2= .free->∃a,X.env.cells.lookup x.1=some a:=fun x hx e=>I.ok.has x.1 (ok.free x hx e)
  refine wpAny_comprehension_free (use:=use) rfl hs (OG hfree) ok.kind ok.names (aE (hi pins s σ H _ I h) fun v s1 h1=>aE h1 fun itv s2 h2=>?_)
  obtain⟨it,fp,tn,J,H2,e,I2,T,st2,f2,hW⟩:=h2
  subst e
  refine wpAny_newObj_type (Nn (fun h₁ xD Ay yX=>?_))
  dsimp only at Ay xD yX⊢
  have I3:=I2.Ex (its:=[]) (ys:=[]) (t':=s2.toks) .nil (eg _)
  have hW:=hW s2.heap.objs.size I2.fresh
  obtain⟨W,⟨m0,w0⟩,turn⟩:=hW
  generalize AW:s2.heap.push {cls:= .type "list",dict:=none,data:= .seq ([]:List Value).toArray}=HP at Ay xD yX⊢
  have I3:Inv X pins σ (upd H2 s2.heap.objs.size (.lst [])) {s2 with heap:=HP}:=by rw[<-AW];exact I3
  generalize II:upd H2 s2.heap.objs.size (.lst [])=H3 at I3 w0
  have hC:HP.objs.size=s2.heap.objs.size+1:=by rw[<-AW,ju]
  have old:=yX
  have j8:∀b∈fp,b<s2.heap.objs.size:=fun b hb=>by
    obtain⟨o,e,_⟩:=T.obj 0 _ st2 b hb
    exact aX e
  have Kf:∀b∈fp,H3 b=none:=fun b hb=>by
    rw[<-II,aH (bS (j8 b hb))]
    exact(f2 b hb).1
  have wJ:∀{x:Str} {c:Addr},(ou X scope HP.objs.size).lookup x=some c->(HP.objs.size+1<=c/\h₁.IsCell c none)\/X.env.cells.lookup x=some c:=fun{x c} e=>by
    rcases vP (h:=HP.push {cls:= .type "dict",data:= .dict #[]}) (by rw[ju]) e with z|z
    · rw[xD];exact .inl z
    · exact .inr (oF (fun y d q=>by simp at q) z)
  have Mk:∀{x:Str} {c:Addr},X.env.cells.lookup x=some c->c<HP.objs.size:=fun{x c} e=>by
    obtain⟨v,o,ho,hd⟩:=I3.cell x c e
    exact aX ho
  have uy:(dU X scope HP.objs.size N {s2 with heap:=HP} H3 fp).Ok:=by
    refine⟨I2.ok.mod,ok.kind,I2.ok.glob,I2.ok.blt,aA _,fun x y c e1 e2=>?_,fun x hx=>?_,fun x c e1 e2=>?_,I2.ok.hd,I2.ok.frames, .inl rfl,fun b hb=>?_,I3.bs,cL I3.ok.nj I3.sz,fun b o e hb=>?_,fun b hb hz=>?_,I3.stack,I3.BQ⟩
    · refine zl (n:=HP.objs.size+1) (acc:=jH X.env.cells scope.names []) (fun x y c g1 g2=>I2.ok.inj x y c (oF (fun y d q=>by simp at q) g1) (oF (fun y d q=>by simp at q) g2)) (fun x c g=>gY (Mk (oF (fun y d q=>by simp at q) g))) e1 e2
    · have hx':scope.names.lookup x=some .free\/scope.names.lookup x=some .cell:=by
        rcases hx with hx|hx
        · exact yN hx (.inl rfl)
        · exact yN hx (.inr rfl)
      rcases hx' with hx'|hx'
      · have hm:=lK hx'
        obtain⟨a,ha⟩:=hfree _ hm rfl
        refine⟨a,?_⟩
        show(ou X scope HP.objs.size).lookup x=some a
        unfold ou
        rw[tV (ok.own x hx')]
        exact Ea hm ha
      · exact sZ.mp (AL _ _ _ (.inl hx'))
    · have e1:scope.names.lookup x=some .cell:=by
        have e1:(scope.names.lookup x==some NameKind.cell)=true:=e1
        simpa using e1
      exact Bb (zH (lo:=HP.objs.size+1) (aA _) (.inr (lK e1)) e2)
    · refine⟨fun z=>?_,fun x c e=>?_⟩
      rotate_left
      · rcases wJ e with ⟨z,_⟩|z
        · have q:=j8 b hb
          intro w
          rw[hC] at z
          rw[w] at z
          exact absurd (cT (gY (gY q)) z) (fG _)
        · exact(f2 b hb).2.2.2.2.1 x c z
      have z':b=HP.objs.size:=z
      have q:=j8 b hb
      rw[z',hC] at q
      exact absurd q (Nat.not_lt.mpr (iD _))
    · rcases(f2 b hb).2.2.2.1 with z|z
      · exact I2.ok.rz b o e z
      · exact absurd (cT (aX (I2.ok.bs b o e).1) z) (fG _)
    · rcases bQ.mp (I2.xB b hz) with z|z
      · exact(f2 b hb).2.1 z
      · exact(f2 b hb).2.2.1 z
  have IY:Inv (dU X scope HP.objs.size N {s2 with heap:=HP} H3 fp) [] (eL mp σ) H3 {s2 with heap:=h₁}:=by
    refine⟨uy,rfl,I2.bare,Un.kept old,⟨_,Ay,fun i x v e1 e2 e3=>?_⟩,fun x c e=>?_,I3.hok.fresh (aA _),fun x c e=>?_,fun p hp=>absurd (show p∈([]:List (Addr×Obj)) from hp) (by simp),I3.hok.kept old,?_⟩
    · have hj:∃j,mp[i]?=some (some j)/\σ[j]?=some (some v):=by
        unfold eL at e2
        rw[bY] at e2
        cases q:mp[i]? with
        |none=>rw[q] at e2;cases e2
        | some o =>
          rw[q] at e2
          cases o with
          |none=>cases e2
          | some j =>
            refine⟨j,rfl,?_⟩
            have e2:(match σ[j]? with|some v=>v|none=>none)=some v:=eS e2
            cases r:σ[j]? with
            |none=>rw[r] at e2;cases e2
            | some u =>
              rw[r] at e2
              have e2:u=some v:=e2
              rw[e2]
      obtain⟨j,hj1,hj2⟩:=hj
      obtain⟨l1,l2⟩:=ok.look i j x hj1 e1
      have hm:=lK l2
      have kx:=ok.free _ hm rfl
      obtain⟨mm,_,hl⟩:=I3.loc
      obtain⟨u,ru,lk⟩:=hl j x v l1 hj2 (kx.elim (fun z=> .inr (.inl z)) fun z=> .inr (.inr z))
      refine⟨u,ru, .inr ⟨Bs l2,?_⟩⟩
      rcases lk with ⟨k,_⟩|⟨_,c,e,z⟩
      · exfalso
        have k':X.env.scope.names.lookup x=some .local:=k
        rcases kx with kx|kx
        · rw[k'] at kx;cases kx
        · rw[k'] at kx;cases kx
      · refine⟨c,(tV (ok.own x l2)).trans (Ea hm e),?_⟩
        obtain⟨o,ho,hd⟩:=z
        exact⟨o,old c o ho,hd⟩
    · rcases wJ e with ⟨_,z⟩|z
      · exact⟨none,z⟩
      · obtain⟨v,o,ho,hd⟩:=I3.cell x c z
        exact⟨v,o,old c o ho,hd⟩
    · rcases wJ e with ⟨z,_⟩|z
      · exact I3.hok.fresh (Bb z)
      · exact I3.jr x c z
    · show(eL mp σ).length=N.length
      unfold eL
      rw[ak,ok.len]
  have lD:∀{H':Hp},(∀b∈fp,H' b=none)->∀b∈fp,gV (dU X scope HP.objs.size N {s2 with heap:=HP} H3 fp) [] H' b:=fun{H'} hn b hb=>
    ⟨hn b hb,(uy.tP b hb).1,uy.qo b hb, .inl hb,(uy.tP b hb).2,fun p hp=>absurd (show p∈([]:List (Addr×Obj)) from hp) (by simp)⟩
  have Hs:tn 0 h₁:=T.keep 0 _ _ st2 fun b hb o e=>old b o (by rw[<-AW];exact bC _ e)
  have loop:codeAny (model X.prog X.w) X.A (.compLoop (.ListComp elt [⟨tg,iter,ifs,0⟩] scope pos) 0 (.ref it) (.ref s2.heap.objs.size) (compEnvC scope (ou X scope HP.objs.size) HP.objs.size X.env))
      (compPost (model X.prog X.w) X.A X.xe use QQ (.ref s2.heap.objs.size) HP.objs.size) {s2 with heap:=h₁}:=by
    obtain⟨hg,ht,he⟩:=hb HP.objs.size {s2 with heap:=HP} H3 fp
    generalize hY:dU X scope HP.objs.size N {s2 with heap:=HP} H3 fp=Y at hg ht he IY lD
    have yp:Y.prog=X.prog:=by rw[<-hY];rfl
    have yw:Y.w=X.w:=by rw[<-hY];rfl
    have yK:Y.K=X.K:=by rw[<-hY];rfl
    have yA:Y.A=X.A:=by rw[<-hY];rfl
    have yc:Y.calm=true:=by rw[<-hY];exact hc
    have yx:Y.xe=fun _ _=>False:=by rw[<-hY];rfl
    have BW:Y.env=compEnvC scope (ou X scope HP.objs.size) HP.objs.size X.env:=by rw[<-hY];rfl
    rw[<-BW]
    refine NN (fun n s'=>∃i σ' H',Inv Y [] σ' H' s'/\tn i s'.heap/\(∀b∈fp,H' b=none)/\W i n σ' H') ?_ m0 ⟨0,_,H3,IY,Hs,Kf,w0⟩
    rintro n s3 ⟨i,σ3,H4,I4,st3,fr3,w3⟩
    rcases turn i n σ3 H4 w3 with ⟨stop,qn⟩|⟨go,Nx,hN,step⟩
    · have q0:=T.done Y yp yw yK yc i [] s3 σ3 H4 (fun _ _=>False) I4 (lD fr3) st3 stop
      rw[yA] at q0
      refine aE q0 fun r s4 ⟨hr,I5⟩=>?_
      subst hr
      show compPost (model X.prog X.w) X.A X.xe use QQ (.ref s2.heap.objs.size) HP.objs.size (.ok .next) s4
      obtain⟨m,hm,_⟩:=id I5.loc
      have yl:Y.env.locals=HP.objs.size:=by rw[BW];rfl
      rw[yl] at hm
      have fC:H4 HP.objs.size=none:=by have:=I5.free;rw[yl] at this;exact this
      have ub:=I5.base
      have ub':Un (frs X.stack) fp H3 H4 HP s4.heap:=by rw[<-hY] at ub;exact ub
      have hos:s4.os=s2.os:=by have:=I5.os;rw[<-hY] at this;exact this
      have Q5:cM X.prog X.w H4 s4.heap:=by have:=I5.hok;rw[yp,yw] at this;exact this
      have IX:Inv X pins σ H4 s4:=I3.Q8 (ch:=fp) hos ub' Q5 I5.bare fun b hb=>⟨(f2 b hb).2.2.2.1,(f2 b hb).2.1,(f2 b hb).2.2.2.2.1,(f2 b hb).2.2.2.2.2⟩
      exact fin _ _ H4 s4 m IX (I3.qU (aA _) fC) hm qn
    · have q0:=T.item Y yp yw yK yc i [] s3 σ3 H4 (fun _ _=>False) I4 (lD fr3) st3 go
      rw[yA] at q0
      refine aE q0 fun r s4 ⟨u,hr,h4⟩=>?_
      subst hr
      refine aE h4 fun _ s5 ⟨x,H5,I5,r5,y5,m8,xu⟩=>?_
      have wK:=I5.pinned (lD xu) (T.obj _ _ m8)
      rw[<-yx,<-yp,<-yw,<-yA]
      refine aE (hg _ s5 σ3 H5 x u _ wK r5 (step x H5 y5)) fun _ s6 ⟨qB,H6,I6,q6⟩=>?_
      refine aE (ht _ s6 qB H6 _ I6 q6) fun b s7 ⟨H7,I7,q7⟩=>?_
      have again:∀{qK:St} {H8:Hp} {s8:Shared},Inv Y ([]++pZ fp s5.heap) qK H8 s8->Nx qK H8->∃m,m<n/\∃i σ' H',Inv Y [] σ' H' s8/\tn i s8.heap/\(∀b∈fp,H' b=none)/\W i m σ' H':=fun{qK H8 s8} I8 n8=>by
        obtain⟨m',hm,w8⟩:=hN qK H8 n8
        refine⟨m',hm,i+1,qK,H8,I8.uM,T.keep _ _ _ m8 fun b hb o e=>(I8.pin (b,o) (dY _ (dY _ (uY hb e)))).1,fun b hb=>?_,w8⟩
        obtain⟨o,e,d⟩:=T.obj _ _ m8 b hb
        exact(I8.pin (b,o) (dY _ (dY _ (uY hb e)))).2.1
      cases b with
      | false =>
        rw[if_neg bz]
        rw[if_neg bz] at q7
        exact again I7 q7
      | true =>
        rw[if_pos rfl]
        rw[if_pos rfl] at q7
        refine aE (he _ s7 qB H7 _ I7 q7) fun v s8 ⟨y,H8,I8,r8,ys,e8,z8,n8⟩=>?_
        refine aE (kG _ s8 qB H8 (.ref s2.heap.objs.size) [y] (.ref s2.heap.objs.size) [v] (fun _ H9=>H9=upd H8 s2.heap.objs.size (.lst (ys++[y]))) I8 rfl (.cons r8 .nil) ⟨_,ys,y,rfl,rfl,e8,z8,rfl⟩) fun v9 s9 ⟨y9,H9,I9,r9,e9⟩=>?_
        subst e9
        exact again I9 n8
  refine codeAny_compStart_list loop (T.self _ _ _ _ _ Hs loop)
theorem eX{elt iter tg:Expr}{ifs:List Expr}{scope:Scope}{pos:Pos}{N:List Str}{mp:List (Option Nat)}{wi:TI}{g:TG}{tc:TT}{te:TE}
  (ok:bM X.env.scope X.N scope N mp) (hi:PI X tg iter wi)
  (hb:∀C s₀ H₀ fp,PG (dU X scope C N s₀ H₀ fp) tg g/\o4 (dU X scope C N s₀ H₀ fp) ifs tc/\PE (dU X scope C N s₀ H₀ fp) elt te) (hc:X.calm=true:=by rfl)
  (hs:∀x,foldedSetIterable iter X.env x=pure x:=by intro _;rfl):PE X (.ListComp elt [⟨tg,iter,ifs,0⟩] scope pos) (jm wi g tc te mp):=by
 intro pins s σ H Q I h
 rw[eval_ListComp]
 refine CZ (use:=none) ok hc hi hb hs I h fun acc C H' s' m I' f hn q=>?_
 exact⟨m,hn,fun h' hs'=>⟨.ref acc,H',f.turned I' hs',rfl,q⟩⟩
theorem lZ{elt iter tg:Expr}{ifs:List Expr}{scope:Scope}{pos spos py:Pos}{N:List Str}{mp:List (Option Nat)}{wi:TI}{g:TG}{tc:TT}{te:TE}{i:Nat}{y:Str}
  (hN:X.N.Nodup) (hy:X.N[i]?=some y) (hk:X.env.kindOf y=some .local)
  (ok:bM X.env.scope X.N scope N mp) (hi:PI X tg iter wi)
  (hb:∀C s₀ H₀ fp,PG (dU X scope C N s₀ H₀ fp) tg g/\o4 (dU X scope C N s₀ H₀ fp) ifs tc/\PE (dU X scope C N s₀ H₀ fp) elt te) (hc:X.calm=true:=by rfl)
  (hsw:swapsWith (.ListComp elt [⟨tg,iter,ifs,0⟩] scope pos) (some (.Name y py)) spos.line X.env=pure true:=by rfl)
  (hs:∀x,foldedSetIterable iter X.env x=pure x:=by intro _;rfl):PS X (.Assign [.Name y py] (.ListComp elt [⟨tg,iter,ifs,0⟩] scope pos) spos) (qL i (jm wi g tc te mp)):=by
 intro pins s σ H D I h
 rw[exec_Assign_Name_used _ _ _ _ hsw]
 refine wpAny_bind (wpAny_standAt (wpAny_bind ?_))
 show wpAny _ X.A (do let _<-comprehension (.ListComp elt [⟨tg,iter,ifs,0⟩] scope pos) scope X.env _ (newList []) false (eval iter X.env) (some (assign (.Name y py) X.env))) _ _ s
 refine wpAny_bind (wpAny_mono (CZ (use:=some (assign (.Name y py) X.env)) (QQ:=fun _ s'=>SP X pins D .next s') ok hc hi hb hs I h fun acc C H' s' m I' f hn q=>?_) (fun _ s' hq=>wpAny_pure (wpAny_pure hq)) fun _ _ e=>e)
 refine wpAny_assign_Name (Bm (v:= .ref acc) I' hN hy (.inl hk) rfl (fun s2 I2 ⟨a,sb,ha⟩=>?_) (.inr hk))
 have hne:C≠a:=by
  rcases ha with z|z
  ·rw[z];exact f.2.1
  ·exact fun e=>f.2.2.2.2.1 y a z e.symm
 exact⟨m,hn.sameBut sb hne,fun h' hs'=>⟨_,H',f.turned I2 hs',q⟩⟩
end
end L2
set_option maxRecDepth 100000
set_option maxHeartbeats 4000000
namespace L2
open PySem PySem.Spec PyProof.Rows
def aU(ai:List Int)(prs:aB):Nat:=(prs.filter fun pr=>decide (pr.1∈ai)).length
def c8(cs:List aB)(ai:List Int):Bool:=cs.all fun prs=>decide (aU ai prs≠1)
def tot(cs:List aB):Nat:=(cs.map List.length).sum
structure rm(n:Int)(cs:List aB):Prop where
 n0:1<=n
 n1:n<=400
 cl:cs.length<=400
 tl:tot cs<=9000
 ok:∀prs∈cs,∀pr∈prs,0<=pr.1/\pr.1<n
theorem GZ{cs:List aB}{i:Nat}{prs:aB}(e:cs[i]?=some prs):tot (cs.take (i+1))=tot (cs.take i)+prs.length:=by
 unfold tot
 rw[take_snoc e,cj,List.sum_append]
 simp
theorem HV{cs:List aB}:∀i,tot (cs.take i)<=tot cs:=fun i=>by
 have:tot cs=tot (cs.take i)+tot (cs.drop i):=by
  unfold tot
  rw[<-List.sum_append,<-cj,iW]
 omega
theorem By{n:Nat}{cs:List aB}:∀i,i<=cs.length->Short (eG n cs i) (tot (cs.take i))
  | 0, _ => fun r hr => by
    unfold eG at hr
    rw[DB hr];simp
  | i + 1, hi => by
    have ih:=By (n:=n) (cs:=cs) i (by omega)
    have e:cs[i]?=some cs[i]:=aR (by omega)
    rw[Aq e,GZ e]
    exact we (c:=(i:Int)) (prs:=cs[i]) ih
theorem rm.Pu{n:Int}{cs:List aB}(h:rm n cs):CY n cs:=by
 have h0:=h.n0
 have h1:=h.n1
 refine⟨by omega,by omega,h.ok,fun i m prs e r hr=>?_⟩
 have hi:=(aJ.mp e).1
 have a1:=we (c:=(i:Int)) (prs:=prs.take m) (By (n:=n.toNat) (cs:=cs) i (by omega)) r hr
 have a3:(prs.take m).length<=prs.length:=by rw[gG];omega
 have a4:=GZ e
 have a5:=HV (cs:=cs) (i+1)
 have:=h.tl
 omega
theorem Ck{k:Nat}{place:Int}(e:place=(k:Int)):∀{L:aB},(∀x∈L,0<=x.1)->(L.map fun pr=>pr.1.toNat).count k=(L.map (·.1)).count place
  |[],_=>rfl
  | x :: L, h => by
    have h0:=h x (dB ..)
    rw[aZ,uI,aZ,uI,Ck e fun y hy=>h y (dN _ hy)]
    congr 1
    by_cases e':x.1=place
    · rw[if_pos (by simp;omega),if_pos (by simp[e'])]
    · rw[if_neg (by simp;omega),if_neg (by simpa using e')]
theorem DC{c x:Int}:∀{prs:aB} {rows:List (List Int)} {g:Nat->Nat},(∀(k:Nat) r,rows[k]?=some r->r.count x=g k)->∀(k:Nat) r,(eW rows c prs)[k]?=some r->r.count x=g k+if x=c then(prs.map fun pr=>pr.1.toNat).count k else 0
  |[],rows,g,h,k,r,e=>by simpa using h k r e
  | pr :: prs, rows, g, h, k, r, e => by
    have:=DC (c:=c) (x:=x) (prs:=prs) (rows:=kJ rows c pr) (g:=fun k=>g k+if pr.1.toNat=k then(if x=c then 1 else 0) else 0) (fun k r e=>by
      unfold kJ at e
      by_cases hk:pr.1.toNat=k
      · rw[if_pos hk]
        subst hk
        by_cases hl:pr.1.toNat<rows.length
        · rw[bx hl] at e
          cases e
          have:=h _ _ (aR hl)
          rw[g8,aR hl,List.count_append,<-this]
          congr 1
          by_cases hx:x=c
          · simp[hx]
          · rw[if_neg hx,Fx,if_neg (by simpa using fun z=>hx z.symm)]
        · rw[j5 (by rw[fM];omega)] at e;cases e
      · rw[if_neg hk]
        rw[aT hk] at e
        exact h k r e) k r e
    rw[aZ,uI]
    by_cases hk:pr.1.toNat=k
    · by_cases hx:x=c
      · simp[hk,hx] at this⊢;omega
      · simp[hk,hx] at this⊢;omega
    · simp[hk] at this⊢;omega
theorem ye{n:Nat}{cs:List aB}{x:Int}:∀i,i<=cs.length->∀(k:Nat) r,(eG n cs i)[k]?=some r->r.count x=if 0<=x/\x<i then((cs.getD x.toNat []).map fun pr=>pr.1.toNat).count k else 0
  | 0, _, k, r, e => by
    unfold eG at e
    have:=bZ e
    rw[DB this,if_neg (by omega)];rfl
  | i + 1, hi, k, r, e => by
    obtain⟨prs,mC⟩:∃prs,cs[i]?=some prs:=⟨_,aR (by omega)⟩
    rw[Aq mC] at e
    have h1:=DC (ye (x:=x) i (by omega)) k r e
    rw[h1]
    by_cases hx:x=(i:Int)
    · subst hx
      have e1:((i:Int)).toNat=i:=mO i
      rw[if_neg (by omega),if_pos rfl,if_pos (by omega),e1,g8,mC]
      simp
    · rw[if_neg hx,qb]
      by_cases h2:0<=x/\x<i
      · rw[if_pos h2,if_pos (by omega)]
      · rw[if_neg h2,if_neg (by omega)]
theorem KL{n:Nat}{cs:List aB}{k:Nat}{r:List Int}{x:Int}(e:(eG n cs cs.length)[k]?=some r)(h:x∈r):0<=x/\x<cs.length:=by
 have h1:=ye (x:=x) cs.length (aA _) k r e
 have h2:=List.count_pos_iff.mpr h
 by_cases c:0<=x/\x<cs.length
 ·exact c
 ·rw[if_neg c] at h1;omega
structure cC(n:Int)(l:List Int):Prop where
 nd:l.Nodup
 rg:∀x∈l,0<=x/\x<n
theorem cC.len{n:Int}{l:List Int}(h:cC n l)(hn:n<=400):l.length<=400:=by
 have:=mw (l₂:=(List.range n.toNat).map fun(i:Nat)=>(i:Int)) h.nd fun k hk=>by
  obtain⟨a,b⟩:=h.rg k hk
  exact cY.mpr ⟨k.toNat,jv.mpr (by omega),by omega⟩
 rw[ak,o7] at this
 omega
theorem cC.perm{n:Int}{l r:List Int}(h:cC n l)(p:r.Perm l):cC n r:=⟨p.nodup_iff.mpr h.nd,fun x hx=>h.rg x (p.mem_iff.mp hx)⟩
theorem cC.filter{n:Int}{l:List Int}(h:cC n l)(q:Int->Bool):cC n (l.filter q):=⟨h.nd.filter q,fun x hx=>h.rg x (cX.mp hx).1⟩
theorem cC.snoc{n x:Int}{l:List Int}(h:cC n l)(hx:x∉l)(h0:0<=x)(h1:x<n):cC n (l++[x]):=by
 refine⟨?_,fun y hy=>?_⟩
 ·rw[lQ]
  exact⟨h.nd,by simp,fun a ha b hb z=>by rw[aC.mp hb] at z;exact hx (z▸ha)⟩
 ·rcases cE.mp hy with z|z
  ·exact h.rg y z
  ·rw[aC.mp z];exact⟨h0,h1⟩
theorem cC.erase{n x:Int}{l:List Int}(h:cC n l):cC n (l.erase x):=⟨h.nd.erase x,fun y hy=>h.rg y (List.mem_of_mem_erase hy)⟩
def Iv(ai:List Int)(d:PyData):Prop:=d= .list (ai.map .int)\/∃ks:Ks,d= .dict (ks.map cy)/\∀k,gu ks k=decide (k∈ai)
theorem nX(ai:List Int)(prs:aB)(pr:Int×Int):(prs++[pr]).filter (fun pr=>decide (pr.1∈ai))=prs.filter (fun pr=>decide (pr.1∈ai))++if pr.1∈ai then[pr] else[]:=by
 rw[ux]
 congr 1
 by_cases h:pr.1∈ai
 ·simp[h]
 ·simp[h]
def uQ(n:Int)(cs:List aB):Prop:=∀prs∈cs,cC n (prs.map (·.1))
theorem uQ.ai{n:Int}{cs:List aB}(h:uQ n cs)(h0:1<=n)(h1:n<=400)(hc:cs.length<=400)(ht:tot cs<=9000):rm n cs:=⟨h0,h1,hc,ht,fun prs hp pr gn=>(h prs hp).rg pr.1 (cY.mpr ⟨pr,gn,rfl⟩)⟩
theorem Dg{cs:List aB}{w:Nat}:(∀prs∈cs,prs.length<=w)->tot cs<=cs.length*w:=by
  induction cs with
  |nil=>intro _;simp[tot]
  | cons a cs ih =>
    intro h
    have h1:=h a (dB ..)
    have h2:=ih fun p hp=>h p (dN _ hp)
    have e:tot (a::cs)=a.length+tot cs:=by unfold tot;simp
    rw[e,fP,Nat.succ_mul]
    omega
theorem Tv.mono{G:Gx}{ρ:Rh}{t:TT}{Ψ Θ:Bool->Prop}(h:Tv G ρ t Ψ)(q:∀b,Ψ b->Θ b):Tv G ρ t Θ:=fun nb σ H Q W z=>h nb σ H Q W fun b H' p=>z b H' (q b p)
def wH(n:Int)(bH:List (List Int)):Prop:=∀l∈bH,cC n l/\l≠[]
theorem pY(q:Int->Bool){xs:List Int}{j:Nat}{x:Int}(e:xs[j]?=some x):(xs.take (j+1)).filter q=(xs.take j).filter q++if q x=true then[x] else[]:=by
 rw[take_snoc e,ux]
 congr 1
 rw[i7,uJ]
theorem cC.N9{n:Int}{l:List Int}(h:cC n l):l.length<=n.toNat:=by
 have:=mw (l₂:=(List.range n.toNat).map fun(i:Nat)=>(i:Int)) h.nd fun k hk=>by
  obtain⟨a,b⟩:=h.rg k hk
  exact cY.mpr ⟨k.toNat,jv.mpr (by omega),by omega⟩
 rwa[ak,o7] at this
theorem cC.kq{n:Int}{l:List Int}(h:cC n l)(hn:n<=60):l.length<=60:=by
 have:=h.N9
 omega
end L2
set_option maxRecDepth 100000
set_option maxHeartbeats 4000000
namespace L2
open PySem PySem.Spec PyProof.Rows
theorem RQ{X:Cx}{K:PySem.W.Frag}{e:Expr}{T:String}{r:V->List V->Hp->VK->Prop}{to:TE}{t:TA}(hK:X.K=K)(h:PE X e (jc X.K T r to t)):PE X e (jc K T r to t):=by subst hK;exact h
theorem Es{α:Type}{d:α}:∀{ds:List α} {r:Nat},ds[r]?=some d->(d::ds.eraseIdx r).Perm ds
 |x::ds,0,e=>by simp at e;subst e;exact .refl _
 |x::ds,r+1,e=>(List.Perm.swap x d _).trans ((Es (ds:=ds) (r:=r) (by simpa using e)).cons x)
 |[],r,e=>by simp at e
section
variable{G:Gx}{ρ:Rh}{t0:TE}{E:DE}{i0 j:Nat}{f:Bool}{K K2:PySem.W.Frag}
theorem Sv.QF{a:Addr}{ds:List PyData}(e0:ρ[i0]?=some .az)(ej:ρ[j]?=some (.own a f ds))(hl:ds.length<=9000)(hlen:Ev G ρ t0 fun _ x=>x= .int ds.length)(h:∀rs:List PyData,rs.Perm ds->E.rt f (.list rs)):
  Sv G ρ (qh (jm (oZ (aK t0 aQ)) (ek 0) kc (jc K "list" Bl (bE 2) (aK (gb gQ [] E0 (aK (bE 1) (aK (dw (eT K2) (aK (bE 2) aQ)) aQ))) aQ)) [none,some i0,some j])) E:=fun nb σ H D W KK=>by
 refine hlen nb σ H _ W fun g v H1 x ex s1 hv=>?_
 subst ex
 rw[hv.bL]
 refine⟨ds.length,rfl,by omega,by omega,fun acc hacc=>?_⟩
 have hij:i0≠j:=fun z=>by subst z;rw[e0] at ej;cases ej
 have eu:jF [none,some i0,some j] ρ=[.no, .az, .own a f ds]:=by unfold jF;simp[e0,ej]
 have W0:Wd G nb [.no, .az, .own a f ds] (L2.eL [none,some i0,some j] σ) H1:=by rw[<-eu];exact(W.step s1).eL (by simp[hij])
 have W1:=W0.more hacc (o:= .lst [])
 have hN:=NB.new s1.2 hacc
 have w4:a≠acc:=(sW W0 hacc).1 2 a f ds rfl
 rw[mO]
 refine R.rT (fun i σ H2=>∃(s0:Sl) (ds' es:List PyData) (xs:List V),(∀a f ds,s0≠ .own a f ds)/\(∀a f ds,s0≠ .bf a f ds)/\Wd G (fun x=>nb x\/x=acc) [s0, .az, .own a f ds'] σ H2/\H2 acc=some (.lst xs)/\af (G.S (fun x=>nb x\/x=acc) f) H2 es xs/\(es++ds').Perm ds/\es.length=i) ⟨.no,ds,[],[],(fun _ _ _ z=>by cases z),(fun _ _ _ z=>by cases z),W1,aS, .nil,by simp,rfl⟩ ?_ ?_
 ·rintro i σ H2 hi ⟨s0,ds',es,xs,hs0,hs1,W2,nD,hd2,hp,hel⟩
  have hlen':=hp.length_eq
  rw[bR] at hlen'
  have W3:=W2.jD (i:=0) (f:=true) (d:= .int (0+(i:Int))) (v:= .int (0+(i:Int))) (.int _)
  dsimp only[ek,kc]
  rw[if_pos rfl]
  obtain⟨x,e1,h1,h2,h3,ys,hy,Jg⟩:=W3.ok 2 _ rfl
  subst h1
  refine⟨.ref a,e1, .inl ⟨rfl,_,aF.of hy⟩,?_⟩
  refine Ev.draw (i:=1) (Φ:=fun _ d=>∃r:Nat,d= .int (r:Int)/\r<ds'.length) rfl (Ev.FI (i:=2) rfl ?_) _ _ _ _ W3 fun g v H3 d ⟨r,er,hr⟩ s3 hv=>?_
  ·refine⟨_,rfl,by omega,by unfold Sm;omega,fun r r1 r2=>⟨r.toNat,?_,by omega⟩⟩
   rw[Int.toNat_of_nonneg r1]
  subst er
  have hk:=hv.bL
  subst hk
  have W4:=W3.step s3
  have OE:=s3.1 _ _ h3 hy
  have rK:=s3.1 _ _ hN nD
  have Dq:=Jg.keep s3.dj
  have sV:=hd2.keep (s3.dj (nb:=fun x=>nb x\/x=acc) (f:=f))
  obtain⟨d,Dz⟩:∃d,ds'[r]?=some d:=⟨_,aR hr⟩
  obtain⟨y',hy',hD⟩:=Dq.get Dz
  have hml:r<ys.length:=(aJ.mp hy').1
  have hix:seqIndex? (r:Int) ys.length=some r:=by
   have:fQ ys.length (r:Int)=some r:=by
    unfold fQ
    rw[if_pos (by omega),if_pos (by omega),mO]
   exact(zm this).1
  have W5:=Sv.oS W4 (i:=2) rfl (Dq.era r)
  have CV:aI (G.S (fun x=>nb x\/x=acc) f) H3 (upd H3 a (.lst (ys.eraseIdx r))):=aI.set (.inl h2)
  have MZ:(upd H3 a (.lst (ys.eraseIdx r))) acc=some (.lst xs):=by rw[aH (br w4)];exact rK
  refine⟨a,ys,(r:Int),r,y',rfl,rfl,OE,by omega,by omega,hix,hy',?_⟩
  have A0:=hd2.length
  refine⟨xs,MZ,cT (show xs.length<10000 by omega) (by decide),?_⟩
  have Be:aI (G.S (fun x=>nb x\/x=acc) f) (upd H3 a (.lst (ys.eraseIdx r))) (upd (upd H3 a (.lst (ys.eraseIdx r))) acc (.lst (xs++[y']))):=aI.set (.inl (.inr rfl))
  have W6:=W5.write (p:=acc) (o:= .lst (xs++[y'])) (.inr rfl) hN (fun k c f' cs hc=>by
   match k with
   |0=>cases hc
   |1=>cases hc
   |2=>cases hc;exact w4
   |k+3=>simp at hc) (fun k c f' cs hc=>by
   match k with
   |0=>cases hc
   |1=>cases hc
   |2=>cases hc
   |k+3=>simp at hc) (fun k c hc=>by
   match k with
   |0=>cases hc
   |1=>cases hc
   |2=>cases hc
   |k+3=>simp at hc)
  refine⟨_,ds'.eraseIdx r,es++[d],xs++[y'],?_,?_,W6,aS,af.snoc ((hD.keep CV).keep Be) ((sV.keep CV).keep Be),?_,by simp[hel]⟩
  ·intro _ _ _ z;cases z
  ·intro _ _ _ z;cases z
  ·have:=Es Dz
   rw[dM]
   exact((List.perm_append_left_iff es).mpr this).trans hp
 ·rintro σ H2 ⟨s0,ds',es,xs,hs0,hs1,W2,nD,hd2,hp,hel⟩
  have hlen':=hp.length_eq
  rw[bR] at hlen'
  have e9:ds'=[]:=kH.mp (by omega)
  subst e9
  rw[iC] at hp
  refine KK.rt _ _ _ f _ H2 _ (h es hp) W2 (.lst (fun z=>?_) nD (hd2.av (bF (fun z=>z) fun _ z=>z.elim)))
  have hn:=W2.cK acc (.inr rfl) hN
  rcases z with z|z|z|z
  ·exact z
  ·exact W2.gA acc z hn
  ·exact z hN
  ·exact z.2 hn
end
theorem JI{α β:Type}{xs:List α}(φ:α->β){x:α}(h:xs[xs.length-1]?=some x):bh (xs.map φ) (-1)=some (φ x):=by
 have hl:=(aJ.mp h).1
 unfold bh fQ
 rw[ak]
 repeat (first|rw[if_pos (by omega)]|rw[if_neg (by omega)])
 show(xs.map φ)[((-1:Int)+(xs.length:Int)).toNat]?=_
 have e:((-1:Int)+(xs.length:Int)).toNat=xs.length-1:=by omega
 rw[e,bY,h]
 rfl
section
variable{G:Gx}{ρ:Rh}{te:TE}{i:Nat}{f:Bool}{K:PySem.W.Frag}
theorem Tv.HM{Θ:Bool->Prop}{a:Addr}{ds:List PyData}(e:ρ[i]?=some (.own a f ds))(h:Θ (!ds.isEmpty)):Tv G ρ (rJ K (bE i)) Θ:=fun nb σ H Q W z=>by
 obtain⟨x,e1,h1,h2,h3,xs,hx,hd⟩:=W.ok i _ e
 subst h1
 have hl:=hd.length
 have:xs.isEmpty=ds.isEmpty:=by cases xs<;>cases ds<;>first|rfl|(simp at hl)
 refine⟨.ref a,e1,_, .inl ⟨xs, .of hx,rfl⟩,?_⟩
 rw[this]
 exact z _ H h (.refl W.az)
theorem Tv.Jx{Θ:Bool->Prop}(h:Ev G ρ te fun _ x=>∃ds,x= .list ds/\Θ (!ds.isEmpty)):Tv G ρ (rJ K te) Θ:=fun nb σ H Q W z=>
 h nb σ H _ W fun f v H1 d ⟨ds,e,q⟩ s1 hv=>by
  subst e
  obtain⟨a,xs,rfl,n,hx,hd⟩:=hv.cG
  have hl:=hd.length
  have:xs.isEmpty=ds.isEmpty:=by cases xs<;>cases ds<;>first|rfl|(simp at hl)
  refine⟨_, .inl ⟨xs, .of hx,rfl⟩,?_⟩
  rw[this]
  exact z _ H1 q s1
end
end L2
set_option maxRecDepth 100000
set_option maxHeartbeats 4000000
namespace L2
open PySem PySem.Spec PyProof.Rows
def Ge:V->List V->Hp->VK->Prop:=fun x vs H Q=>∃a kvs k v,x= .ref a/\vs=[kV k]/\H a=some (.dK kvs)/\eU kvs k=some v/\Q v (upd H a (.dK (kj kvs k)))
theorem D7{X:Cx}:oN X "dict.pop" Ge:=by
 intro pins s σ H x vs v us Q I rx rv h
 obtain⟨a,kvs,k,w,rfl,rfl,hH,hv,q⟩:=h
 cases rx
 obtain⟨u,rfl,ru⟩:=rv.one
 exact MM I hH ru hv (.inl rfl) fun w' s' I' r'=>⟨w,_,I',r',q⟩
theorem au.drop{S:Addr->Prop}{H:Hp}{k:Int}:∀{ks:Ks} {ps:List (Key×V)},au S H (ks.map cy) ps->au S H ((nW ks k).map cy) (kj ps (Sum.inl k))
  |[],ps,h=>by unfold au at h;subst h;unfold nW kj;simp only[uJ,k7];unfold au;rfl
  | p :: r, ps, h => by
    rw[aZ] at h
    unfold au at h
    obtain⟨q,qs,rfl,h1,h2⟩:=h
    have ih:=au.drop (k:=k) h2
    have h0:=h1
    unfold bI at h1
    have h3:q.1=Sum.inl p.1:=h1.1
    unfold nW kj at ih⊢
    rw[i7,i7]
    by_cases e:p.1=k
    · rw[if_neg (by simpa using e),if_neg (by rw[h3,e];simp)]
      exact ih
    · rw[if_pos (by simpa using e),if_pos (by rw[h3];simpa using e),aZ]
      unfold au
      exact⟨q,_,rfl,h0,ih⟩
section
variable{G:Gx}{ρ:Rh}{ta tb te:TE}{t:TA}{E:DE}{i j m n:Nat}{f:Bool}{K K2 K3:PySem.W.Frag}{Φ:Pd}
theorem Sv.D5{a:Addr}{ks:Ks}(e:ρ[i]?=some (.bf a f ks))(h:Ev G ρ te fun _ y=>∃k,y= .int k/\gu ks k=true/\E.nx (ρ.set i (.bf a f (nW ks k)))):
  Sv G ρ (jV (jc K "dict" Ge (bE i) (aK te aQ))) E:=fun nb σ H D W KK=>by
 obtain⟨x,e1,h1,h2,h3,ps,hp,hd⟩:=W.ok i _ e
 subst h1
 refine⟨.ref a,e1, .inr (.inr (.inl ⟨rfl, .inl ⟨_,hp⟩⟩)),h nb σ H _ W fun g v H1 y ⟨k,ey,hk,q⟩ s1 hv=>?_⟩
 subst ey
 have hk':=hv.bL
 subst hk'
 have hd1:=hd.keep s1.dj
 have:=au.val k hd1
 rw[<-Ds] at hk
 obtain⟨d,ed⟩:=sZ.mp hk
 rw[ed] at this
 obtain⟨v,hv',_⟩:=this
 exact⟨a,ps, .inl k,v,rfl,rfl,s1.1 _ _ h3 hp,hv',KK.nx nb _ _ _ q (DY (W.step s1) e (au.drop hd1))⟩
theorem iS.Pa{Ψ:PyData->Prop}{a:Addr}{ks:Ks}(i:Nat)(e:ρ[i]?=some (.bf a f ks))(h:iS G (ρ.set i (.d f (.dict (ks.map cy)))) te Ψ):iS G ρ te Ψ:=fun nb σ H Q W z=>h _ σ H Q (Fg W e) z
theorem Ev.RE(h:iS G ρ te fun d=>Φ true d):Ev G ρ te Φ:=fun nb σ H Q W z=>h nb σ H Q W fun v H' d p st hd=>z true v H' d p st (hd.av fun a q=>W.iz a q)
theorem ay.HN{Θ:Bool->List PyData->Prop}{a:Addr}{ds:List PyData}(i:Nat)(e:ρ[i]?=some (.own a f ds))(h:ay G (ρ.set i (.d f (.list ds))) te fun _ es=>es.all ig=true/\Θ true es):ay G ρ te Θ:=fun nb σ H Q W z=>
 h _ σ H Q (Sv.share W e) fun f c xs H' es ⟨hs,p⟩ st hc hx hd=>z true c xs H' es p st hc hx (af.jN hs hd)
def ES:V->V->Hp->VK->Prop:=fun o i H Q=>∃a xs k v,o= .ref a/\i= .int k/\H a=some (.lst xs)/\0<=k/\bh xs k=some v/\Q v H
theorem Sv.NP{a:Addr}{ds:List PyData}{g:Int->Int->Int}{c:Int}(e:ρ[i]?=some (.own a f ds))(h:Ev G ρ tb fun _ y=>∃k m x,y= .int k/\0<=k/\fQ ds.length k=some m/\bh ds k=some (.int x)/\E.nx (ρ.set i (.own a f (ds.set m (.int (g x c)))))):
  Sv G ρ (GA (bE i) tb (tC (.int c)) ES (GC g) rM) E:=fun nb σ H D W KK=>by
 obtain⟨x,e1,h1,h2,h3,xs,hx,hd⟩:=W.ok i _ e
 subst h1
 refine⟨.ref a,e1,h nb σ H _ W fun g' u H2 y ⟨k,m,x,ey,k0,hm,ha,p⟩ s2 hu=>?_⟩
 subst ey
 have hk:=hu.bL
 subst hk
 have nD:=s2.1 _ _ h3 hx
 have hd2:=hd.keep s2.dj
 obtain⟨w,hw,hD⟩:=hd2.bh ha
 have J6:=hD.bL
 subst J6
 refine⟨a,xs,k,_,rfl,rfl,nD,k0,hw,x,c,rfl,rfl,a,xs,k,m,rfl,rfl,nD,by rw[hd.length];exact hm,KK.nx nb _ _ _ p (oS (W.step s2) e ?_)⟩
 exact af.set' (.int _) m hd2
theorem Sv.MD{F:DF}{i0 q:Nat}{a aq:Addr}{f0 fq:Bool}{Fp ws cs:List PyData}{ks:Ks}{c:Int}{dd:PyData}(hm:eN F)(RX:j≠q)
  (e0:ρ[i0]?=some (.d f0 (.tuple Fp))) (e2:bh Fp 2=some (.list cs)) (ej:ρ[j]?=some (.own a f (ws++[.int c]))) (eq:ρ[q]?=some (.bf aq fq ks)) (hc:bh cs c=some dd)
  (h:F [dd, .dict (ks.map cy)] fun g d=>g=true/\E.nx ((ρ.set j (.own a f ws)).set m (.d true d))):
  Sv G ρ (jf (gb (dh 2 F) [] E0 (aK (bW (cO K) (bW (dZ K2) (bE i0) (tC (.int 2))) (jc K3 "list" CC (bE j) aQ)) (aK (bE q) aQ))) (ek m)) E:=fun nb σ H D W KK=>by
 obtain⟨x0,IP,v0,rfl,hd0⟩:=W.ok i0 _ e0
 obtain⟨a0,Mb,rfl,n0,jA,L6⟩:=hd0.ofT
 obtain⟨w2,Jt,sH⟩:=L6.bh e2
 obtain⟨aL,Oc,rfl,nL,HQ,hdL⟩:=sH.cG
 obtain⟨wc,O6,Ip⟩:=hdL.bh hc
 obtain⟨x,e1,h1,h2,h3,xs,hx,hd⟩:=W.ok j _ ej
 subst h1
 have hlx:=hd.length
 rw[bR,jT] at hlx
 obtain⟨vl,hvl,rq⟩:=hd.get (i:=ws.length) (d:= .int c) (by rw[ff (aA _),nI];rfl)
 have Ni:=rq.bL
 subst Ni
 have hne:aL≠a:=fun z=>nL (by rw[z];exact .inl h2)
 have hxs:xs.dropLast=xs.take ws.length:=by rw[List.dropLast_eq_take,hlx];rfl
 have Lj:af (G.S nb f) H ws xs.dropLast:=by
  have:=hd.take ws.length
  rw[List.take_left] at this
  rw[hxs];exact this
 have W1:=oS W ej Lj
 have eq':(ρ.set j (.own a f ws))[q]?=some (.bf aq fq ks):=by rw[aT RX];exact eq
 obtain⟨y,e3,k1,k2,k3,ps,hp,R6⟩:=W1.ok q _ eq'
 subst k1
 have S1:=Fg W1 eq'
 refine⟨.ref a0,IP,a0,Mb,2, .ref aL,rfl,rfl, .of jA,Jt, .ref a,e1, .inl ⟨rfl,_,aF.of hx⟩,a,xs, .int c,rfl,rfl,hx,by rw[hlx,xN];exact hvl,?_⟩
 refine⟨aL,Oc,c,wc,rfl,rfl, .of (by rw[aH hne];exact HQ),O6, .ref aq,e3,?_⟩
 have M0:ah (G.S nb f0) (upd H a (.lst xs.dropLast)) dd wc:=Ip.keep (aI.set (.inl h2))
 have KW:((ρ.set j (.own a f ws)).set q (.d fq (.dict (ks.map cy))))[q]?=some (.d fq (.dict (ks.map cy))):=bx (by rw[fM];exact(aJ.mp eq).1)
 obtain⟨y',e4,v4,e5,Ii⟩:=S1.ok q _ KW
 rw[e3] at e4
 cases e4
 cases e5
 refine⟨rfl,(fun x=>G.S (fun x=>nb x/\x≠aq) false x),[dd, .dict (ks.map cy)],S1.iz, .cons (M0.av fun x z=>?_) (.cons (Ii.av (bF (fun z=>by cases z) fun _ z=>z)) .nil),hm _ _ _ h fun g d ⟨hg,p⟩ v H' sm hv=>?_⟩
 ·rcases z with z|z|z|z
  ·exact .inl z.1
  ·exact .inr (.inl z)
  ·exact .inr (.inr (.inl z))
  ·cases z.1
 ·subst hg
  have st:Step G.B (upd H a (.lst xs.dropLast)) H':= .same W1.az sm
  refine KK.nx nb _ _ _ p ((W1.step st).jD (i:=m) (f:=true) (hv.av fun x z=> .inr ⟨rfl,W1.iz x z⟩))
end
theorem QK{X:Cx}:Eo X ES:=by
 intro pins s σ H o i ov iv Q I ro ri h
 obtain⟨a,xs,k,v,rfl,rfl,hH,k0,hv,q⟩:=h
 cases ro
 obtain⟨t,rfl⟩:=ri
 obtain⟨its,r,pl,hz⟩:=I.list (aF.of hH)
 obtain⟨j,h1,h2,h3,h4,h5⟩:=uU hv
 obtain⟨w,ew,rw'⟩:=r.get h2
 have hl:=r.length
 have hn:=m9
 have hj:k.toNat=j:=by
  rw[seqIndex_of k0 h5] at h1
  exact eS h1
 exact wpAny_getItem_list pl.isList k0 (by omega) (by rw[hj];simpa using ew) ⟨v,H,I,rw',q⟩
structure fk(cs:List aB)(ai g:List Int):Prop where
 sub:∃q:Int->Bool,g=ai.filter q
 out:c8 cs g=true
 max:∀T:List Int,(∀x∈T,x∈ai)->c8 cs T=true->∀x∈T,x∈g
structure GI(cs:List aB)(ai S cn ws:List Int):Prop where
 sub:∃q:Int->Bool,S=ai.filter q
 cnt:cn=cs.map fun prs=>(aU S prs:Int)
 nd:ws.Nodup
 rg:∀w∈ws,0<=w/\w<cs.length
 one:∀(c:Nat) prs,cs[c]?=some prs->aU S prs=1->(c:Int)∈ws
 few:∀w∈ws,∀prs,cs[w.toNat]?=some prs->aU S prs<=1
 max:∀T:List Int,(∀x∈T,x∈ai)->c8 cs T=true->∀x∈T,x∈S
theorem GI.mem{cs:List aB}{ai S cn ws:List Int}(h:GI cs ai S cn ws):∀x∈S,x∈ai:=fun x hx=>by
 obtain⟨q,e⟩:=h.sub
 rw[e] at hx
 exact(cX.mp hx).1
theorem GI.done{cs:List aB}{ai S cn:List Int}(h:GI cs ai S cn []):fk cs ai S:=by
 refine⟨h.sub,?_,h.max⟩
 unfold c8
 rw[fN]
 intro prs hp
 refine decide_eq_true fun z=>?_
 obtain⟨c,hc⟩:=g6 hp
 exact absurd (h.one c prs hc z) (by simp)
theorem GI.drop{cs:List aB}{ai S cn ws:List Int}{w:Int}{prs:aB}(h:GI cs ai S cn (ws++[w]))(hp:cs[w.toNat]?=some prs)(h0:aU S prs=0):GI cs ai S cn ws:=by
 obtain⟨n1,_,n3⟩:=lQ.mp h.nd
 refine⟨h.sub,h.cnt,n1,fun x hx=>h.rg x (gj _ hx),fun c u hu h1=>?_,fun x hx=>h.few x (gj _ hx),h.max⟩
 rcases cE.mp (h.one c u hu h1) with z|z
 ·exact z
 ·have e:=aC.mp z
  rw[<-e,mO,hu] at hp
  cases hp
  omega
theorem E2{S T:List Int}(h:∀x∈T,x∈S)(prs:aB):aU T prs<=aU S prs:=by
  unfold aU
  induction prs with
  |nil=>exact aA _
  | cons pr prs ih =>
    rw[i7,i7]
    by_cases c:pr.1∈T
    · rw[if_pos (by simpa using c),if_pos (by simpa using h _ c),fP,fP];omega
    · rw[if_neg (by simpa using c)]
      by_cases c2:pr.1∈S
      · rw[if_pos (by simpa using c2),fP];omega
      · rw[if_neg (by simpa using c2)];exact ih
theorem Ai{S:List Int}{x:Int}(hx:x∈S)(prs:aB):aU S prs=(prs.map (·.1)).count x+aU (S.filter fun y=>decide (y≠x)) prs:=by
  unfold aU
  induction prs with
  |nil=>rfl
  | cons pr prs ih =>
    rw[i7,i7,aZ,uI]
    by_cases c:pr.1=x
    · rw[if_pos (by simp[c,hx]),if_pos (by simp[c]),if_neg (by simp[c]),fP,ih];omega
    · by_cases c2:pr.1∈S
      · rw[if_pos (by simpa using c2),if_neg (by simpa using c),if_pos (by simp[c,c2]),fP,fP,ih];omega
      · rw[if_neg (by simpa using c2),if_neg (by simpa using c),if_neg (by simp[c2]),ih];omega
theorem zo{T:List Int}{x:Int}{prs:aB}(hx:x∈T)(h:x∈prs.map (·.1)):1<=aU T prs:=by
 obtain⟨pr,hp,e⟩:=cY.mp h
 unfold aU
 exact Aw (cX.mpr ⟨hp,by rw[e];simpa using hx⟩)
structure GJ(cs:List aB)(S row:List Int)(c0:Int)(m:Nat)(cn ws:List Int):Prop where
 len:cn.length=cs.length
 cnt:∀(c:Nat) prs,cs[c]?=some prs->cn[c]?=some ((aU S prs:Int)-((row.take m).count (c:Int):Int))
 nd:ws.Nodup
 rg:∀w∈ws,0<=w/\w<cs.length
 one:∀(c:Nat),cn[c]?=some 1->(c:Int)∈ws\/(c:Int)=c0
 few:∀w∈ws,∀v,cn[w.toNat]?=some v->v<=1
theorem GI.start{cs:List aB}{ai S cn ws row:List Int}{c0:Int}(h:GI cs ai S cn (ws++[c0])):GJ cs S row c0 0 cn ws:=by
 obtain⟨n1,_,n3⟩:=lQ.mp h.nd
 have hcn:∀(c:Nat) v,cn[c]?=some v->∃prs,cs[c]?=some prs/\v=(aU S prs:Int):=fun c v e=>by
  rw[h.cnt] at e
  exact dP e
 refine⟨by rw[h.cnt,ak],fun c prs e=>?_,n1,fun x hx=>h.rg x (gj _ hx),fun c e=>?_,fun x hx v e=>?_⟩
 ·rw[h.cnt,bY,e]
  simp
 ·obtain⟨prs,e1,e2⟩:=hcn c 1 e
  rcases cE.mp (h.one c prs e1 (by omega)) with z|z
  ·exact .inl z
  ·exact .inr (aC.mp z)
 ·obtain⟨prs,e1,e2⟩:=hcn _ v e
  have:=h.few x (gj _ hx) prs e1
  omega
theorem GJ.at{cs:List aB}{S row cn ws:List Int}{c0:Int}{m:Nat}(h:GJ cs S row c0 m cn ws){c:Int}(h0:0<=c)(h1:c<cs.length):∃v,cn[c.toNat]?=some v:=by
 have:=h.len
 exact⟨_,aR (by omega)⟩
theorem GJ.step{cs:List aB}{S row cn ws:List Int}{c0 c v:Int}{m:Nat}(h:GJ cs S row c0 m cn ws)(hm:row[m]?=some c)(h0:0<=c)(h1:c<cs.length)(hv:cn[c.toNat]?=some v):
  GJ cs S row c0 (m+1) (cn.set c.toNat (v-1)) (if v-1=1 then ws++[c] else ws):=by
 have AG:c.toNat<cn.length:=(aJ.mp hv).1
 have hcc:((c.toNat:Nat):Int)=c:=by omega
 have CM:∀w∈ws,∀u,(cn.set c.toNat (v-1))[w.toNat]?=some u->u<=1:=fun w hw u e=>by
  by_cases z:c.toNat=w.toNat
  ·rw[z,bx (by omega)] at e
   cases e
   rw[z] at hv
   have:=h.few w hw v hv
   omega
  ·rw[aT z] at e
   exact h.few w hw u e
 refine⟨by rw[fM];exact h.len,fun k prs e=>?_,?_,?_,fun k e=>?_,?_⟩
 ·have e0:=h.cnt k prs e
  rw[take_snoc hm,List.count_append,Fx]
  by_cases z:c.toNat=k
  ·subst z
   rw[bx AG,hcc]
   rw[e0,hcc] at hv
   cases hv
   rw[if_pos (by simp)]
   congr 1
   omega
  ·rw[aT z,e0,if_neg (by simp;omega)]
   rfl
 ·split
  ·rename_i hone
   rw[lQ]
   refine⟨h.nd,by simp,fun a ha b hb z=>?_⟩
   rw[aC.mp hb] at z
   subst z
   have:=h.few a ha v hv
   omega
  ·exact h.nd
 ·split
  ·intro w hw
   rcases cE.mp hw with z|z
   ·exact h.rg w z
   ·rw[aC.mp z];exact⟨h0,h1⟩
  ·exact h.rg
 ·by_cases z:c.toNat=k
  ·subst z
   rw[bx AG] at e
   have e:=eS e
   rw[if_pos e,hcc]
   exact .inl (dY _ (by simp))
  ·rw[aT z] at e
   rcases h.one k e with q|q
   ·split
    ·exact .inl (gj _ q)
    ·exact .inl q
   ·exact .inr q
 ·split
  ·rename_i hone
   intro w hw u e
   rcases cE.mp hw with z|z
   ·exact CM w z u e
   ·rw[aC.mp z,bx AG] at e
    cases e
    omega
  ·exact CM
theorem GJ.fin{cs:List aB}{ai S cn jj ws lM row:List Int}{c0 x:Int}{iM:aB}(h:GI cs ai S cn (ws++[c0]))(hp0:cs[c0.toNat]?=some iM)(hx:x∈S)(jA:x∈iM.map (·.1))(AF:∀(c:Nat) prs,cs[c]?=some prs->row.count (c:Int)=(prs.map (·.1)).count x)
    (j:GJ cs S row c0 row.length jj lM):GI cs ai (S.filter fun y=>decide (y≠x)) jj lM:=by
  have hc0:=h.rg c0 (dY _ (by simp))
  have hfew:=h.few c0 (dY _ (by simp)) iM hp0
  have hone:=zo hx jA
  have hn:∀prs,aU (S.filter fun y=>decide (y≠x)) prs=aU S prs-(prs.map (·.1)).count x:=fun prs=>by have:=Ai hx prs;omega
  have hcn:∀(c:Nat) prs,cs[c]?=some prs->jj[c]?=some (aU (S.filter fun y=>decide (y≠x)) prs:Int):=fun c prs e=>by
    rw[j.cnt c prs e,eV,AF c prs e]
    have:=Ai hx prs
    congr 1
    omega
  refine⟨?_,?_,j.nd,j.rg,fun c prs e h1=>?_,fun w hw prs e=>?_,fun T hT ho y hy=>?_⟩
  · obtain⟨q,e⟩:=h.sub
    exact⟨_,by rw[e,List.filter_filter]⟩
  · apply jC
    intro k
    rw[bY]
    cases e:cs[k]? with
    | none =>
      have:=GV.mp e
      rw[j5 (by have:=j.len;omega)];rfl
    |some prs=>rw[hcn k prs e];rfl
  · have e1:=hcn c prs e
    rw[h1] at e1
    rcases j.one c e1 with z|z
    · exact z
    · rw[<-z,mO,e] at hp0
      have e9:=eS hp0
      subst e9
      have:=Ai hx prs
      have hcp:0<(prs.map (·.1)).count x:=List.count_pos_iff.mpr jA
      omega
  · have hw0:=j.rg w hw
    have e1:=hcn w.toNat prs e
    have:=j.few w hw _ e1
    omega
  · refine cX.mpr ⟨h.max T hT ho y hy,decide_eq_true fun z=>?_⟩
    subst z
    have Pw:=h.max T hT ho
    have a1:=E2 Pw iM
    have a2:=zo hy jA
    unfold c8 at ho
    rw[fN] at ho
    exact of_decide_eq_true (ho iM (bZ hp0)) (by omega)
theorem GI.init{cs:List aB}{ai ws:List Int}(hws:ws=((List.range cs.length).filter fun c=>decide (aU ai (cs.getD c [])=1)).map fun(c:Nat)=>(c:Int)):GI cs ai ai (cs.map fun prs=>(aU ai prs:Int)) ws:=by
 subst hws
 refine⟨⟨fun _=>true,(yH.mpr fun _ _=>rfl).symm⟩,rfl,?_,fun w hw=>?_,fun c prs e h1=>?_,fun w hw prs e=>?_,fun T hT _ y hy=>hT y hy⟩
 ·rw[HB,z9]
  exact(vh.filter _).imp fun h=>by omega
 ·obtain⟨c,hc,rfl⟩:=cY.mp hw
  have:=jv.mp (cX.mp hc).1
  omega
 ·refine cY.mpr ⟨c,cX.mpr ⟨jv.mpr (aJ.mp e).1,?_⟩,rfl⟩
  rw[g8,e]
  exact decide_eq_true h1
 ·obtain⟨c,hc,rfl⟩:=cY.mp hw
  have:=of_decide_eq_true (cX.mp hc).2
  rw[mO] at e
  rw[g8,e] at this
  have h1:aU ai prs=1:=this
  omega
theorem GI.len{cs:List aB}{ai S cn ws:List Int}(h:GI cs ai S cn ws):ws.length<=cs.length:=by
 have:=mw (l₂:=(List.range cs.length).map fun(i:Nat)=>(i:Int)) h.nd fun k hk=>by
  obtain⟨a,b⟩:=h.rg k hk
  exact cY.mpr ⟨k.toNat,jv.mpr (by omega),by omega⟩
 simpa using this
theorem GJ.QC{cs:List aB}{S row cn ws:List Int}{c0:Int}{m:Nat}(h:GJ cs S row c0 m cn ws):ws.length<=cs.length:=by
 have:=mw (l₂:=(List.range cs.length).map fun(i:Nat)=>(i:Int)) h.nd fun k hk=>by
  obtain⟨a,b⟩:=h.rg k hk
  exact cY.mpr ⟨k.toNat,jv.mpr (by omega),by omega⟩
 simpa using this
@[reducible] def bu(S:List Int):Ks:=S.map fun x=>(x,PyData.bool true)
theorem kX(S:List Int)(k:Int):gu (bu S) k=decide (k∈S):=by
 rw[iZ,JW,jt,decide_eq_true_eq]
 have:S.map ((·.1)∘fun x=>(x,PyData.bool true))=S:=List.map_id'' (fun _=>rfl) S
 rw[this]
theorem Cc(S:List Int)(k:Int):nW (bu S) k=bu (S.filter fun y=>decide (y≠k)):=by
 unfold nW bu
 rw[List.filter_map]
 rfl
theorem Mi{S:List Int}(nd:S.Nodup):m7 [] (bu S)=bu S:=by
  have key:∀(S:List Int) (acc:List Int),(acc++S).Nodup->m7 (bu acc) (bu S)=bu (acc++S):=by
    intro S
    induction S with
    |nil=>intro acc _;simp[m7,bu]
    | cons x S ih =>
      intro acc nd
      have hx:x∉acc:=fun z=>(lQ.mp nd).2.2 x z x (by simp) rfl
      show m7 (jU (bu acc) x (.bool true)) (bu S)=_
      have e:jU (bu acc) x (.bool true)=bu (acc++[x]):=by
        unfold jU
        rw[kX,if_neg (by simpa using hx)]
        unfold bu
        rw[cj];rfl
      rw[e,ih (acc++[x]) (by rw[dM];exact nd),dM]
      rfl
  have:=key S [] (by simpa using nd)
  simpa using this
theorem fk.uniq{cs:List aB}{ai g g':List Int}(h:fk cs ai g)(h':fk cs ai g'):g=g':=by
 obtain⟨q,e⟩:=h.sub
 obtain⟨q',e'⟩:=h'.sub
 have m1:∀x∈g,x∈ai:=fun x hx=>by rw[e] at hx;exact(cX.mp hx).1
 have m2:∀x∈g',x∈ai:=fun x hx=>by rw[e'] at hx;exact(cX.mp hx).1
 rw[e,e']
 apply List.filter_congr
 intro x hx
 rw[iZ]
 constructor
 ·intro hq
  have:x∈g:=by rw[e];exact cX.mpr ⟨hx,hq⟩
  have:=h'.max g m1 h.out x this
  rw[e'] at this
  exact(cX.mp this).2
 ·intro hq
  have:x∈g':=by rw[e'];exact cX.mpr ⟨hx,hq⟩
  have:=h.max g' m2 h'.out x this
  rw[e] at this
  exact(cX.mp this).2
end L2
set_option maxRecDepth 100000
set_option maxHeartbeats 4000000
namespace L2
open PySem PySem.Spec PyProof.Rows
theorem uW:∀{a b:List Int},a.Pairwise (· < ·)->b.Pairwise (· < ·)->(∀k,k∈a↔k∈b)->a=b
  |[],[],_,_,_=>rfl
  |[],y::b,_,_,h=>absurd ((h y).mpr (dB ..)) (by simp)
  |x::a,[],_,_,h=>absurd ((h x).mp (dB ..)) (by simp)
  | x :: a, y :: b, ha, hb, h => by
    obtain⟨ha1,ha2⟩:=List.pairwise_cons.mp ha
    obtain⟨hb1,hb2⟩:=List.pairwise_cons.mp hb
    have e:x=y:=by
      rcases bQ.mp ((h x).mp (dB ..)) with z|z
      · exact z
      · rcases bQ.mp ((h y).mpr (dB ..)) with w|w
        · exact w.symm
        · have:=hb1 x z;have:=ha1 y w;omega
    subst e
    have:a=b:=uW ha2 hb2 fun k=>by
      constructor
      · intro hk
        rcases bQ.mp ((h k).mp (dN _ hk)) with z|z
        · have:=ha1 k hk;omega
        · exact z
      · intro hk
        rcases bQ.mp ((h k).mpr (dN _ hk)) with z|z
        · have:=hb1 k hk;omega
        · exact z
    rw[this]
theorem Of{a b:List Int}(h:b.Pairwise (· < ·))(hs:a.Pairwise (· <= ·))(hp:a.Perm b):a=b:=by
 have nd:a.Nodup:=hp.nodup_iff.mpr (h.imp fun h=>by omega)
 have hlt:a.Pairwise (· < ·):=(hs.and nd).imp fun⟨h1,h2⟩=>by omega
 exact uW hlt h fun k=>hp.mem_iff
theorem R0{cs:List aB}{ai S:List Int}{prs:aB}{x:Int}(h:∀T:List Int,(∀x∈T,x∈ai)->c8 cs T=true->∀x∈T,x∈S)(hp:prs∈cs)(h1:aU S prs=1)(jA:x∈prs.map (·.1)):
  ∀T:List Int,(∀x∈T,x∈ai)->c8 cs T=true->∀y∈T,y∈S.filter fun y=>decide (y≠x):=fun T hT ho y hy=>by
 refine cX.mpr ⟨h T hT ho y hy,decide_eq_true fun z=>?_⟩
 subst z
 have a1:=E2 (h T hT ho) prs
 have a2:=zo hy jA
 unfold c8 at ho
 rw[fN] at ho
 exact of_decide_eq_true (ho prs hp) (by omega)
theorem J7(cs:List aB):c8 cs []=true:=by
 unfold c8
 rw[fN]
 intro prs _
 refine decide_eq_true fun z=>?_
 have:aU [] prs=0:=by unfold aU;rw[E8.mpr (fun x _=>by simp)];rfl
 omega
theorem fk.mem{cs:List aB}{ai g:List Int}(h:fk cs ai g):∀x∈g,x∈ai:=fun x hx=>by
 obtain⟨q,e⟩:=h.sub
 rw[e] at hx
 exact(cX.mp hx).1
theorem fk.up{cs:List aB}{ai g:List Int}(h:fk cs ai g)(hl:ai.Pairwise (· < ·)):g.Pairwise (· < ·):=by
 obtain⟨q,e⟩:=h.sub
 rw[e]
 exact hl.filter q
theorem fk.ai{cs:List aB}{ai g:List Int}{n:Int}(h:fk cs ai g)(hl:cC n ai):cC n g:=by
 obtain⟨q,e⟩:=h.sub
 rw[e]
 exact hl.filter q
end L2
set_option maxRecDepth 100000
set_option maxHeartbeats 4000000
namespace L2
open PySem PySem.Spec PyProof.Rows
def E1(row:List Int):Int:=match row.getLast? with|none=>0|some l=>l+1
def Ol(n:Int)(row:List Int):List Int:=(List.range (n-E1 row).toNat).map fun(i:Nat)=>E1 row+(i:Int)
def ext(n:Int)(row:List Int):List (List Int):=(Ol n row).map fun p=>row++[p]
@[reducible] def R9:Option (List Int)->PyData
 |none=> .none
 |some r=>bq r
theorem G7{α β:Type}{φ:α->β}{l1 l2:List β}(h:l1.Perm l2):∀xs:List α,l2=xs.map φ->∃ys:List α,l1=ys.map φ/\ys.Perm xs:=by
  induction h with
  |nil=>intro xs e;exact⟨[],rfl,by cases xs<;>first|exact .nil|cases e⟩
  | cons x _ ih =>
    intro xs e
    cases xs with
    |nil=>cases e
    | cons a xs =>
      obtain⟨e1,e2⟩:=pA e
      obtain⟨ys,e3,p⟩:=ih xs e2
      exact⟨a::ys,by rw[e3,e1];rfl,p.cons a⟩
  | swap x y l =>
    intro xs e
    match xs,e with
    | a :: b :: xs, e =>
      obtain⟨e1,e2⟩:=pA e
      obtain⟨e3,e4⟩:=pA e2
      exact⟨b::a::xs,by rw[e1,e3,e4];rfl, .swap a b xs⟩
  | trans _ _ ih1 ih2 =>
    intro xs e
    obtain⟨ys,e1,p1⟩:=ih2 xs e
    obtain⟨zs,e2,p2⟩:=ih1 ys e1
    exact⟨zs,e2,p2.trans p1⟩
end L2
set_option maxRecDepth 100000
set_option maxHeartbeats 4000000
namespace L2
open PySem PySem.Spec PyProof.Rows
section
variable{G:Gx}{ρ:Rh}{Φ:Pd}{t:TA}{te:TE}
theorem Sv.QH{i:Nat}{E:DE}(h:iS G ρ te fun d=>(∃ds,d= .list ds/\∀a,E.nx (ρ.set i (.own a true ds)))\/(ig d=true/\E.nx (ρ.set i (.d true d)))):Sv G ρ (jf te (ek i)) E:=fun nb σ H D W K=>
 h nb σ H _ W fun v H1 d hd st hv=>by
  rcases hd with ⟨ds,rfl,q⟩|⟨hs,q⟩
  ·have h0:=hv
   obtain⟨c,xs,rfl,_⟩:=hv.cG
   exact K.nx _ _ _ _ (q c) (Wd.Pg (i:=i) W st h0)
  ·exact K.nx nb _ _ _ q ((W.step st).jD (i:=i) (f:=true) (hv.jN hs))
end
end L2
set_option maxRecDepth 100000
set_option maxHeartbeats 4000000
set_option maxRecDepth 100000
set_option maxHeartbeats 4000000
set_option maxRecDepth 100000
set_option maxHeartbeats 4000000
namespace L2
open PySem PySem.Spec PyProof.Rows
def gI(r:List Int)(i:Nat):Int:=r.getD i 0
def co(prs:aB)(j:Nat):Int:=(prs.map fun pr=>if pr.1.toNat=j then pr.2 else 0).sum
end L2
set_option maxRecDepth 100000
set_option maxHeartbeats 4000000
set_option maxRecDepth 100000
set_option maxHeartbeats 4000000
set_option maxRecDepth 100000
set_option maxHeartbeats 4000000
set_option maxRecDepth 100000
set_option maxHeartbeats 4000000
namespace L2
open PySem PySem.Spec PyProof.Rows
theorem nV{P:(Addr->Prop)->Prop}{H:Hp}(hP:∀{S S':Addr->Prop},(∀a,S' a->S a)->P S->P S')(hf:∀{S:Addr->Prop} {p:Addr},H p=none->P S->P fun a=>S a\/a=p):∀{L:List Addr} {S:Addr->Prop},(∀a∈L,H a=none)->P S->P fun a=>S a\/a∈L
 |[],S,_,h=>hP (fun a z=>z.elim (fun z=>z) fun z=>by cases z) h
 | p :: L, S, hL, h => hP (fun a z => by
   rcases z with z|z
   ·exact .inl (.inl z)
   ·rcases bQ.mp z with z|z
    ·exact .inr z
    ·exact .inl (.inr z)) (hf (hL p (dB ..)) (nV hP hf (L:=L) (fun a m=>hL a (dN _ m)) h))
section
variable{G:Gx}{ρ:Rh}{nb:Addr->Prop}{σ:St}{H H1:Hp}{i:Nat}{L:List Addr}{c c':Cu}{f:Bool}{d:PyData}{p:Addr}{o:HO}{E:DE}
theorem mF.Nh{x:Option V}{s:Sl}(h:mF G nb H x s):∀a∈s.adr,nb a/\NB G.B a:=by
 cases s with
 |own a f ds=>intro x hx;rw[aC.mp hx];exact⟨h.2.1,h.2.2.1⟩
 |bf a f ds=>intro x hx;rw[aC.mp hx];exact⟨h.2.1,h.2.2.1⟩
 |cu c=>exact h.2.1
 |no=>intro _ z;cases z
 |d _ _=>intro _ z;cases z
 |az=>intro _ z;cases z
 |raw _=>intro _ z;cases z
theorem Wd.Ry(W:Wd G nb ρ σ H)(e:ρ[i]?=some (.cu c))(hp:p∈c.F)(hv:c'.v=c.v)(hF:∀a∈c'.F,a∈c.F)(h:c'.P (G.S nb c'.f) (upd H p o)):Wd G nb (ρ.set i (.cu c')) σ (upd H p o):=by
 obtain⟨x,e1,h1,h2,h3⟩:=W.ok i _ e
 subst h1
 have hil:i<ρ.length:=(aJ.mp e).1
 have W0:Wd G nb (ρ.set i .no) (σ.set i (some c.v)) H:=W.set trivial fun _ _ _ z=>by cases z
 have other:∀(j:Nat) s,(ρ.set i .no)[j]?=some s->s≠ .no->p∉s.adr:=fun j s hs hn=>by
  have hij:i≠j:=fun z=>by subst z;rw[bx hil] at hs;cases hs;exact hn rfl
  rw[aT hij] at hs
  exact W.cR i j c s hij e hs p hp
 have W1:Wd G nb (ρ.set i .no) (σ.set i (some c.v)) (upd H p o):=W0.write (h2 p hp).1 (h2 p hp).2 (fun j a f ds hs z=>other j _ hs (by intro z;cases z) (aC.mpr z.symm)) (fun j a f ds hs z=>other j _ hs (by intro z;cases z) (aC.mpr z.symm)) (fun j c hs=>other j _ hs (by intro z;cases z))
 have W2:=W1.set (i:=i) (s:= .cu c') (x:=some c.v) ⟨by rw[hv],fun a m=>h2 a (hF a m),h⟩ (fun _ _ _ z=>by cases z) (fun _ _ _ z=>by cases z) (fun x hx j t hj ht hc=>by
  rw[aT (br hj)] at ht
  exact W.cR i j c t (br hj) e ht x (hF x hx))
 rw[iN,iN] at W2
 have:σ.set i (some c.v)=σ:=by
  apply jC
  intro j
  by_cases hij:i=j
  ·subst hij;rw[bx (by rw[W.len];exact hil),e1]
  ·rw[aT hij]
 rwa[this] at W2
theorem Wd.Jr(W:Wd G nb ρ σ H)(e:ρ[i]?=some (.cu c))(h:c.P (G.S nb c.f) H->(∀a∈c.F,G.H0 a=none/\¬G.A a/\NB G.B a)->ah (G.S (fun x=>nb x/\x∉c.F) f) H d c.v):Wd G (fun x=>nb x/\x∉c.F) (ρ.set i (.d f d)) σ H:=by
 obtain⟨x,e1,h1,h2,h3⟩:=W.ok i _ e
 subst h1
 have hil:i<ρ.length:=(aJ.mp e).1
 have W0:Wd G nb (ρ.set i .no) (σ.set i (some c.v)) H:=W.set trivial fun _ _ _ z=>by cases z
 have W1:Wd G (fun x=>nb x/\x∉c.F) (ρ.set i .no) (σ.set i (some c.v)) H:=by
  refine⟨W0.az,fun x n=>W0.live x n.1,W0.old,fun x n=>W0.cK x n.1,W0.gA,W0.len,W0.gB,fun h m=>(W0.fO h m).av (bF (fun z=>z) fun _ z=>z.1),fun j s e'=>?_,W0.apart,W0.eH,W0.cR⟩
  obtain⟨x,ja,hh⟩:=W0.ok j s e'
  refine⟨x,ja,?_⟩
  have hij:s≠ .no->i≠j:=fun n z=>by subst z;rw[bx hil] at e';cases e';exact n rfl
  have ap:s≠ .no->∀a∈s.adr,a∉c.F:=fun n a m z=>by
   have hij:=hij n
   rw[aT hij] at e'
   exact W.cR i j c s hij e e' a z m
  cases s with
  |no=>trivial
  |d f d=>obtain⟨v,e,hh⟩:=hh;exact⟨v,e,hh.av (bF (fun z=>z) fun _ z=>z.1)⟩
  |own a f es=>obtain⟨e2,n,q,xs,hx,hd⟩:=hh;exact⟨e2,⟨n,ap (by intro z;cases z) a (aC.mpr rfl)⟩,q,xs,hx,hd.av (bF (fun z=>z) fun _ z=>z.1)⟩
  |az=>exact hh
  |raw v=>exact hh
  |bf a f es=>obtain⟨e2,n,q,xs,hx,hd⟩:=hh;exact⟨e2,⟨n,ap (by intro z;cases z) a (aC.mpr rfl)⟩,q,xs,hx,hd.av (bF (fun z=>z) fun _ z=>z.1)⟩
  |cu c2=>obtain⟨e2,n,q⟩:=hh;exact⟨e2,fun a m=>⟨⟨(n a m).1,ap (by intro z;cases z) a m⟩,(n a m).2⟩,c2.av (bF (fun z=>z) fun _ z=>z.1) q⟩
 have W2:=W1.jD (i:=i) (f:=f) (d:=d) (v:=c.v) (h h3 fun a m=>⟨W.cK a (h2 a m).1 (h2 a m).2,fun z=>W.gA a z (W.cK a (h2 a m).1 (h2 a m).2),(h2 a m).2⟩)
 rw[iN,iN] at W2
 have:σ.set i (some c.v)=σ:=by
  apply jC
  intro j
  by_cases hij:i=j
  ·subst hij;rw[bx (by rw[W.len];exact hil),e1]
  ·rw[aT hij]
 rwa[this] at W2
end
end L2
set_option maxRecDepth 100000
set_option maxHeartbeats 4000000
namespace L2
open PySem PySem.Spec PyProof.Rows
abbrev R7:=Int×Addr×List PyData
end L2
set_option maxRecDepth 100000
set_option maxHeartbeats 4000000
set_option maxRecDepth 100000
set_option maxHeartbeats 4000000
namespace L2
open PySem PySem.Spec PyProof.Rows
@[reducible] def SG(t:Int×Int×Int):PyData:= .tuple [.int t.1, .int t.2.1, .int t.2.2]
end L2
set_option maxRecDepth 100000
set_option maxHeartbeats 4000000
namespace L2
open PySem PySem.Spec PyProof.Rows
def brk(p:Int)(cs:List aB)(ws:List Int):Nat:=cs.countP fun prs=>decide (Rq prs (ws.map some)%p≠0)
end L2
set_option maxRecDepth 100000
set_option maxHeartbeats 4000000
namespace L2
open PySem PySem.Spec PyProof.Rows
theorem EB:SeqAt.shaped (.list [])=true:=by with_unfolding_all rfl
end L2
set_option maxRecDepth 100000
set_option maxHeartbeats 4000000
set_option maxRecDepth 100000
set_option maxHeartbeats 4000000
namespace L2
open PySem PySem.Spec PyProof.Rows
section
variable{G:Gx}{ρ:Rh}{nb:Addr->Prop}{σ:St}{H H':Hp}{i:Nat}{c c':Cu}{E:DE}
theorem Wd.Oq(W:Wd G nb ρ σ H)(e:ρ[i]?=some (.cu c))(hH:∀a o,a∉c.F->H a=some o->H' a=some o)(hv:c'.v=c.v)(hF:∀a∈c'.F,a∈c.F\/H a=none\/(nb a/\NB G.B a/\∀(j:Nat) s,ρ[j]?=some s->a∉s.adr))(hl:∀a,a∈c.F\/a∈c'.F->H' a≠none)
    (h:c'.P (G.S (fun x=>nb x\/x∈c'.F) c'.f) H'):Wd G (fun x=>nb x\/x∈c'.F) (ρ.set i (.cu c')) σ H':=by
  obtain⟨x0,e1,h1,h2,h3⟩:=W.ok i _ e
  subst h1
  have hil:i<ρ.length:=(aJ.mp e).1
  obtain⟨L,hL⟩:∃L,L=c'.F.filter fun a=>(H a).isNone:=⟨_,rfl⟩
  have ha:∀a∈L,H a=none:=fun a m=>by
    rw[hL,cX] at m
    exact Dk.mp m.2
  have QB:∀a∈c'.F,nb a\/a∈L:=fun a m=>by
    rcases hF a m with z|z|z
    · exact .inl (h2 a z).1
    · exact .inr (by rw[hL];exact cX.mpr ⟨m,Dk.mpr z⟩)
    · exact .inl z.1
  have hA:∀f x,G.S (fun x=>nb x\/x∈c'.F) f x->(G.S nb f x\/x∈L):=fun f x z=>by
    rcases z with (z|z)|z|z|z
    · exact .inl (.inl z)
    · exact(QB x z).elim (fun z=> .inl (.inl z)) .inr
    · exact .inl (.inr (.inl z))
    · exact .inl (.inr (.inr (.inl z)))
    · exact .inl (.inr (.inr (.inr z)))
  have bt:∀f,aI (G.S (fun x=>nb x\/x∈c'.F) f) H H':=fun f a o n q=>hH a o (fun z=>n (.inl (.inl (h2 a z).1))) q
  have fD:∀{S:Addr->Prop} {d:PyData} {v:V},ah S H d v->ah (fun a=>S a\/a∈L) H d v:=fun{S d v} h=>nV (P:=fun S=>ah S H d v) (fun z h=>ah.av z h) (fun hp h=>ah.fresh hp h) ha h
  have Ls:∀{S:Addr->Prop} {d:List PyData} {v:List V},af S H d v->af (fun a=>S a\/a∈L) H d v:=fun{S d v} h=>nV (P:=fun S=>af S H d v) (fun z h=>af.av z h) (fun hp h=>af.fresh hp h) ha h
  have Qm:∀{S:Addr->Prop} {d:List (PyData×PyData)} {v:List (Key×V)},au S H d v->au (fun a=>S a\/a∈L) H d v:=fun{S d v} h=>nV (P:=fun S=>au S H d v) (fun z h=>au.av z h) (fun hp h=>au.fresh hp h) ha h
  have fH:∀{S:Addr->Prop} {d:HD} {v:V},gv S H d v->gv (fun a=>S a\/a∈L) H d v:=fun{S d v} h=>nV (P:=fun S=>gv S H d v) (fun z h=>gv.av h z) (fun hp h=>gv.fresh h hp) ha h
  have sF:∀a∈c'.F,NB G.B a:=fun a m=>(hF a m).elim (fun z=>(h2 a z).2) fun z=>z.elim (fun z=>NB.new W.az z) fun z=>z.2.1
  have RO:jd G.B H':=fun b l eb=>by
    obtain⟨ns,i0,c0,st,n,g1,g2,g3⟩:=W.az b l eb
    have hb:b∉c.F:=fun z=>(h2 b z).2 b l eb rfl
    have iH:l∉c.F:=fun z=>by
      obtain⟨_,_,_,_,_,_,q2,_⟩:=W.gB b l eb
      rw[W.cK l (h2 l z).1 (h2 l z).2] at q2;cases q2
    exact⟨ns,i0,c0,st,n,hH _ _ hb g1,hH _ _ iH g2,g3⟩
  have other:∀(j:Nat) s,i≠j->ρ[j]?=some s->∀a∈s.adr,a∉c.F:=fun j s hij hs a m z=>W.cR i j c s hij e hs a z m
  refine⟨RO,fun a n=>?_,fun a o n q=>?_,fun a n q=>?_,W.gA,by rw[fM];exact W.len,W.gB,fun h m=>((fH (W.fO h m)).av (hA h.1)).keep (bt h.1),fun j s e'=>?_,?_,?_,?_⟩
  · rcases n with n|n
    · by_cases z:a∈c.F
      · exact hl a (.inl z)
      · cases q:H a with
        |none=>exact absurd q (W.live a n)
        |some o=>rw[hH a o z q];exact iu _
    · exact hl a (.inr n)
  · refine hH a o (fun z=>?_) (W.old a o n q)
    rw[W.cK a (h2 a z).1 n] at q;cases q
  · rcases n with n|n
    · exact W.cK a n q
    · rcases hF a n with z|z|z
      · exact W.cK a (h2 a z).1 q
      · cases w:G.H0 a with
        |none=>rfl
        |some o=>rw[W.old a o q w] at z;cases z
      · exact W.cK a z.1 q
  · by_cases hij:i=j
    · subst hij
      rw[bx hil] at e'
      cases e'
      exact⟨some c.v,e1,by rw[hv],fun a m=>⟨.inr m,sF a m⟩,h⟩
    · rw[aT hij] at e'
      obtain⟨x,e2,q⟩:=W.ok j s e'
      refine⟨x,e2,?_⟩
      have ap:=other j s hij e'
      cases s with
      |no=>trivial
      |d f d=>obtain⟨v,e,h⟩:=q;exact⟨v,e,((fD h).av (hA f)).keep (bt f)⟩
      |own a f es=>obtain⟨e,n,q,xs,hx,hd⟩:=q;exact⟨e, .inl n,q,xs,hH _ _ (ap a (aC.mpr rfl)) hx,((Ls hd).av (hA f)).keep (bt f)⟩
      |az=>exact q
      |raw v=>exact q
      |bf a f es=>obtain⟨e,n,q,xs,hx,hd⟩:=q;exact⟨e, .inl n,q,xs,hH _ _ (ap a (aC.mpr rfl)) hx,((Qm hd).av (hA f)).keep (bt f)⟩
      | cu c2 =>
        obtain⟨e,n,q⟩:=q
        refine⟨e,fun a ha=>⟨.inl (n a ha).1,(n a ha).2⟩,c2.keep (.of fun x o hx e=>hH x o ?_ e) (c2.av (hA c2.f) (nV (P:=fun S=>c2.P S H) (fun z h=>c2.av z h) (fun hp h=>c2.fresh hp h) ha q))⟩
        rcases hx with hx|hx
        · exact fun z=>hx (.inl (.inl (h2 x z).1))
        · exact ap x hx
  all_goals
    intro j k
  · intro a f as c2 g cs hjk q1 q2
    have hj:i≠j:=fun z=>by subst z;rw[bx hil] at q1;cases q1
    have hk:i≠k:=fun z=>by subst z;rw[bx hil] at q2;cases q2
    rw[aT hj] at q1
    rw[aT hk] at q2
    exact W.apart j k a f as c2 g cs hjk q1 q2
  · intro a f as c2 g cs hjk q1 q2
    have hj:i≠j:=fun z=>by subst z;rw[bx hil] at q1;cases q1
    have hk:i≠k:=fun z=>by subst z;rw[bx hil] at q2;cases q2
    rw[aT hj] at q1
    rw[aT hk] at q2
    exact W.eH j k a f as c2 g cs hjk q1 q2
  · intro c2 s hjk q1 q2 a m z
    have C1:∀(j:Nat) s,i≠j->ρ[j]?=some s->∀a∈s.adr,a∉c'.F:=fun j s hij hs a m z=>by
      rcases hF a z with w|w|w
      · exact other j s hij hs a m w
      · obtain⟨x,_,q⟩:=W.ok j s hs
        exact W.live a (q.Nh a m).1 w
      · exact w.2.2 j s hs m
    by_cases hj:i=j
    · subst hj
      rw[bx hil] at q1
      cases q1
      rw[aT hjk] at q2
      exact C1 k s hjk q2 a z m
    · rw[aT hj] at q1
      by_cases hk:i=k
      · subst hk
        rw[bx hil] at q2
        cases q2
        exact C1 j _ hj q1 a m z
      · rw[aT hk] at q2
        exact W.cR j k c2 s hjk q1 q2 a m z
end
abbrev CF:=Cu->List PyData->(Cu->Pd)->Prop
end L2
set_option maxRecDepth 100000
set_option maxHeartbeats 4000000
namespace L2
open PySem PySem.Spec PyProof.Rows
inductive Fl where
 |d (d:PyData)|cu (c:Cu)
abbrev Fs:=List (Str×Fl)
end L2
set_option maxRecDepth 100000
set_option maxHeartbeats 4000000
set_option maxRecDepth 100000
set_option maxHeartbeats 4000000
set_option maxRecDepth 100000
set_option maxHeartbeats 4000000
namespace L2
open PySem PySem.Spec PyProof.Rows
theorem Dp{cs:List aB}{ai g:List Int}(hu:ai.Pairwise (· < ·))(ho:c8 cs ai=true)(hG:fk cs ai g):g=ai:=
 uW (hG.up hu) hu fun k=>⟨fun h=>hG.mem k h,fun h=>hG.max ai (fun x hx=>hx) ho k h⟩
theorem bM.rel{sx:Scope}{env:Env}{NX:List Str}{scope:Scope}{N:List Str}{mp:List (Option Nat)}(h:bM sx NX scope N mp):bM (relabel sx env) NX scope N mp:=
 ⟨h.kind,h.own,h.names,fun y hy e=>JD (h.free y hy e),h.len,h.look⟩
theorem Fc{X:Cx}{scope:Scope}{C:Addr}{N:List Str}{s₀:Shared}{H₀:Hp}{fp:List Addr}{elt iter tg:Expr}{ifs:List Expr}{qA:Scope}{pos:Pos}{N2:List Str}{mp:List (Option Nat)}{wi:TI}{g:TG}{tc:TT}{te:TE}
  (ok:bM scope N qA N2 mp) (hi:PI (dU X scope C N s₀ H₀ fp) tg iter wi)
  (hb:∀C' s₀' H₀' fp',PG (dU (dU X scope C N s₀ H₀ fp) qA C' N2 s₀' H₀' fp') tg g/\o4 (dU (dU X scope C N s₀ H₀ fp) qA C' N2 s₀' H₀' fp') ifs tc/\PE (dU (dU X scope C N s₀ H₀ fp) qA C' N2 s₀' H₀' fp') elt te) (hc:X.calm=true:=by rfl)
  (hs:∀x,foldedSetIterable iter (dU X scope C N s₀ H₀ fp).env x=pure x:=by intro _;rfl):PE (dU X scope C N s₀ H₀ fp) (.ListComp elt [⟨tg,iter,ifs,0⟩] qA pos) (jm wi g tc te mp):=
 eX (X:=dU X scope C N s₀ H₀ fp) (bM.rel ok) hi hb hc hs
end L2
set_option maxRecDepth 100000
set_option maxHeartbeats 4000000
set_option maxRecDepth 100000
set_option maxHeartbeats 4000000
namespace L2
open PySem PySem.Spec PyProof.Rows
inductive Oi where
 |own (b:Addr)|dat (x:PyData)
inductive OO where
 |lst (xs:List Oi)|tup (xs:List Oi)|bf (ks:List (Int×Oi))
abbrev dg:=List (Addr×OO)
def dW(S:Addr->Prop)(H:Hp):Oi->V->Prop
 | .own b,v=>v= .ref b
 | .dat x,v=>ah S H x v
def fZ(S:Addr->Prop)(H:Hp)(xs:List Oi)(vs:List V):Prop:=vs.length=xs.length/\∀(i:Nat) x v,xs[i]?=some x->vs[i]?=some v->dW S H x v
def IE(ks:List (Int×Oi))(vs:List V):List (Key×V):=List.zipWith (fun k v=>(Sum.inl k.1,v)) ks vs
def mE(S:Addr->Prop)(H:Hp)(a:Addr):OO->Prop
 | .lst xs=>∃vs,H a=some (.lst vs)/\fZ S H xs vs
 | .tup xs=>∃vs,H a=some (.tup vs)/\fZ S H xs vs
 | .bf ks=>∃vs,H a=some (.dK (IE ks vs))/\fZ S H (ks.map (·.2)) vs
def jx(S:Addr->Prop)(H:Hp)(L:dg):Prop:=(L.map (·.1)).Nodup/\∀a o,L.lookup a=some o->mE S H a o
section
variable{S S':Addr->Prop}{H H':Hp}{x:Oi}{v:V}{xs:List Oi}{vs:List V}{a b:Addr}{o:OO}{L:dg}{F:List Addr}{p:Addr}
theorem lz{L:dg}:∀{a:Addr} {o:OO},L.lookup a=some o->a∈L.map (·.1):=by
  induction L with
  |nil=>intro a o h;cases h
  | cons q L ih =>
    intro a o h
    rw[aZ]
    by_cases c:a=q.1
    · rw[c];exact dB ..
    · rw[bw,beq_false_of_ne c] at h
      exact dN _ (ih h)
theorem Og{L:dg}:∀{a:Addr},a∈L.map (·.1)->∃o,L.lookup a=some o:=by
  induction L with
  |nil=>intro a h;cases h
  | cons q L ih =>
    intro a h
    by_cases c:a=q.1
    · exact⟨q.2,by rw[c];simp[List.lookup]⟩
    · rw[bw,beq_false_of_ne c]
      rw[aZ] at h
      exact ih ((bQ.mp h).resolve_left c)
theorem dW.kp(m:Kp S F H H')(h:dW S H x v):dW S H' x v:=by
 cases x with
 |own b=>exact h
 |dat x=>exact ah.kp m h
theorem dW.av(b:∀a,S' a->S a)(h:dW S H x v):dW S' H x v:=by
 cases x with
 |own b=>exact h
 |dat x=>exact ah.av b h
theorem dW.fresh(hp:H p=none)(h:dW S H x v):dW (fun a=>S a\/a=p) H x v:=by
 cases x with
 |own b=>exact h
 |dat x=>exact ah.fresh hp h
theorem dW.keep(m:aI S H H')(h:dW S H x v):dW S H' x v:=by
 cases x with
 |own b=>exact h
 |dat x=>exact ah.keep m h
theorem fZ.imp(h:fZ S H xs vs)(q:∀x v,dW S H x v->dW S' H' x v):fZ S' H' xs vs:=⟨h.1,fun i x v e1 e2=>q x v (h.2 i x v e1 e2)⟩
theorem mE.imp(h:mE S H a o)(q:∀x v,dW S H x v->dW S' H' x v)(e:∀ho,H a=some ho->H' a=some ho):mE S' H' a o:=by
 cases o with
 |lst xs=>obtain⟨vs,h1,h2⟩:=h;exact⟨vs,e _ h1,h2.imp q⟩
 |tup xs=>obtain⟨vs,h1,h2⟩:=h;exact⟨vs,e _ h1,h2.imp q⟩
 |bf ks=>obtain⟨vs,h1,h2⟩:=h;exact⟨vs,e _ h1,h2.imp q⟩
theorem mE.live(h:mE S H a o):H a≠none:=by
 cases o with
 |lst xs=>obtain⟨vs,h1,h2⟩:=h;rw[h1];exact iu _
 |tup xs=>obtain⟨vs,h1,h2⟩:=h;rw[h1];exact iu _
 |bf ks=>obtain⟨vs,h1,h2⟩:=h;rw[h1];exact iu _
theorem jx.live(h:jx S H L):∀a∈L.map (·.1),H a≠none:=fun a m=>by
 obtain⟨o,e⟩:=Og m
 exact(h.2 a o e).live
theorem fZ.at{k:Int}(h:fZ S H xs vs)(e:bh xs k=some x):∃v,bh vs k=some v/\dW S H x v:=by
  unfold bh at e⊢
  rw[h.1]
  cases z:fQ xs.length k with
  |none=>rw[z] at e;cases e
  | some j =>
    rw[z] at e
    have e:xs[j]?=some x:=e
    have hj:=(aJ.mp e).1
    have hv:vs[j]?=some (vs[j]'(by rw[h.1];exact hj)):=aR _
    exact⟨_,hv,h.2 j x _ e hv⟩
theorem fZ.snoc(h:fZ S H xs vs)(q:dW S H x v):fZ S H (xs++[x]) (vs++[v]):=by
 refine⟨by rw[bR,bR,h.1];rfl,fun i y u e1 e2=>?_⟩
 by_cases c:i<xs.length
 ·rw[eZ c] at e1
  rw[eZ (by rw[h.1];exact c)] at e2
  exact h.2 i y u e1 e2
 ·rw[ff (by omega)] at e1
  rw[ff (by rw[h.1];omega),h.1] at e2
  cases hi:i-xs.length with
  |zero=>rw[hi] at e1 e2;simp at e1 e2;subst e1 e2;exact q
  |succ m=>rw[hi] at e1;simp at e1
theorem fZ.nil:fZ S H [] []:=⟨rfl,fun i x v e=>by simp at e⟩
theorem fZ.wG{ds:List PyData}(h:af S H ds vs):fZ S H (ds.map .dat) vs:=by
 refine⟨by rw[ak,h.length],fun i x v e1 e2=>?_⟩
 rw[bY] at e1
 obtain⟨d,hd,rfl⟩:=jX.mp e1
 obtain⟨y,hy,hq⟩:=h.get hd
 rw[hy] at e2;cases e2;exact hq
theorem DU{ds:List PyData}:∀{vs:List V},vs.length=ds.length->(∀(i:Nat) d v,ds[i]?=some d->vs[i]?=some v->ah S H d v)->af S H ds vs:=by
  induction ds with
  |nil=>intro vs h _;rw[kH.mp h];exact .nil
  | cons d ds ih =>
    intro vs h q
    cases vs with
    |nil=>cases h
    |cons v vs=>exact .cons (q 0 d v rfl rfl) (ih (by simpa using h) fun i d' v' e1 e2=>q (i+1) d' v' (by simpa using e1) (by simpa using e2))
end
def eY(L:dg)(b:Addr)(o:OO):dg:=L.map fun q=>if q.1=b then(b,o) else q
theorem zd(L:dg)(b:Addr)(o:OO):(eY L b o).map (·.1)=L.map (·.1):=by
 unfold eY
 rw[jt]
 apply rQ
 intro q _
 show(if q.1=b then(b,o) else q).1=q.1
 split
 ·rename_i h;exact h.symm
 ·rfl
theorem qI{L:dg}{a b:Addr}{o:OO}(h:a≠b):(eY L b o).lookup a=L.lookup a:=by
  induction L with
  |nil=>rfl
  | cons q L ih =>
    show List.lookup a ((if q.1=b then(b,o) else q)::eY L b o)=_
    by_cases c:q.1=b
    · rw[if_pos c,bw,beq_false_of_ne h,ih]
      rw[bw,beq_false_of_ne (by rw[c];exact h)]
    · rw[if_neg c,bw,bw,ih]
theorem sQ{L:dg}{b:Addr}{o:OO}(h:b∈L.map (·.1)):(eY L b o).lookup b=some o:=by
  induction L with
  |nil=>cases h
  | cons q L ih =>
    show List.lookup b ((if q.1=b then(b,o) else q)::eY L b o)=_
    by_cases c:q.1=b
    · rw[if_pos c,bw,beq_self_eq_true]
    · rw[if_neg c,bw,beq_false_of_ne (fun z=>c z.symm)]
      rw[aZ] at h
      exact ih ((bQ.mp h).resolve_left fun z=>c z.symm)
theorem jx.put{S:Addr->Prop}{H:Hp}{L:dg}{b:Addr}{ho:HO}{o:OO}(h:jx S H L)(hb:b∈L.map (·.1))(hS:S b)(hk:mE S (upd H b ho) b o):jx S (upd H b ho) (eY L b o):=by
 refine⟨by rw[zd];exact h.1,fun a o' e=>?_⟩
 by_cases c:a=b
 ·subst c
  rw[sQ hb] at e
  cases e
  exact hk
 ·rw[qI c] at e
  exact(h.2 a o' e).imp (fun x v q=>q.keep (aI.set hS)) fun ho' q=>by rw[aH c];exact q
def stC(v:V)(f:Bool)(L:dg):Cu where
 v:=v
 F:=L.map (·.1)
 f:=f
 P:=fun S H=>jx S H L
 keep:=fun k p=>⟨p.1,fun a o e=>(p.2 a o e).imp (fun x v q=>q.kp k) fun ho q=>k.own _ (lz e) _ q⟩
 av:=fun z p=>⟨p.1,fun a o e=>(p.2 a o e).imp (fun x v q=>q.av z) fun ho q=>q⟩
 fresh:=fun hp p=>⟨p.1,fun a o e=>(p.2 a o e).imp (fun x v q=>q.fresh hp) fun ho q=>q⟩
def jE(G:Gx)(ρ:Rh)(te:TE)(Ψ:Addr->Prop):Prop:=∀nb σ H (Q:VK),Wd G nb ρ σ H->(∀b H',Ψ b->Step G.B H H'->Q (.ref b) H')->te σ H Q
section
variable{G:Gx}{ρ:Rh}{ta tb te:TE}{t:TA}{E:DE}{i j:Nat}{v:V}{f:Bool}{L:dg}{K:PySem.W.Frag}{Φ:Pd}{Ψ:Addr->Prop}{r:Addr}
theorem Wd.qQ{nb:Addr->Prop}{σ:St}{H:Hp}(W:Wd G nb ρ σ H)(e:ρ[i]?=some (.cu (stC v f L))):σ[i]?=some (some v)/\(∀a∈L.map (·.1),nb a/\NB G.B a)/\jx (G.S nb f) H L:=by
 obtain⟨x,e1,h1,h2,h3⟩:=W.ok i _ e
 exact⟨by rw[e1,h1];rfl,h2,h3⟩
theorem jE.root(e:ρ[i]?=some (.cu (stC (.ref r) f L)))(h:Ψ r):jE G ρ (bE i) Ψ:=fun nb σ H Q W z=>⟨.ref r,(W.qQ e).1,z r H h (.refl W.az)⟩
theorem jE.tH(e:ρ[i]?=some (.cu (stC v f L)))(h:jE G ρ ta fun b=>Ev G ρ tb fun _ y=>∃k xs c,y= .int k/\L.lookup b=some (.lst xs)/\bh xs k=some (.own c)/\Ψ c):jE G ρ (bW (cO K) ta tb) Ψ:=fun nb σ H Q W z=>
 h nb σ H _ W fun b H1 q s1=>q nb σ H1 _ (W.step s1) fun g u H2 y ⟨k,xs,c,ey,hb,hc,p⟩ s2 hu=>by
  subst ey
  obtain⟨vs,h1,h2⟩:=(((W.step s1).step s2).qQ e).2.2.2 b _ hb
  obtain⟨v',e1,e2⟩:=h2.at hc
  have e2:v'= .ref c:=e2
  subst e2
  exact⟨b,vs,k, .ref c,rfl,hu.bL,aF.of h1,e1,z c H2 p (s1.trans s2)⟩
theorem jx.mono{nb:Addr->Prop}{H:Hp}{g:Bool}(h:jx (G.S nb f) H L):jx (G.S nb (f && g)) H L:=⟨h.1,fun a o e=>(h.2 a o e).imp (fun x v q=>q.av (bF (fun z=>by rw[cV] at z;exact z.1) fun _ z=>z)) fun _ q=>q⟩
theorem Sv.Iq(e:ρ[i]?=some (.cu (stC v f L)))(h:jE G ρ ta fun b=>∃xs,L.lookup b=some (.lst xs)/\xs.length<10000/\Ev G ρ te fun g d=>E.nx (ρ.set i (.cu (stC v (f && g) (eY L b (.lst (xs++[.dat d]))))))):
  Sv G ρ (jV (jc K "list" pS ta (aK te aQ))) E:=fun nb σ H D W KK=>
 h nb σ H _ W fun b H1 ⟨xs,hb,hl,q⟩ s1=>by
  have W1:=W.step s1
  obtain⟨vs,h1,h2⟩:=(W1.qQ e).2.2.2 b _ hb
  refine⟨.inl ⟨rfl,_,aF.of h1⟩,?_⟩
  refine q nb σ H1 _ W1 fun g u H2 d p s2 hu=>?_
  have W2:=W1.step s2
  obtain⟨_,hF,hk⟩:=W2.qQ e
  obtain⟨vs,h1,h2⟩:=hk.2 b _ hb
  have hbm:=lz hb
  refine⟨b,vs,u,rfl,rfl,h1,cT (by rw[h2.1];exact hl) (by decide),KK.nx nb _ _ _ p (W2.Ry e hbm rfl (fun a ha=>by
   have ha:a∈(eY L b (.lst (xs++[.dat d]))).map (·.1):=ha
   rw[zd] at ha;exact ha) ?_)⟩
  have hS:G.S nb (f && g) b:= .inl (hF b hbm).1
  refine hk.mono.put hbm hS ⟨_,aS,?_⟩
  refine fZ.snoc ((h2.imp fun x v q=>(q.av (bF (fun z=>by rw[cV] at z;exact z.1) fun _ z=>z)).keep (aI.set hS))) ?_
  exact(hu.av (bF (fun z=>by rw[cV] at z;exact z.2) fun _ z=>z)).keep (aI.set hS)
theorem Sv.EO(e:ρ[i]?=some (.cu (stC v f L)))(h:jE G ρ ta fun b=>∃xs,L.lookup b=some (.lst xs)/\xs.length<10000/\∀c,c∉L.map (·.1)->E.nx (ρ.set i (.cu (stC v f ((c, .lst [])::eY L b (.lst (xs++[.own c]))))))):
  Sv G ρ (jV (jc K "list" pS ta (aK (l8 aQ) aQ))) E:=fun nb σ H D W KK=>
 h nb σ H _ W fun b H1 ⟨xs,hb,hl,q⟩ s1=>by
  have W1:=W.step s1
  obtain⟨_,hF,hk⟩:=W1.qQ e
  obtain⟨vs,h1,h2⟩:=hk.2 b _ hb
  have hbm:=lz hb
  refine⟨.inl ⟨rfl,_,aF.of h1⟩,eg _,fun c hc=>?_⟩
  have hcb:b≠c:=fun z=>by rw[<-z,h1] at hc;cases hc
  have CH:c∉L.map (·.1):=fun z=>hk.live c z hc
  refine⟨b,vs, .ref c,rfl,rfl,by rw[aH hcb];exact h1,cT (by rw[h2.1];exact hl) (by decide),?_⟩
  have hkeys:((c,OO.lst [])::eY L b (.lst (xs++[.own c]))).map (·.1)=c::L.map (·.1):=by rw[aZ,zd]
  have W2:=W1.Oq (c':=stC v f ((c, .lst [])::eY L b (.lst (xs++[.own c])))) (H':=upd (upd H1 c (.lst [])) b (.lst (vs++[.ref c]))) e (fun a o ha ho=>?_) rfl (fun a ha=>?_) (fun a ha=>?_) ?_
  ·exact KK.nx _ _ _ _ (q c CH) W2
  ·have hab:a≠b:=fun z=>ha (z▸hbm)
   have hac:a≠c:=fun z=>by rw[z,hc] at ho;cases ho
   rw[aH hab,aH hac];exact ho
  ·have ha:a∈((c,OO.lst [])::eY L b (.lst (xs++[.own c]))).map (·.1):=ha
   rw[hkeys] at ha
   rcases bQ.mp ha with z|z
   ·exact .inr (.inl (z▸hc))
   ·exact .inl z
  ·by_cases hab:a=b
   ·rw[hab,aS];exact iu _
   rw[aH hab]
   by_cases hac:a=c
   ·rw[hac,aS];exact iu _
   rw[aH hac]
   rcases ha with z|z
   ·exact hk.live a z
   ·have z:a∈((c,OO.lst [])::eY L b (.lst (xs++[.own c]))).map (·.1):=z
    rw[hkeys] at z
    exact hk.live a ((bQ.mp z).resolve_left hac)
  ·have bt:∀{x:Oi} {u:V},dW (G.S nb f) H1 x u->dW (G.S (fun x=>nb x\/x∈(stC v f ((c, .lst [])::eY L b (.lst (xs++[.own c])))).F) f) (upd (upd H1 c (.lst [])) b (.lst (vs++[.ref c]))) x u:=fun{x u} q=>by
    refine dW.keep (fun a o n ho=>?_) ((q.fresh hc).av fun a z=>?_)
    ·have hab:a≠b:=fun z=>n (.inl (.inl (z▸(hF b hbm).1)))
     have hac:a≠c:=fun z=>by rw[z,hc] at ho;cases ho
     rw[aH hab,aH hac];exact ho
    ·rcases z with (z|z)|z|z|z
     ·exact .inl (.inl z)
     ·have z:a∈((c,OO.lst [])::eY L b (.lst (xs++[.own c]))).map (·.1):=z
      rw[hkeys] at z
      rcases bQ.mp z with z|z
      ·exact .inr z
      ·exact .inl (.inl (hF a z).1)
     ·exact .inl (.inr (.inl z))
     ·exact .inl (.inr (.inr (.inl z)))
     ·exact .inl (.inr (.inr (.inr z)))
   refine⟨by rw[hkeys];exact kQ.mpr ⟨CH,hk.1⟩,fun a o eo=>?_⟩
   by_cases hac:a=c
   ·subst hac
    rw[bw,beq_self_eq_true] at eo
    cases eo
    exact⟨[],by rw[aH (fun z=>hcb z.symm),aS], .nil⟩
   ·rw[bw,beq_false_of_ne hac] at eo
    by_cases hab:a=b
    ·subst hab
     rw[sQ hbm] at eo
     cases eo
     exact⟨_,aS,fZ.snoc (h2.imp fun x u q=>bt q) rfl⟩
    ·rw[qI hab] at eo
     exact(hk.2 a o eo).imp (fun x u q=>bt q) fun ho q=>by rw[aH hab,aH hac];exact q
theorem Sv.Lr{s:TS}{a:Addr}{ds:List PyData}(i:Nat)(e:ρ[i]?=some (.own a f ds))(h:Sv G (ρ.set i (.cu (stC (.ref a) f [(a, .lst (ds.map .dat))]))) s E):Sv G ρ s E:=fun nb σ H D W K=>by
  obtain⟨x,e1,h1,h2,h3,xs,hx,hd⟩:=W.ok i _ e
  subst h1
  have hil:i<ρ.length:=(aJ.mp e).1
  have hw:Wd G nb (ρ.set i (.cu (stC (.ref a) f [(a, .lst (ds.map .dat))]))) (σ.set i (some (.ref a))) H:=by
    refine W.set ⟨rfl,fun b hb=>?_,⟨by simp,fun b o eo=>?_⟩⟩ (fun _ _ _ z=>by cases z) (fun _ _ _ z=>by cases z) (fun b hb j t hj ht hc z=>?_)
    · have hb:b∈[a]:=hb
      rw[aC.mp hb];exact⟨h2,h3⟩
    · by_cases c:b=a
      · subst c
        rw[bw,beq_self_eq_true] at eo
        cases eo
        exact⟨xs,hx, .wG hd⟩
      · rw[bw,beq_false_of_ne c] at eo;cases eo
    · have hb:b∈[a]:=hb
      rw[aC.mp hb] at z
      rcases hc with ⟨c,hc⟩|⟨c,hc⟩
      · cases t with
        |own a' f' ds'=>exact W.apart i j a f ds a' f' ds' (br hj) e ht (aC.mp z)
        | bf a' f' ds' =>
          obtain⟨x',ja,ET,h2',h3',ps',fF,_⟩:=W.ok j _ ht
          rw[<-aC.mp z,hx] at fF;cases fF
        |cu c2=>exact W.cR j i c2 _ hj ht e a z (aC.mpr rfl)
        |no=>cases z
        |d _ _=>cases z
        |az=>cases z
        |raw _=>cases z
      · subst hc
        exact W.cR j i c _ hj ht e a z (aC.mpr rfl)
  have:σ.set i (some (.ref a))=σ:=by
    apply jC
    intro j
    by_cases hij:i=j
    · subst hij;rw[bx (by rw[W.len];exact hil),e1]
    · rw[aT hij]
  rw[this] at hw
  exact h nb σ H D hw K
end
end L2
set_option maxRecDepth 100000
set_option maxHeartbeats 4000000
namespace L2
open PySem PySem.Spec PyProof.Rows
inductive iR(L:dg):Oi->PyData->Prop
 |dat (x:PyData):iR L (.dat x) x
 |lst {b:Addr} {xs:List Oi} {ds:List PyData} (e:L.lookup b=some (.lst xs)) (h:ds.length=xs.length) (q:∀(i:Nat) x d,xs[i]?=some x->ds[i]?=some d->iR L x d):iR L (.own b) (.list ds)
 |tup {b:Addr} {xs:List Oi} {ds:List PyData} (e:L.lookup b=some (.tup xs)) (h:ds.length=xs.length) (q:∀(i:Nat) x d,xs[i]?=some x->ds[i]?=some d->iR L x d):iR L (.own b) (.tuple ds)
theorem iR.vo{S S':Addr->Prop}{H:Hp}{L:dg}(h:jx S H L)(hS:∀a,S' a->S a)(hn:∀a∈L.map (·.1),¬S' a){x:Oi}{d:PyData}(q:iR L x d):∀{v:V},dW S H x v->ah S' H d v:=by
  induction q with
  |dat x=>intro v hv;exact ah.av hS hv
  | lst e hl _ ih =>
    intro v hv
    have hv:v=_:=hv
    subst hv
    obtain⟨vs,h1,h2⟩:=h.2 _ _ e
    refine .lst (hn _ (lz e)) h1 (DU (by rw[h2.1,hl]) fun i d v e1 e2=>?_)
    have hi:=(aJ.mp e1).1
    have hx:=aR (l:=_) (i:=i) (by rw[<-hl];exact hi)
    exact ih i _ d hx e1 (h2.2 i _ v hx e2)
  | tup e hl _ ih =>
    intro v hv
    have hv:v=_:=hv
    subst hv
    obtain⟨vs,h1,h2⟩:=h.2 _ _ e
    refine .tup (hn _ (lz e)) h1 (DU (by rw[h2.1,hl]) fun i d v e1 e2=>?_)
    have hi:=(aJ.mp e1).1
    have hx:=aR (l:=_) (i:=i) (by rw[<-hl];exact hi)
    exact ih i _ d hx e1 (h2.2 i _ v hx e2)
theorem iR.wG{L:dg}{b:Addr}{ds:List PyData}(e:L.lookup b=some (.lst (ds.map .dat))):iR L (.own b) (.list ds):=by
 refine .lst e (by rw[ak]) fun i x d e1 e2=>?_
 rw[bY,e2] at e1
 cases e1
 exact .dat d
section
variable{G:Gx}{ρ:Rh}{ta tb te:TE}{t:TA}{E:DE}{i j:Nat}{f:Bool}{L:dg}{K:PySem.W.Frag}{Φ:Pd}{r:Addr}{d:PyData}
theorem Wd.L3{nb:Addr->Prop}{σ:St}{H:Hp}(W:Wd G nb ρ σ H)(e:ρ[i]?=some (.cu (stC (.ref r) f L)))(hd:iR L (.own r) d):Wd G (fun x=>nb x/\x∉L.map (·.1)) (ρ.set i (.d f d)) σ H:=
 W.Jr e fun p hn=>hd.vo p (bF (fun z=>z) fun _ z=>z.1) (fun a m z=>by
  obtain⟨q1,q2,q3⟩:=hn a m
  rcases z with z|z|z|z
  ·exact z.2 m
  ·exact q2 z
  ·exact z q3
  ·exact z.2 q1) rfl
theorem Sv.Q4{s:TS}(i:Nat)(e:ρ[i]?=some (.cu (stC (.ref r) f L)))(hd:iR L (.own r) d)(h:Sv G (ρ.set i (.d f d)) s E):Sv G ρ s E:=fun nb σ H D W K=>h _ σ H D (W.L3 e hd) K
end
end L2
set_option maxRecDepth 100000
set_option maxHeartbeats 4000000
set_option maxRecDepth 100000
set_option maxHeartbeats 4000000
set_option maxRecDepth 100000
set_option maxHeartbeats 4000000
set_option maxRecDepth 100000
set_option maxHeartbeats 4000000
namespace L2
open PySem PySem.Spec PyProof.Rows
theorem yh(T:List Int)(prs:aB):aU T prs=((prs.map (·.1)).filter fun x=>decide (x∈T)).length:=by
 unfold aU
 rw[List.filter_map,ak]
 rfl
theorem Bq{T:List Int}{prs:aB}{a b:Int}(h:(prs.map (·.1)).Perm [a,b]):aU T prs≠1↔(a∈T↔b∈T):=by
 rw[yh,(h.filter _).length_eq]
 by_cases ha:a∈T<;>by_cases hb:b∈T<;>simp[ha,hb]
structure g9(row:List Int)(k:Nat)(P:List (List Int))(C:List aB):Prop where
 fl:P.flatten=row.take k
 cl:C.length+P.length<=k
 ck:∀prs∈C,∃a b,(prs.map (·.1)).Perm [a,b]/\∃pc∈P,a∈pc/\b∈pc
 cn:∀T:List Int,c8 C T=true->∀pc∈P,∀x∈pc,∀y∈pc,x∈T->y∈T
 la:∀P0 pc,P=P0++[pc]->∃y,row[k-1]?=some y/\y∈pc
theorem g9.nil(row:List Int):g9 row 0 [] []:=⟨rfl,aA _,(fun _ h=>nomatch h),(fun _ _ _ h=>nomatch h),fun P0 pc e=>by simp at e⟩
theorem g9.new{row:List Int}{k:Nat}{P:List (List Int)}{C:List aB}{x:Int}(h:g9 row k P C)(hk:row[k]?=some x):g9 row (k+1) (P++[[x]]) C:=by
 refine⟨?_,?_,fun prs hp=>?_,fun T hT pc gx y hy z hz lE=>?_,fun P0 pc e=>?_⟩
 ·rw[qa,h.fl,take_snoc hk];rfl
 ·rw[bR];have:=h.cl;show _+(_+1)<=_;omega
 ·obtain⟨a,b,h1,pc,h2,h3⟩:=h.ck prs hp
  exact⟨a,b,h1,pc,gj _ h2,h3⟩
 ·rcases cE.mp gx with c|c
  ·exact h.cn T hT pc c y hy z hz lE
  ·rw[aC.mp c] at hy hz
   rw[aC.mp hz,<-aC.mp hy];exact lE
 ·have e2:=(List.append_inj' e rfl).2
  injection e2 with e2
  exact⟨x,hk,by rw[<-e2];exact aC.mpr rfl⟩
theorem g9.app{row:List Int}{k:Nat}{P0:List (List Int)}{pc:List Int}{C:List aB}{x y:Int}{prs:aB}(h:g9 row k (P0++[pc]) C)(hk:row[k]?=some x)(hy:row[k-1]?=some y)(hp:(prs.map (·.1)).Perm [y,x]):g9 row (k+1) (P0++[pc++[x]]) (C++[prs]):=by
 obtain⟨y',e,hyp⟩:=h.la P0 pc rfl
 rw[hy] at e
 cases e
 refine⟨?_,?_,fun q hq=>?_,fun T hT qc LF u hu v hv vd=>?_,fun Q0 qc e=>?_⟩
 ·rw[take_snoc hk,<-h.fl];simp
 ·have:=h.cl
  rw[bR] at this⊢
  rw[bR] at⊢
  show _+1+(_+1)<=_
  have e:[pc].length=1:=rfl
  omega
 ·rcases cE.mp hq with c|c
  ·obtain⟨a,b,h1,qc,h2,h3,h4⟩:=h.ck q c
   refine⟨a,b,h1,?_⟩
   rcases cE.mp h2 with d|d
   ·exact⟨qc,gj _ d,h3,h4⟩
   ·rw[aC.mp d] at h3 h4
    exact⟨_,dY _ (aC.mpr rfl),gj _ h3,gj _ h4⟩
  ·rw[aC.mp c]
   exact⟨y,x,hp,_,dY _ (aC.mpr rfl),gj _ hyp,dY _ (aC.mpr rfl)⟩
 ·unfold c8 at hT
  rw[List.all_append,cV] at hT
  have hxy:y∈T↔x∈T:=(Bq hp).mp (of_decide_eq_true (fN.mp hT.2 prs (aC.mpr rfl)))
  have hcn:=h.cn T hT.1
  rcases cE.mp LF with c|c
  ·exact hcn qc (gj _ c) u hu v hv vd
  ·rw[aC.mp c] at hu hv
   have iA:pc∈P0++[pc]:=dY _ (aC.mpr rfl)
   have lE:y∈T:=by
    rcases cE.mp hu with d|d
    ·exact hcn pc iA u d y hyp vd
    ·rw[aC.mp d] at vd;exact hxy.mpr vd
   rcases cE.mp hv with d|d
   ·exact hcn pc iA y hyp v d lE
   ·rw[aC.mp d];exact hxy.mp lE
 ·have e2:=(List.append_inj' e rfl).2
  injection e2 with e2
  exact⟨x,hk,by rw[<-e2];exact dY _ (aC.mpr rfl)⟩
theorem HY{P:List (List Int)}(h:P.flatten.Nodup){a b:List Int}{x:Int}(ha:a∈P)(hb:b∈P)(xa:x∈a)(xb:x∈b):a=b:=by
 have h2:=(zJ.mp h).2
 obtain⟨i,hi⟩:=g6 ha
 obtain⟨j,hj⟩:=g6 hb
 obtain⟨hi1,rfl⟩:=aJ.mp hi
 obtain⟨hj1,rfl⟩:=aJ.mp hj
 rcases uV i j with c|c|c
 ·exact absurd rfl (rj.mp h2 i j hi1 hj1 c x xa x xb)
 ·subst c;rfl
 ·exact absurd rfl (rj.mp h2 j i hj1 hi1 c x xb x xa)
def iF(S G pc:List Int):Bool:=pc.all fun y=>!(decide (y∈S)||decide (y∈G))
theorem g9.great{row:List Int}{P:List (List Int)}{C C2 cs:List aB}{S G ai g:List Int}(h:g9 row row.length P C)(hnd:row.Nodup)
  (h2:∀prs∈C2,∃z∈S,prs.map (·.1)=[z]) (h3:∀z∈S,∃prs∈C2,prs.map (·.1)=[z]) (hcs:cs.Perm (C++C2))
  (jq:ai.Pairwise (· < ·)) (fT:∀x,x∈ai↔x∈row/\x∉G) (hg:g.Pairwise (· < ·)) (Mn:∀x,x∈g↔x∈(P.filter (iF S G)).flatten):fk cs ai g:=by
 have hfl:P.flatten=row:=by rw[h.fl,eV]
 have hP:P.flatten.Nodup:=by rw[hfl];exact hnd
 have hgood:∀{pc:List Int},iF S G pc=true↔∀y∈pc,y∉S/\y∉G:=fun{pc}=>by
  unfold iF
  rw[fN]
  constructor
  ·intro z y hy;have:=z y hy;simpa using this
  ·intro z y hy;have:=z y hy;simpa using this
 have qm:∀x,x∈g↔∃pc∈P,x∈pc/\∀y∈pc,y∉S/\y∉G:=fun x=>by
  rw[Mn x,ur]
  constructor
  ·rintro⟨pc,gx,hx⟩
   obtain⟨a,b⟩:=cX.mp gx
   exact⟨pc,a,hx,hgood.mp b⟩
  ·rintro⟨pc,a,hx,b⟩
   exact⟨pc,cX.mpr ⟨a,hgood.mpr b⟩,hx⟩
 have Ik:∀x pc,pc∈P->x∈pc->x∈row:=fun x pc a b=>by rw[<-hfl];exact ur.mpr ⟨pc,a,b⟩
 have Bd:∀x∈g,x∈ai:=fun x hx=>by
  obtain⟨pc,a,b,c⟩:=(qm x).mp hx
  exact(fT x).mpr ⟨Ik x pc a b,(c x b).2⟩
 refine⟨⟨fun x=>decide (x∈g),uW hg (jq.filter _) fun x=>?_⟩,?_,fun T hT ho x hx=>?_⟩
 ·rw[cX,decide_eq_true_eq]
  exact⟨fun z=>⟨Bd x z,z⟩,fun z=>z.2⟩
 ·unfold c8
  rw[fN]
  intro prs bG
  rw[decide_eq_true_eq]
  rcases cE.mp (hcs.mem_iff.mp bG) with c|c
  ·obtain⟨a,b,hp,pc,h4,h5,h6⟩:=h.ck prs c
   rw[Bq hp]
   have key:∀u v:Int,u∈pc->v∈pc->u∈g->v∈g:=fun u v hu hv MB=>by
    obtain⟨qc,q1,q2,q3⟩:=(qm u).mp MB
    cases HY hP q1 h4 q2 hu
    exact(qm v).mpr ⟨_,h4,hv,q3⟩
   exact⟨key a b h5 h6,key b a h6 h5⟩
  ·obtain⟨z,hz,e⟩:=h2 prs c
   rw[yh,e]
   have:z∉g:=fun zg=>by
    obtain⟨qc,q1,q2,q3⟩:=(qm z).mp zg
    exact(q3 z q2).1 hz
   simp[this]
 ·have hall:∀prs∈cs,aU T prs≠1:=fun prs bG=>by
   unfold c8 at ho
   exact of_decide_eq_true (fN.mp ho prs bG)
  have hC:c8 C T=true:=by
   unfold c8
   rw[fN]
   exact fun prs bG=>decide_eq_true (hall prs (hcs.mem_iff.mpr (gj _ bG)))
  have G6:=((fT x).mp (hT x hx)).1
  rw[<-hfl] at G6
  obtain⟨pc,h4,h5⟩:=ur.mp G6
  refine(qm x).mpr ⟨pc,h4,h5,fun y hy=>?_⟩
  have lE:=h.cn T hC pc h4 x h5 y hy hx
  refine⟨fun KJ=>?_,((fT y).mp (hT y lE)).2⟩
  obtain⟨prs,p1,p2⟩:=h3 y KJ
  refine hall prs (hcs.mem_iff.mpr (dY _ p1)) ?_
  rw[yh,p2]
  simp[lE]
structure gm(A:Addr)(L:dg)(bs:List Addr)(P:List (List Int)):Prop where
 rt:L.lookup A=some (.lst (bs.map .own))
 ln:bs.length=P.length
 at_:∀(i:Nat) b pc,bs[i]?=some b->P[i]?=some pc->L.lookup b=some (.lst ((pc.map PyData.int).map .dat))
 nd:bs.Nodup
 no:A∉bs
theorem Bp{L:dg}{a c:Addr}{o:OO}(h:a≠c):List.lookup a ((c,o)::L)=L.lookup a:=by
 have:(a==c)=false:=beq_eq_false_iff_ne.mpr h
 simp[List.lookup,this]
theorem EM{L:dg}{c:Addr}{o:OO}:List.lookup c ((c,o)::L)=some o:=by simp[List.lookup]
theorem gm.nil(A:Addr):gm A [(A, .lst [])] [] []:=⟨EM,rfl,(fun i b pc e=>by cases e),sC,(fun h=>nomatch h)⟩
theorem gm.key{A:Addr}{L:dg}{bs:List Addr}{P:List (List Int)}(h:gm A L bs P){b:Addr}(hb:b∈bs):b∈L.map (·.1):=by
 obtain⟨i,hi⟩:=g6 hb
 have h1:=(aJ.mp hi).1
 exact lz (h.at_ i b _ hi (aR (by rw[<-h.ln];exact h1)))
theorem gm.new{A c:Addr}{L:dg}{bs:List Addr}{P:List (List Int)}(h:gm A L bs P)(hc:c∉L.map (·.1)):gm A ((c, .lst [])::eY L A (.lst (bs.map .own++[.own c]))) (bs++[c]) (P++[[]]):=by
 have hA:=lz h.rt
 have GD:A≠c:=fun e=>hc (e▸hA)
 have hcb:c∉bs:=fun z=>hc (h.key z)
 refine⟨?_,by rw[bR,bR,h.ln];rfl,fun i b pc e1 e2=>?_,?_,?_⟩
 ·rw[Bp GD,sQ hA,cj];rfl
 ·by_cases c1:i<bs.length
  ·rw[eZ c1] at e1
   rw[eZ (by rw[<-h.ln];exact c1)] at e2
   have hb:=bZ e1
   rw[Bp (fun e:b=c=>hcb (by rw[<-e];exact hb)),qI (fun e:b=A=>h.no (by rw[<-e];exact hb))]
   exact h.at_ i b pc e1 e2
  ·rw[ff (by omega)] at e1
   rw[ff (by rw[<-h.ln];omega)] at e2
   have hi:=(aJ.mp e1).1
   have hi0:i-bs.length=0:=by have:[c].length=1:=rfl;omega
   rw[hi0] at e1
   rw[<-h.ln,hi0] at e2
   cases e1;cases e2
   rw[EM];rfl
 ·exact lQ.mpr ⟨h.nd,kQ.mpr ⟨(fun z=>nomatch z),sC⟩,fun a ha b hb e=>hcb (by rw[aC.mp hb] at e;exact e▸ha)⟩
 ·intro z
  rcases cE.mp z with z|z
  ·exact h.no z
  ·exact GD (aC.mp z)
theorem gm.last{A:Addr}{L:dg}{bs:List Addr}{P0:List (List Int)}{pc:List Int}(h:gm A L bs (P0++[pc])):∃b,bh (bs.map Oi.own) (-1)=some (.own b)/\L.lookup b=some (.lst ((pc.map PyData.int).map .dat))/\∀x:Int,gm A (eY L b (.lst ((pc.map PyData.int).map .dat++[.dat (.int x)]))) bs (P0++[pc++[x]]):=by
 have hl:=h.ln
 rw[bR] at hl
 have hl:bs.length=P0.length+1:=hl
 have e1:bs[P0.length]?=some bs[P0.length]:=aR (by omega)
 have hb:=bZ e1
 have e3:=h.at_ P0.length _ pc e1 (by rw[ff (aA _),nI];rfl)
 refine⟨bs[P0.length],JI Oi.own (by rw[show bs.length-1=P0.length by omega];exact e1),e3,fun x=>?_⟩
 have Oe:A≠bs[P0.length]:=fun e=>h.no (e▸hb)
 refine⟨by rw[qI Oe];exact h.rt,by rw[bR];exact hl,fun i b qc f1 f2=>?_,h.nd,h.no⟩
 by_cases c:b=bs[P0.length]
 ·have hi:i=P0.length:=by
   have hi1:=(aJ.mp f1)
   obtain⟨hi2,PF⟩:=hi1
   rcases uV i P0.length with z|z|z
   ·exact absurd (PF.trans c) (rj.mp h.nd i P0.length hi2 (by omega) z)
   ·exact z
   ·omega
  subst hi
  rw[ff (aA _),nI] at f2
  cases f2
  rw[c,sQ (lz e3),cj,cj];rfl
 ·rw[qI c]
  have hi1:=(aJ.mp f1)
  have hi:i<P0.length:=by
   have:=hi1.1
   rcases wW i P0.length with z|z
   ·exact z
   ·exfalso
    have:i=P0.length:=by omega
    subst this
    rw[e1] at f1
    cases f1
    exact c rfl
  rw[eZ hi] at f2
  exact h.at_ i b qc f1 (by rw[eZ hi];exact f2)
theorem gm.Om{A:Addr}{L:dg}{bs:List Addr}{P:List (List Int)}(h:gm A L bs P):iR L (.own A) (.list (P.map bq)):=by
 refine .lst h.rt (by rw[ak,ak,h.ln]) fun i x d e1 e2=>?_
 rw[bY] at e1 e2
 obtain⟨b,hb,rfl⟩:=jX.mp e1
 obtain⟨pc,gx,rfl⟩:=jX.mp e2
 exact .wG (h.at_ i b pc hb gx)
theorem An(q:List Int->Bool):∀P:List (List Int),(P.filter q).flatten.length<=P.flatten.length
  |[]=>aA _
  | a :: P => by
    have:=An q P
    rw[i7,List.flatten_cons,bR]
    split
    · rw[List.flatten_cons,bR];omega
    · omega
theorem EL{P:List (List Int)}(i:Nat):(P.take i).flatten.length<=P.flatten.length:=by
 have:P.flatten.length=(P.take i).flatten.length+(P.drop i).flatten.length:=by
  rw[<-bR,<-qa,iW]
 omega
theorem Px{P:List (List Int)}(q:List Int->Bool)(h:P.flatten.Nodup):(P.filter q).flatten.Nodup:=by
 have h:=zJ.mp h
 exact zJ.mpr ⟨fun l hl=>h.1 l (cX.mp hl).1,h.2.filter _⟩
theorem EI{S G pc:List Int}:(pc.filter fun y=>decide (y∈S)||decide (y∈G))=[]↔iF S G pc=true:=by
 unfold iF
 rw[E8,fN]
 constructor
 ·intro h y hy;have:=h y hy;simpa using this
 ·intro h y hy;have:=h y hy;simpa using this
end L2
set_option maxRecDepth 100000
set_option maxHeartbeats 8000000
namespace K32
open PySem L2
def top(i:Nat):Stmt:=PySem.Challenge.pw_fewchecks_k32_greatest_lots.main.body.getD i (.Pass ⟨0,0,0,0⟩)
abbrev tw:Stmt:=top 1
abbrev mX:Stmt:=top 3
abbrev sE:Stmt:=top 4
abbrev rV:Stmt:=top 6
abbrev wC:Stmt:=top 7
abbrev uz:Stmt:=top 8
abbrev Aj:Stmt:=top 9
abbrev zv:Stmt:=top 10
abbrev sf:Stmt:=top 11
abbrev uK:Stmt:=top 12
abbrev zC:Stmt:=top 13
abbrev t7:Stmt:=top 14
abbrev ua:Stmt:=top 15
abbrev pX:Stmt:=top 16
abbrev sD:Stmt:=top 17
abbrev vc:Stmt:=top 18
abbrev u0:Stmt:=top 19
abbrev ud:Stmt:=top 20
abbrev xw:Stmt:=top 21
abbrev kY:Stmt:=top 22
abbrev jh:Stmt:=top 23
local macro_rules| `(tactic|walk_at "d0")=> `(tactic|first|omega|assumption|decide|(unfold Sm at*;omega)|(unfold u6;omega)|(unfold AX;decide)|(unfold AX;omega))
local macro_rules| `(tactic|walk_at "ds")=> `(tactic|((try dsimp only);first|walk_at "d0" |(refine And.intro ?_ ?_<;>walk_at "d0")|(refine Or.inl ?_;walk_at "d0")|(refine Or.inr (And.intro ?_ ?_)<;>walk_at "d0")))
local macro_rules| `(tactic|walk_at "s1")=> `(tactic|with_reducible first
 |refine R.seq ?_|refine R.asg ?_|refine R.kK ?_|refine R.ret ?_|refine R.next ?_|refine R.c ?_|refine R.op ?_|refine R.test ?_|refine R.bl ?_|refine R.tru ?_
 |refine R.and ?_|refine R.notV ?_|refine R.M3 ?_|refine R.cb ?_|refine R.call ?_|refine R.nil ?_|refine R.yP ?_|refine R.cons ?_
 |refine R.lst ?_|refine R.sl ?_|refine R.Mj ?_|refine R.part ?_|refine R.bm0 ?_|refine R.bm ?_|refine R.tyInt ?_|refine R.Em ?_|refine R.Km ?_|refine R.gcons ?_|refine R.gnil ?_|refine R.nO ?_
 |refine R.gE ?_|refine R.Ro ?_|refine R.neI ?_|refine R.eqNI ?_|refine R.eqIN ?_|refine R.isI ?_|refine R.notI ?_|refine R.notN ?_|refine R.intB ?_|refine R.bits ?_
 |refine tu ?_|refine Gp ?_|refine R.nilE ?_|refine R.isiII ?_|refine R.isiIB ?_|refine R.rng1 ?_|refine R.Qn ?_|refine R.iL ?_|refine R.Q3 ?_|refine R.comp ?_)
local macro_rules| `(tactic|walk_at "st")=> `(tactic|repeat (first
 |walk_at "s1"
 |((with_reducible refine' R.var ?h0 ?_);(case h0=>rfl))
 |((with_reducible refine' R.rI ?h1 ?_);(case h1=>walk_at "ds"))
 |((with_reducible refine' R.wU (o:= .lst []) ?h1 ?_);(case h1=>rfl))
 |((with_reducible refine' R.wF ?h0 ?h1 ?_);(case h0=>assumption);(case h1=>rfl))
 |((with_reducible refine' R.ixTM ?h0 ?h1 ?_);(case h0=>assumption);(case h1=>rfl))
 |((with_reducible refine' R.QS ?h1 ?_);(case h1=>rfl))
 |((with_reducible refine' R.setM ?h0 ?h1 ?_);(case h0=>assumption);(case h1=>rfl))
 |((with_reducible refine' R.ME ?h0 ?_);(case h0=>assumption))
 |((with_reducible refine' R.lenL ?h0 ?_);(case h0=>assumption))
 |((with_reducible refine' R.rng1I ?h0 ?h1 ?_);(case h0=>walk_at "ds");(case h1=>walk_at "ds"))
 |((with_reducible refine' R.LZ ?h0 ?_);(case h0=>walk_at "ds"))
 |((with_reducible refine' R.Ad ?h0 ?_);(case h0=>assumption))
 |((with_reducible refine' R.gc ?h0 ?_);(case h0=>first|exact R.dT (by omega)|exact R.dTn (by omega)|decide))
 |((with_reducible refine' R.Cy ?h0 ?_);(case h0=>first|exact R.dF (by omega)|exact R.Fz (by omega)|decide))
 |(with_reducible refine R.min2 ?_)|(with_reducible refine R.MG ?_)|(with_reducible refine R.QO ?_)))
local macro_rules| `(tactic|walk_at "fv")=> `(tactic|first|exact Or.inl rfl|exact Or.inr (Or.inl rfl)|exact Or.inr (Or.inr (Or.inl rfl))|exact Or.inr (Or.inr (Or.inr (Or.inl rfl)))|exact Or.inr (Or.inr (Or.inr (Or.inr rfl))))
local macro_rules| `(tactic|walk_at "d1")=> `(tactic|with_reducible first
 |refine Sv.seq ?_|refine Sv.HH ?_|refine Sv.asg ?_|refine Sv.yT ?_|refine Sv.kK ?_|refine Sv.ret ?_|refine Sv.next ?_|refine Sv.retN ?_
 |refine Ev.int ?_|refine Ev.bl ?_|refine Ev.gE ?_|refine Ev.MX ?_|refine Ev.rI ?_|refine Ev.rU ?_|refine Ev.eq ?_|refine Ev.ne ?_|refine Ev.isNot ?_|refine Ev.EC ?_|refine Ev.nJ ?_
 |refine Ev.Nc ?_|refine Ev.orV ?_|refine Ev.notV ?_|refine Tv.test ?_|refine Tv.and ?_|refine Tv.or ?_|refine Tv.not ?_|refine Tv.nO ?_|refine Tv.zR ?_
 |refine Ev.Mq ?_|refine Ev.lst ?_|refine Av.nil ?_|refine Av.cons ?_|refine Av.yP ?_|refine Ov.none ?_|refine Ov.some ?_|refine Ev.min2 ?_|refine Ev.max2 ?_|refine Ev.intB ?_
 |refine R.di ?_|refine R.db ?_|refine R.dl ?_|refine R.dt ?_|refine R.Jk ?_|refine R.QG ?_|refine R.Lm ?_|refine R.eqni ?_|refine R.eqin ?_|refine R.eqnn ?_|refine R.Ob ?_
 |refine Gv.jI ?_|refine Gv.nameB ?_|refine Gv.nameN ?_|refine Gv.EX ?_|refine Gv.pq ?_|refine Gv.Lo ?_|refine Gv.Lk ?_|refine tu ?_|refine Gp ?_)
local macro_rules| `(tactic|walk_at "dt")=> `(tactic|repeat (first
 |((with_reducible refine' Sv.retOwn ?h0 ?_);(case h0=>rfl))
 |((with_reducible refine' Sv.setOwn ?h0 ?_);(case h0=>rfl))
 |walk_at "d1"
 |((with_reducible refine' Ev.var ?h0 ?_);(case h0=>rfl))
 |((with_reducible refine' Ev.draw ?h0 ?_);(case h0=>rfl))
 |((with_reducible refine' Ev.prime ?h0 ?_);(case h0=>rfl))
 |((with_reducible refine' Ev.Fb ?h0 ?_);(case h0=>rfl))
 |((with_reducible refine' Ev.FI ?h0 ?_);(case h0=>rfl))
 |((with_reducible refine' Ev.listOwn ?h0 ?_);(case h0=>rfl))
 |((with_reducible refine' Ev.slOwn ?h0 ?_);(case h0=>rfl))
 |((with_reducible refine' Sv.append ?h0 ?_);(case h0=>rfl))
 |((with_reducible refine' Sv.setOwn ?h0 ?_);(case h0=>rfl))
 |((with_reducible refine' Sv.retOwn ?h0 ?_);(case h0=>rfl))
 |((with_reducible refine' Gv.tup ?h0 ?_);(case h0=>rfl))
 |((with_reducible refine' R.at_ ?h0 ?_);(case h0=>first|rfl|assumption))
 |(with_reducible refine Ev.tH ?_)|(with_reducible refine Ev.Rm ?_)|(with_reducible refine Ev.listOf ?_)|(with_reducible refine Ev.sl ?_)|(with_reducible refine Ev.cat ?_)|(with_reducible refine Ev.uw ?_)
 |((with_reducible refine' Ev.Qi ?h0 ?_);(case h0=>walk_at "fv"))
 |((with_reducible refine' Ev.O1 ?h0 ?h1 ?_);(case h0=>walk_at "fv");(case h1=>walk_at "fv"))
 |(with_reducible refine Ev.all ?_)|(with_reducible refine Ev.wU ?_)
 |((with_reducible refine' R.ON ?_))
 |((with_reducible refine' R.gc ?h0 ?_);(case h0=>first|exact R.dT (by omega)|exact R.dTn (by omega)|rfl))
 |((with_reducible refine' R.Cy ?h0 ?_);(case h0=>first|exact R.dF (by omega)|exact R.Fz (by omega)|exact bz))
 |((with_reducible refine' R.Ko ?h0 ?_);(case h0=>first|walk_at "ds" |exact Nat.le_of_ble_eq_true rfl))))
local macro_rules| `(tactic|walk_at "wk")=> `(tactic|repeat (first|exact Wk.nil|apply Wk.no|apply Wk.eq))
section
variable{P:Program}{w:World}{K:PySem.W.Frag}{mg:Str->Option Value}{base:Heap}{f:Addr}{fd:FuncData}
theorem oR:dR ["net","told","c","pairs","place","factor"] ["net"] (aO tw):=⟨rfl,rfl,rfl,by decide+kernel,rfl,by decide+kernel,by decide+kernel⟩
theorem Qt(F:cQ K "seats" "seats" tw f fd)(nR:mg "enumerate"=none)(bK:mg "range"=none):
  cI P w K mg base cP 1 f fd ["net"] uA:=by
 refine F.ok oR (fun vs H Q E h=>?_) (fun cdv A outer s H vs Q E hr h=>?_)
 ·obtain⟨nb,p,n,cs,v,rfl,hrest⟩:=h
  rfl
 obtain⟨nb,p,n,cs,v,rfl,hrest⟩:=h
 refine⟨_,(@aD _ _ _ _ _ (lZ (i:=1) oR.nd rfl rfl (bM.of (show cU (aO tw) ["net","told","c","pairs","place","factor"] _ ["place"] [none]=true by decide+kernel)) (@iI _ _ _ _ _ _ rfl bK (@aa _ _ _ _ _ (@aP _ _ _ _ _ _ (dZ K) fX (pv 0) ao (fun _ _=>rfl)) aj rfl) (by rfl)) (fun _ _ _ _=>⟨(aY (i:=0) (by show List.Nodup (["place"]:List Str);decide+kernel) rfl (Or.inl rfl)),gU,(@dS _ _ _ _ aj)⟩)) (@aD _ _ _ _ _ (@gZ _ _ _ _ _ _ _ _ gy rfl (@CG _ (K) _ _ _ _ _ _ _ rfl rfl nR (@aP _ _ _ _ _ _ (dZ K) fX (pv 0) ao (fun _ _=>rfl)) (by rfl)) (@n5 _ (K) _ _ _ (2) _ rfl rfl (@iT _ _ _ _ _ (aY (i:=2) oR.nd rfl (Or.inl rfl)) (@iT _ _ _ _ _ (aY (i:=3) oR.nd rfl (Or.inl rfl)) oK (by rfl)) (by rfl)) (by rfl) (by rfl)) (@aM _ _ _ (@gZ _ _ _ _ _ _ _ _ gy rfl (dG (K:=K) rfl (pv 3)) (@n5 _ (K) _ _ _ (2) _ rfl rfl (@iT _ _ _ _ _ (aY (i:=4) oR.nd rfl (Or.inl rfl)) (@iT _ _ _ _ _ (aY (i:=5) oR.nd rfl (Or.inl rfl)) oK (by rfl)) (by rfl)) (by rfl) (by rfl)) (@aM _ _ _ (@jb _ _ _ _ (iK iX lX lR kG (@aP _ _ _ _ _ _ (cO K) bP (pv 1) (pv 4) (fun _ _=>rfl)) (@aa _ _ _ _ _ (pv 2) aj rfl)) (by rfl))) (by intro _;rfl))) (by intro _;rfl)) (@aM _ _ _ (@cA _ _ _ _ (pv 1))))),?_⟩
 exact OR ⟨nb,p,n,cs,v,rfl,hrest⟩
def Ae:DF:=fun ds Φ=>∃(prs:aB) (S:List Int) (ks:Ks),ds=[cN prs, .dict (ks.map cy)]/\(∀k,gu ks k=decide (k∈S))/\prs.length<=10000/\Φ true (.list ((prs.filter fun pr=>decide (pr.1∈S)).map fun pr=> .int pr.1))
theorem Ca:eN Ae:=by
 intro ds Φ Ψ hm z
 obtain⟨prs,S,ks,e,h1,h2,q⟩:=hm
 exact⟨prs,S,ks,e,h1,h2,z _ _ q⟩
theorem K9:dR ["pairs","inside"] ["pairs","inside"] (aO sE):=⟨rfl,rfl,rfl,by decide+kernel,rfl,by decide+kernel,by decide+kernel⟩
theorem OV(F:cQ K "inside_of" "inside_of" sE f fd):
  cI P w K mg base cP 1 f fd ["pairs","inside"] (dh 2 Ae):=by
 refine F.ok K9 (fun vs H Q E h=>h.1) (fun cdv A outer s H vs Q E hr h=>?_)
 obtain⟨nb,ds,Φ,hlive,hds,aW,hF⟩:=mh h
 obtain⟨prs,S,ks,rfl,hS,hl,q⟩:=hF
 refine⟨_,(@aM _ _ _ (@cA _ _ _ _ (eX (bM.of (show cU (aO sE) ["pairs","inside"] _ ["place","factor","inside"] [none,none,some 1]=true by decide+kernel)) (dG (K:=K) rfl (pv 0)) (fun _ _ _ _=>⟨(@n5 _ (K) _ _ _ (2) _ rfl rfl (@iT _ _ _ _ _ (aY (i:=0) (by show List.Nodup (["place","factor","inside"]:List Str);decide+kernel) rfl (Or.inl rfl)) (@iT _ _ _ _ _ (aY (i:=1) (by show List.Nodup (["place","factor","inside"]:List Str);decide+kernel) rfl (Or.inl rfl)) oK (by rfl)) (by rfl)) (by rfl) (by rfl)),(gR (@bA _ _ _ _ _ _ _ _ (sY hr.units) (pv 0) (pv 2) (by with_unfolding_all rfl))),(pv 0)⟩)))),?_⟩
 refine Sv.l9 hlive hds aW (ρ:=[.d false _, .d false _]) rfl ?_
 clear aW hds
 have fT:(prs.map pairD).length=prs.length:=ak ..
 refine Sv.ret ?_
 refine ay.ev (ay.gJ (by decide) rfl ?_)
 walk_at "dt"
 refine fun v=>⟨true,fun i ds=>ds=((prs.take i).filter fun pr=>decide (pr.1∈S)).map fun pr=> .int pr.1,rfl,?_,?_⟩
 ·rintro i d ds hd hl' rfl
  obtain⟨pr,gn,rfl⟩:=dP hd
  walk_at "dt"
  refine⟨by walk_at "wk",?_⟩
  refine Tv.test ?_
  refine Ev.PR ?_
  walk_at "dt"
  refine⟨ks,rfl,?_⟩
  rw[hS]
  refine⟨_,rfl,?_⟩
  by_cases c:pr.1∈S
  ·rw[if_pos (by simpa using c)]
   walk_at "dt"
   show _=List.map _ (List.filter _ (prs.take (i+1)))
   rw[take_snoc gn,nX,if_pos c,cj]
   rfl
  ·rw[if_neg (by simpa using c)]
   show _=List.map _ (List.filter _ (prs.take (i+1)))
   rw[take_snoc gn,nX,if_neg c,iC]
 ·rintro ds hl' rfl
  rw[fT,eV]
  exact q
def sr:DF:=fun ds Φ=>∃(p n:Int) (cs:List aB) (ai:List Int),ds=[gC p n cs, .list (ai.map .int)]/\rm n cs/\cC n ai/\(∀prs∈cs,prs.length<=10000)/\∀g:List Int,fk cs ai g->Φ true (.list (g.map .int))
theorem xF:eN sr:=by
 intro ds Φ Ψ hm z
 obtain⟨p,n,cs,ai,e,h1,h2,h3,q⟩:=hm
 exact⟨p,n,cs,ai,e,h1,h2,h3,fun g a=>z _ _ (q g a)⟩
def Rp(ρ:Rh):Nat:=match(ρ[3]?:Option Sl),(ρ[5]?:Option Sl) with
 |some (Sl.bf _ _ ks),some (Sl.own _ _ ds)=>ks.length*1000+ds.length
 |_,_=>0
theorem nq:dR ["net","lot","seated","inside","counts","waiting","alone","c"] ["net","lot"] (aO mX):=⟨rfl,rfl,rfl,by decide+kernel,rfl,by decide+kernel,by decide+kernel⟩
theorem OS(F:cQ K "greatest" "greatest" mX f fd)(Kd:Callee P w K mg base "seats" 1 ["net"] uA)(FY:Callee P w K mg base "inside_of" 1 ["pairs","inside"] (dh 2 Ae))(vz:mg "dict"=none)(cg:mg "len"=none)(nR:mg "enumerate"=none):
    cI P w K mg base cP 2 f fd ["net","lot"] (dh 2 sr):=by
  refine F.ok nq (fun vs H Q E h=>h.1) (fun cdv A outer s H vs Q E hr h=>?_)
  obtain⟨nb,ds,Φ,hlive,hds,aW,hF⟩:=mh h
  obtain⟨p,n,cs,ai,rfl,hN,jq,hpl,q⟩:=hF
  refine⟨_,(@aD _ _ _ _ _ (@bO _ _ (2) _ _ _ _ nq.nd rfl (Or.inl rfl) (@aN _ _ _ _ _ _ _ _ _ _ Kd (hr.mono (by decide)) (@aa _ _ _ _ _ (pv 0) aj rfl) (by rfl) (by decide) (by rfl) (by rfl)) (by rfl) (by first|exact .inl rfl|exact .inr rfl|assumption)) (@aD _ _ _ _ _ (@bO _ _ (3) _ _ _ _ nq.nd rfl (Or.inr rfl) (@iU _ _ _ _ _ _ _ _ (wR) (J8 rfl) rfl vz PyProof.Rows.boot_dict (@aa _ _ _ _ _ (eX (bM.of (show cU (aO mX) ["net","lot","seated","inside","counts","waiting","alone","c"] _ ["place"] [none]=true by decide+kernel)) (dG (K:=K) rfl (pv 1)) (fun _ _ _ _=>⟨(aY (i:=0) (by show List.Nodup (["place"]:List Str);decide+kernel) rfl (Or.inl rfl)),gU,(@jl _ _ _ _ _ (@aa _ _ _ _ _ (pv 0) (@aa _ _ _ _ _ kM aj rfl) rfl))⟩)) aj rfl) (by decide) (by decide) (by rfl) (by rfl)) (by rfl) (by first|exact .inl rfl|exact .inr rfl|assumption)) (@aD _ _ _ _ _ (lZ (i:=4) nq.nd rfl rfl (bM.of (show cU (aO mX) ["net","lot","seated","inside","counts","waiting","alone","c"] _ ["pairs","inside"] [none,some 3]=true by decide+kernel)) (dG (K:=K) rfl (@aP _ _ _ _ _ _ (dZ K) fX (pv 0) ao (fun _ _=>rfl))) (fun _ _ _ _=>⟨(aY (i:=0) (by show List.Nodup (["pairs","inside"]:List Str);decide+kernel) rfl (Or.inl rfl)),gU,(@bN _ _ _ _ _ _ _ _ (eT K) gF rfl cg fK (@aa _ _ _ _ _ (@aN _ _ _ _ _ _ _ _ _ _ FY (hr.mono (by decide)) (@aa _ _ _ _ _ (pv 0) (@aa _ _ _ _ _ (pv 1) aj rfl) rfl) (by rfl) (by decide) (by rfl) (by rfl)) aj rfl) (by decide) (by decide) (by rfl) (by rfl))⟩)) (@aD _ _ _ _ _ (lZ (i:=5) nq.nd rfl rfl (bM.of (show cU (aO mX) ["net","lot","seated","inside","counts","waiting","alone","c"] _ ["c","many"] [none,none]=true by decide+kernel)) (@CG _ (K) _ _ _ _ _ _ _ rfl rfl nR (pv 4) (by rfl)) (fun _ _ _ _=>⟨(@n5 _ (K) _ _ _ (2) _ rfl rfl (@iT _ _ _ _ _ (aY (i:=0) (by show List.Nodup (["c","many"]:List Str);decide+kernel) rfl (Or.inl rfl)) (@iT _ _ _ _ _ (aY (i:=1) (by show List.Nodup (["c","many"]:List Str);decide+kernel) rfl (Or.inl rfl)) oK (by rfl)) (by rfl)) (by rfl) (by rfl)),(gR (@bA _ _ _ _ _ _ _ _ fW (pv 1) ao (bX _))),(pv 0)⟩)) (@aD _ _ _ _ _ (@L5 _ _ _ _ _ _ gy (@m6 _ (K) _ _ rfl (pv 5) (fun _=>rfl)) (@aD _ _ _ _ _ (@bO _ _ (6) _ _ _ _ nq.nd rfl (Or.inl rfl) (@aN _ _ _ _ _ _ _ _ _ _ FY (hr.mono (by decide)) (@aa _ _ _ _ _ (@aP _ _ _ _ _ _ (cO K) bP (@aP _ _ _ _ _ _ (dZ K) fX (pv 0) ao (fun _ _=>rfl)) (MR iX Cr DW OA (pv 5)) (fun _ _=>rfl)) (@aa _ _ _ _ _ (pv 3) aj rfl) rfl) (by rfl) (by decide) (by rfl) (by rfl)) (by rfl) (by first|exact .inl rfl|exact .inr rfl|assumption)) (@aM _ _ _ (@eE _ _ _ _ _ _ _ _ (@m6 _ (K) _ _ rfl (pv 6) (fun _=>rfl)) (@aD _ _ _ _ _ (@jb _ _ _ _ (iK Ef xx E4 D7 (pv 3) (@aa _ _ _ _ _ (@aP _ _ _ _ _ _ (cO K) bP (pv 6) ao (fun _ _=>rfl)) aj rfl)) (by rfl)) (@aM _ _ _ (@gZ _ _ _ _ _ _ _ _ gy rfl (dG (K:=K) rfl (@aP _ _ _ _ _ _ (cO K) bP (pv 2) (@aP _ _ _ _ _ _ (cO K) bP (pv 6) ao (fun _ _=>rfl)) (fun _ _=>rfl))) (aY (i:=7) nq.nd rfl (Or.inl rfl)) (@aD _ _ _ _ _ (Pc (pv 4) (pv 7) QK ao Ow set_list) (@aM _ _ _ (@eE _ _ _ _ _ _ _ _ (@bA _ _ _ _ _ _ _ _ fW (@aP _ _ _ _ _ _ (cO K) bP (pv 4) (pv 7) (fun _ _=>rfl)) ao (bX _)) (@aM _ _ _ (@jb _ _ _ _ (iK iX lX lR kG (pv 5) (@aa _ _ _ _ _ (pv 7) aj rfl)) (by rfl))) fj))) (by intro _;rfl)))) fj)))) (@aM _ _ _ (@cA _ _ _ _ (eX (bM.of (show cU (aO mX) ["net","lot","seated","inside","counts","waiting","alone","c"] _ ["place","inside"] [none,some 3]=true by decide+kernel)) (dG (K:=K) rfl (pv 1)) (fun _ _ _ _=>⟨(aY (i:=0) (by show List.Nodup (["place","inside"]:List Str);decide+kernel) rfl (Or.inl rfl)),(gR (@bA _ _ _ _ _ _ _ _ (sY hr.units) (pv 0) (pv 1) (by with_unfolding_all rfl))),(pv 0)⟩))))))))),?_⟩
  refine Sv.l9 hlive hds aW (ρ:=[.d false _, .d false _, .no, .no, .no, .no, .no, .no]) rfl ?_
  clear aW hds
  have n0:=hN.n0
  have n1:=hN.n1
  have hcl:=hN.cl
  have iH:=jq.len n1
  have fT:(ai.map PyData.int).length=ai.length:=ak ..
  have sA:(cs.map cN).length=cs.length:=ak ..
  obtain⟨rows,uu⟩:∃rows,eG n.toNat cs cs.length=rows:=⟨_,rfl⟩
  have hrl:rows.length=n.toNat:=by rw[<-uu];exact Dw
  refine Sv.seq ?_
  refine Sv.asg ?_
  refine Ev.KS ?_
  walk_at "dt"
  refine⟨p,n,cs,rfl,hN.Pu,?_⟩
  rw[uu]
  refine Gv.EX ?_
  refine Sv.seq ?_
  refine Sv.GR (ny.LK ?_)
  refine ay.ev (ay.gJ (by decide) rfl ?_)
  walk_at "dt"
  refine fun v=>⟨true,fun i ds=>ds=(bu (ai.take i)).map tM,rfl,?_,?_⟩
  · rintro i d ds hd hl' rfl
    obtain⟨x,hx,rfl⟩:=dP hd
    walk_at "dt"
    refine⟨by walk_at "wk",?_⟩
    walk_at "dt"
    refine⟨fun _=>rfl,?_⟩
    show _=(bu (ai.take (i+1))).map tM
    unfold bu
    rw[take_snoc hx,cj,cj]
    rfl
  rintro ds hl' rfl
  rw[fT,eV]
  refine⟨bu ai,rfl,by unfold bu;rw[ak];omega,?_⟩
  rw[Mi jq.nd]
  intro A3
  refine Sv.seq ?_
  refine Sv.DO ?_
  refine ay.gJ (by decide) rfl ?_
  walk_at "dt"
  refine fun v=>⟨true,fun i ds=>ds=(cs.take i).map fun prs=> .int (aU ai prs),rfl,?_,?_⟩
  · rintro i d ds hd hl' rfl
    obtain⟨prs,bG,rfl⟩:=dP hd
    walk_at "dt"
    refine⟨by walk_at "wk",?_⟩
    refine Tv.nO ?_
    rw[if_pos rfl]
    refine Ev.uw ?_
    refine Ev.RE ?_
    refine iS.Pa 1 rfl ?_
    refine iS.fR Ca ?_
    walk_at "dt"
    refine⟨rfl,prs,ai,bu ai,rfl,kX ai,hpl prs (bZ bG),rfl,_, .inl rfl,fun _=>rfl,?_⟩
    show _=List.map _ (cs.take (i+1))
    rw[take_snoc bG,cj,ak]
    rfl
  rintro ds hl' rfl
  rw[sA,eV]
  intro A4
  refine Sv.seq ?_
  refine Sv.DO ?_
  refine ay.HN 4 rfl ?_
  refine ay.P8 (by decide) rfl ?_
  walk_at "dt"
  have Ms:(cs.map fun prs=>PyData.int (aU ai prs)).length=cs.length:=ak ..
  refine⟨by omega,fun v=>⟨true,fun i ds=>ds=((List.range i).filter fun c=>decide (aU ai (cs.getD c [])=1)).map fun(c:Nat)=> .int (c:Int),rfl,?_,?_⟩⟩
  · rintro i d ds ⟨e,he,rfl⟩ hl' rfl
    obtain⟨prs,bG,rfl⟩:=dP he
    have hgd:cs.getD i []=prs:=by rw[g8,bG];rfl
    walk_at "dt"
    refine⟨by walk_at "wk",?_⟩
    walk_at "dt"
    have D0:(List.range (i+1)).filter (fun c=>decide (aU ai (cs.getD c [])=1))=(List.range i).filter (fun c=>decide (aU ai (cs.getD c [])=1))++if aU ai prs=1 then[i] else[]:=by
      rw[yZ,ux,i7,uJ,hgd]
      by_cases c:aU ai prs=1<;>simp[c]
    by_cases c:aU ai prs=1
    · rw[if_pos (decide_eq_true (by omega))]
      walk_at "dt"
      show _=List.map _ (List.filter _ (List.range (i+1)))
      rw[D0,if_pos c,cj]
      rfl
    · rw[if_neg (by simp;omega)]
      show _=List.map _ (List.filter _ (List.range (i+1)))
      rw[D0,if_neg c,iC]
  rintro ds hl' rfl
  rw[Ms]
  refine⟨?_,?_⟩
  · rw[fN]
    intro d hd
    obtain⟨c,_,rfl⟩:=cY.mp hd
    rfl
  intro A5
  have hcell:∀(S cn ws:List Int),GI cs ai S cn ws->∀x∈S,0<=x/\x<n:=fun S cn ws h x hx=>jq.rg x (h.mem x hx)
  refine Sv.seq ?_
  refine Sv.Mt (fun ρ=>∃(S cn ws:List Int) (f3 f4 f5:Bool) (x6 x7:Sl),GI cs ai S cn ws/\ρ=[.d false (gC p n cs), .d false (.list (ai.map .int)), .d true (.list (rows.map bq)), .bf A3 f3 (bu S), .own A4 f4 (cn.map .int), .own A5 f5 (ws.map .int),x6,x7]) Rp ?_ ?_
  · refine⟨ai,cs.map fun prs=>(aU ai prs:Int),((List.range cs.length).filter fun c=>decide (aU ai (cs.getD c [])=1)).map fun(c:Nat)=>(c:Int),true,true,true, .no, .no,GI.init rfl,?_⟩
    simp only[jt]
    rfl
  rintro ρ ⟨S,cn,ws,f3,f4,f5,x6,x7,hG,rfl⟩
  refine Tv.HM rfl ?_
  rcases List.eq_nil_or_concat ws with ews|⟨lM,c0,ews⟩
  · subst ews
    rw[if_neg (by simp)]
    have hgr:=hG.done
    refine Sv.ret ?_
    refine ay.ev (ay.gJ (by decide) rfl ?_)
    walk_at "dt"
    refine fun v=>⟨true,fun i ds=>ds=((ai.take i).filter fun x=>decide (x∈S)).map .int,rfl,?_,?_⟩
    · rintro i d ds hd hl' rfl
      obtain⟨x,hx,rfl⟩:=dP hd
      walk_at "dt"
      refine⟨by walk_at "wk",?_⟩
      refine Tv.test ?_
      refine Ev.C5 rfl ?_
      walk_at "dt"
      rw[kX]
      by_cases c:x∈S
      · rw[if_pos (by simpa using c)]
        walk_at "dt"
        show _=List.map _ (List.filter _ (ai.take (i+1)))
        rw[pY _ hx,if_pos (by simpa using c),cj]
        rfl
      · rw[if_neg (by simpa using c)]
        show _=List.map _ (List.filter _ (ai.take (i+1)))
        rw[pY _ hx,if_neg (by simpa using c),iC]
    · rintro ds hl' rfl
      rw[fT,eV]
      have e:ai.filter (fun x=>decide (x∈S))=S:=by
        obtain⟨qq,eq⟩:=hG.sub
        conv=>rhs;rw[eq]
        apply List.filter_congr
        intro x hx
        rw[iZ,decide_eq_true_eq,eq,cX]
        exact⟨fun z=>z.2,fun z=>⟨hx,z⟩⟩
      rw[e]
      exact q S hgr
  · rw[List.concat_eq_append] at ews
    subst ews
    rw[if_pos (by simp)]
    have hc0:=hG.rg c0 (dY _ (by simp))
    obtain⟨iM,hp0,PV⟩:=zI (xs:=cs) cN hc0.1 hc0.2 rfl
    have hfew:=hG.few c0 (dY _ (by simp)) iM hp0
    rw[cj]
    refine Sv.seq ?_
    refine Sv.MD (j:=5) (q:=3) (i0:=0) Ca (by decide) rfl rfl rfl rfl PV ?_
    refine⟨iM,S,bu S,rfl,kX S,hpl iM (bZ hp0),rfl,?_⟩
    refine Sv.kK ?_
    refine Tv.Jx ?_
    walk_at "dt"
    cases pG:iM.filter (fun pr=>decide (pr.1∈S)) with
    | nil =>
      rw[if_neg (by simp)]
      refine Sv.next ?_
      have h0:aU S iM=0:=by unfold aU;rw[pG];rfl
      refine⟨⟨S,cn,lM,_,_,_,_,_,hG.drop hp0 h0,rfl⟩,?_⟩
      show(bu S).length*1000+(lM.map PyData.int).length<(bu S).length*1000+(lM.map PyData.int++[PyData.int c0]).length
      rw[bR,jT]
      omega
    | cons pr rest =>
      rw[if_pos (by simp)]
      have iA:pr∈iM.filter (fun pr=>decide (pr.1∈S)):=by rw[pG];exact dB ..
      obtain⟨Ig,pP⟩:=cX.mp iA
      have mS:pr.1∈S:=by simpa using pP
      have jA:pr.1∈iM.map (·.1):=cY.mpr ⟨pr,Ig,rfl⟩
      obtain⟨x0,x1⟩:=hcell S cn _ hG pr.1 mS
      obtain⟨row,Eg,SN⟩:=zI (xs:=rows) (k:=pr.1) (m:=rows.length) bq x0 (by omega) rfl
      have AF:∀(c:Nat) prs,cs[c]?=some prs->row.count (c:Int)=(prs.map (·.1)).count pr.1:=fun c prs e=>by
        have hc:=(aJ.mp e).1
        have e1:=ye (n:=n.toNat) (cs:=cs) (x:=(c:Int)) cs.length (aA _) pr.1.toNat row (by rw[uu];exact Eg)
        rw[if_pos (by omega),mO,g8,e] at e1
        rw[e1]
        exact Ck (by omega) fun y hy=>(hN.ok prs (bZ e) y hy).1
      have IC:∀c∈row,0<=c/\c<cs.length:=fun c hc=>KL (n:=n.toNat) (cs:=cs) (k:=pr.1.toNat) (r:=row) (by rw[uu];exact Eg) hc
      refine Sv.seq ?_
      have LH:bh ((pr::rest).map fun pr=>PyData.int pr.1) 0=some (.int pr.1):=jw (by decide) rfl
      refine Sv.D5 rfl ?_
      refine Ev.tH ?_
      refine Ev.var rfl ?_
      refine⟨_,rfl,?_⟩
      refine Ev.int ?_
      refine⟨0,rfl, .int pr.1,LH,?_⟩
      refine⟨pr.1,rfl,by rw[kX];exact decide_eq_true mS,?_⟩
      rw[Cc]
      refine Sv.forL ?_
      walk_at "dt"
      have hrm:(row.map PyData.int).length=row.length:=ak ..
      refine fun v=>⟨fun m ρ=>∃(jj l5:List Int) (f4 f5:Bool) (x7:Sl),GJ cs S row c0 m jj l5/\ρ=[.d false (gC p n cs), .d false (.list (ai.map .int)), .d true (.list (rows.map bq)), .bf A3 f3 (bu (S.filter fun y=>decide (y≠pr.1))), .own A4 f4 (jj.map .int), .own A5 f5 (l5.map .int), .d true (.list ((pr::rest).map fun pr=> .int pr.1)),x7],⟨cn,lM,_,_,_,hG.start,rfl⟩,?_,?_⟩
      · rintro m d ρ hd ⟨jj,l5,f4',oV,x7',hJ,rfl⟩
        obtain⟨c,sA,rfl⟩:=dP hd
        obtain⟨k0,k1⟩:=IC c (bZ sA)
        obtain⟨val,hval⟩:=hJ.at k0 k1
        have Sk:=hJ.len
        have hwl:=hJ.QC
        have hJ':=hJ.step sA k0 k1 hval
        refine Gv.jI ?_
        refine Sv.seq ?_
        refine Sv.NP rfl ?_
        refine Ev.var rfl ?_
        have hix:fQ (jj.map PyData.int).length c=some c.toNat:=by
          unfold fQ
          rw[ak]
          repeat (first|rw[if_pos (by omega)]|rw[if_neg (by omega)])
        refine⟨c,c.toNat,val,rfl,k0,hix,jw k0 (by rw[bY,hval];rfl),?_⟩
        rw[<-List.map_set]
        have JK:bh ((jj.set c.toNat (val-1)).map PyData.int) c=some (.int (val-1)):=jw k0 (by rw[bY,bx (by omega)];rfl)
        refine Sv.kK ?_
        refine Tv.test ?_
        refine Ev.eq ?_
        refine Ev.Fb rfl ?_
        refine Ev.var rfl ?_
        refine⟨c,rfl,_,JK,?_⟩
        walk_at "dt"
        by_cases c1:val-1=1
        · rw[if_pos (decide_eq_true c1)]
          rw[if_pos c1] at hJ'
          refine Sv.append rfl ?_
          refine Ev.var rfl ?_
          refine⟨by rw[ak];omega,?_⟩
          exact⟨_,l5++[c],_,_,_,hJ',by rw[cj];rfl⟩
        · rw[if_neg (by simpa using c1)]
          rw[if_neg c1] at hJ'
          refine Sv.next ?_
          exact⟨_,l5,_,_,_,hJ',rfl⟩
      · rintro ρ ⟨jj,l5,f4',oV,x7',hJ,rfl⟩
        rw[hrm] at hJ
        have FH:=GJ.fin hG hp0 mS jA AF hJ
        have hwl:=FH.len
        refine⟨⟨_,jj,l5,_,_,_,_,_,FH,rfl⟩,?_⟩
        show(bu (S.filter fun y=>decide (y≠pr.1))).length*1000+(l5.map PyData.int).length<(bu S).length*1000+(lM.map PyData.int++[PyData.int c0]).length
        have hlt:(S.filter fun y=>decide (y≠pr.1)).length<S.length:=by
          have h1:(S.filter fun y=>decide (y≠pr.1)).length<=S.length:=pD _ _
          have h2:(S.filter fun y=>decide (y≠pr.1)).length≠S.length:=fun z=>by
            have:=DQ.mp z pr.1 mS
            simp at this
          omega
        unfold bu
        rw[ak,ak,ak,bR]
        omega
theorem um:dR ["script","stir","cell"] ["script"] (aO rV):=⟨rfl,rfl,rfl,by decide+kernel,rfl,by decide+kernel,by decide+kernel⟩
theorem Iz(F:cQ K "_law_bag" "_law_bag" rV f fd)(yM:mg "abs"=none):
  cI P w K mg base cP 1 f fd ["script"] (Ga K):=by
 refine F.ok um (fun vs H Q E h=>?_) (fun cdv A outer s H vs Q E hr h=>?_)
 ·obtain⟨a,ns,rfl,hS,hl,q⟩:=h
  rfl
 obtain⟨a,ns,rfl,hS,hl,q⟩:=h
 refine⟨_,(@aD _ _ _ _ _ (@bO _ _ (1) _ _ _ _ um.nd rfl (Or.inl rfl) ao (by rfl) (by first|exact .inl rfl|exact .inr rfl|assumption)) (@aD _ _ _ _ _ (@gZ _ _ _ _ _ _ _ _ gy rfl (dG (K:=K) rfl (@zG _ _ _ _ _ _ _ _ _ _ vB (pv 0) vq (@AV _ _ _ ao))) (aY (i:=2) um.nd rfl (Or.inl rfl)) (@aM _ _ _ (@bO _ _ (1) _ _ _ _ um.nd rfl (Or.inl rfl) (@aV _ _ _ _ _ _ _ _ kW (@aV _ _ _ _ _ _ _ _ eK (@aV _ _ _ _ _ _ _ _ eK (@aV _ _ _ _ _ _ _ _ oM (pv 1) ao) (@aV _ _ _ _ _ _ _ _ kW (pv 2) ao)) ao) ao) (by rfl) (by first|exact .inl rfl|exact .inr rfl|assumption))) (by intro _;rfl)) (@aM _ _ _ (@cA _ _ _ _ (@dS _ _ _ _ (@aa _ _ _ _ _ (eX (bM.of (show cU (aO rV) ["script","stir","cell"] _ ["cell"] [none]=true by decide+kernel)) (dG (K:=K) rfl (@zG _ _ _ _ _ _ _ _ _ _ vB (pv 0) vq (@AV _ _ _ ao))) (fun _ _ _ _=>⟨(aY (i:=0) (by show List.Nodup (["cell"]:List Str);decide+kernel) rfl (Or.inl rfl)),gU,(@aV _ _ _ _ _ _ _ _ kW (@bN _ _ _ _ _ _ _ _ _ Js rfl yM PyProof.Rows.boot_abs (@aa _ _ _ _ _ (pv 0) aj rfl) (by decide) (by decide) (by rfl) (by rfl)) (@aV _ _ _ _ _ _ _ _ tK ao ao))⟩)) (@aa _ _ _ _ _ ao (@aa _ _ _ _ _ ao (@aa _ _ _ _ _ (pv 1) (@aa _ _ _ _ _ ao aj rfl) rfl) rfl) rfl) rfl)))))),?_⟩
 have C0:kF (ns.map V.int) none (some 63)=ns.map V.int:=by
  have e:(ns.map V.int).length=ns.length:=ak _
  show List.take (min 63 (ns.map V.int).length-0) (List.drop 0 (ns.map V.int))=_
  rw[pV]
  exact qu (by omega)
 walk_at "st"
 refine R.D4 hS fun c hc=>?_
 rw[C0]
 refine R.Ad (aF.of aS) ?_
 refine Fj (xs:=ns.map V.int) (fun i σ H1=>∃(st:Int) (x:Option V),σ=[some (.ref a),some (.int st),x]/\0<=st/\st<2147483647/\H1=upd H c (.lst (ns.map V.int))) ⟨19,none,rfl,by omega,by omega,rfl⟩ ?_ ?_ ?_
 ·rintro i σ H1 hi ⟨st,x,rfl,h1,h2,rfl⟩
  exact aF.of aS
 ·rintro i x σ H1 hx ⟨st,y,rfl,h1,h2,rfl⟩
  rw[bY] at hx
  obtain⟨n,_,rfl⟩:=jX.mp hx
  walk_at "st"
  exact⟨_,_,rfl,qW _ (by decide),qp _ (by decide),rfl⟩
 ·rintro σ H1 ⟨st,x,rfl,h1,h2,rfl⟩
  walk_at "st"
  refine R.D4 ((cD hc).seq hS) fun c2 hc2=>?_
  rw[C0]
  refine R.Ad (aF.of aS) ?_
  intro acc hacc
  refine R.FT (xs:=ns.map V.int) (fun i σ H2=>∃(x:Option V),σ=[x]/\H2=upd (upd (upd H c (.lst (ns.map V.int))) c2 (.lst (ns.map V.int))) acc (.lst (((ns.take i).map fun n=>(if n<0 then-n else n)%10^60).map V.int))) ⟨none,rfl,rfl⟩ ?_ ?_ ?_
  ·rintro i σ H1 hi ⟨x,rfl,rfl⟩
   refine aF.of ?_
   rw[aH (g7 aS hacc)]
   exact aS
  ·rintro i x σ H1 hx ⟨y,rfl,rfl⟩
   rw[bY] at hx
   obtain⟨n,hn,rfl⟩:=jX.mp hx
   walk_at "st"
   refine⟨_,aS,?_,_,rfl,?_⟩
   ·rw[ak,ak,gG]
    exact CJ (by omega)
   ·rw[xU,List.take_add_one,hn,cj,cj]
    rfl
  ·rintro σ H1 ⟨x,rfl,rfl⟩
   walk_at "st"
   refine(show zN _ _ _ from⟨by show 5<=sizeLine;decide,fun p hp=>?_⟩)
   have hn1:=g7 (aS (H:=upd (upd H c (.lst (ns.map V.int))) c2 (.lst (ns.map V.int))) (a:=acc)) hp
   have s1:cH H (upd (upd (upd H c (.lst (ns.map V.int))) c2 (.lst (ns.map V.int))) acc (.lst (((ns.take (ns.map V.int).length).map fun n=>(if n<0 then-n else n)%10^60).map V.int))):=(cD hc).trans ((cD hc2).trans (cD hacc))
   refine q p acc _ (s1.trans (cD hp)) (s1.free hp) ⟨_,0,0,st,0,aS,by rw[aH hn1];exact aS,?_,?_,by omega,by omega,by omega,h1,h2⟩
   ·intro y hy
    obtain⟨z,_,rfl⟩:=cY.mp hy
    exact⟨qW _ (by decide),qp _ (by decide)⟩
   ·rw[ak,gG]
    omega
theorem FU:dR ["bag","many","found"] ["bag","many"] (aO wC):=⟨rfl,rfl,rfl,by decide+kernel,rfl,by decide+kernel,by decide+kernel⟩
theorem JR(F:cQ K "_law_draw" "_law_draw" wC f fd)(cg:mg "len"=none):
  cI P w K mg base cP 1 f fd ["bag","many"] gQ:=by
 refine F.ok FU (fun vs H Q E h=>?_) (fun cdv A outer s H vs Q E hr h=>?_)
 ·obtain⟨b,l,many,rfl,hB,hm,hs,q⟩:=h
  rfl
 obtain⟨b,l,many,rfl,hB,hm,hs,q⟩:=h
 refine⟨_,(@aD _ _ _ _ _ (@eE _ _ _ _ _ _ _ _ (PW.pt (qP (@bA _ _ _ _ _ _ _ _ fW (@aP _ _ _ _ _ _ _ bP (pv 0) ao (fun _ _=>rfl)) ao (bX _)) (rC (@bA _ _ _ _ _ _ _ _ BH (@aP _ _ _ _ _ _ _ bP (pv 0) ao (fun _ _=>rfl)) (@bN _ _ _ _ _ _ _ _ _ Cw rfl cg fK (@aa _ _ _ _ _ (@aP _ _ _ _ _ _ _ bP (pv 0) ao (fun _ _=>rfl)) aj rfl) (by decide) (by decide) (by rfl) (by rfl)) (bX _))))) (@aD _ _ _ _ _ (@o8 _ _ _ _ _ _ (@aP _ _ _ _ _ _ _ bP (@aP _ _ _ _ _ _ _ bP (pv 0) ao (fun _ _=>rfl)) (@aP _ _ _ _ _ _ _ bP (pv 0) ao (fun _ _=>rfl)) (fun _ _=>rfl)) (n6 (pv 0) ao set_list) (by rfl) (by rfl) (by rfl)) (@aM _ _ _ (@o8 _ _ _ _ _ _ (@aV _ _ _ _ _ _ _ _ eK (@aP _ _ _ _ _ _ _ bP (pv 0) ao (fun _ _=>rfl)) ao) (n6 (pv 0) ao set_list) (by rfl) (by rfl) (by rfl)))) (@aM _ _ _ (@eE _ _ _ _ _ _ _ _ (@bA _ _ _ _ _ _ _ _ fW (@aP _ _ _ _ _ _ _ bP (pv 0) ao (fun _ _=>rfl)) ao (bX _)) (@aD _ _ _ _ _ (@o8 _ _ _ _ _ _ (@aV _ _ _ _ _ _ _ _ eK (@aP _ _ _ _ _ _ _ bP (pv 0) ao (fun _ _=>rfl)) ao) (n6 (pv 0) ao set_list) (by rfl) (by rfl) (by rfl)) (@aD _ _ _ _ _ (@o8 _ _ _ _ _ _ (@aV _ _ _ _ _ _ _ _ kW (@aV _ _ _ _ _ _ _ _ eK (@aV _ _ _ _ _ _ _ _ eK (@aV _ _ _ _ _ _ _ _ eK (@aV _ _ _ _ _ _ _ _ tK (@aP _ _ _ _ _ _ _ bP (pv 0) ao (fun _ _=>rfl)) ao) (@aV _ _ _ _ _ _ _ _ oM ao (@aP _ _ _ _ _ _ _ bP (pv 0) ao (fun _ _=>rfl)))) (@aV _ _ _ _ _ _ _ _ oM ao (@aP _ _ _ _ _ _ _ bP (pv 0) ao (fun _ _=>rfl)))) ao) ao) (n6 (pv 0) ao set_list) (by rfl) (by rfl) (by rfl)) (@aM _ _ _ (@cA _ _ _ _ (@aV _ _ _ _ _ _ _ _ kW (@aV _ _ _ _ _ _ _ _ qE (@aP _ _ _ _ _ _ _ bP (pv 0) ao (fun _ _=>rfl)) ao) (pv 1)))))) fj))) (@aD _ _ _ _ _ (@bO _ _ (2) _ _ _ _ FU.nd rfl (Or.inl rfl) (@aV _ _ _ _ _ _ _ _ kW (@aP _ _ _ _ _ _ _ bP (pv 0) ao (fun _ _=>rfl)) (pv 1)) (by rfl) (by first|exact .inl rfl|exact .inr rfl|assumption)) (@aD _ _ _ _ _ (@o8 _ _ _ _ _ _ (@aV _ _ _ _ _ _ _ _ qE (@aP _ _ _ _ _ _ _ bP (pv 0) ao (fun _ _=>rfl)) (pv 1)) (n6 (pv 0) ao set_list) (by rfl) (by rfl) (by rfl)) (@aM _ _ _ (@cA _ _ _ _ (pv 2)))))),?_⟩
 obtain⟨ns,i,c,st,n,h1,h2,h3,h4,h5,h6,h7,h8,h9⟩:=id hB
 have hlb:=Pe h1 h2
 have fin:∀(H1:Hp) (i' c':Int),H1 b=some (.lst [.ref l, .int i', .int c', .int st, .int n])->aI (Nb b) H H1->0<=i'->0<=c'->c'<10^60->
   ∀(H2:Hp),H2=upd H1 b (.lst [.ref l, .int i', .int (c'/many), .int st, .int n])->Q (.int (c'%many)) H2:=fun H1 i' c' e1 bt g1 g2 g3 H2 e2=>by
  subst e2
  have hd1:0<=c'/many:=Int.ediv_nonneg g2 (by omega)
  have hd2:c'/many<=c':=Int.ediv_le_self _ g2
  exact q _ _ (qW _ (by omega)) (qp _ hm) (bt.trans (aI.set rfl)) (cW.put hlb (bt _ _ hlb h2) h3 h4 g1 hd1 (by omega) h8 h9)
 walk_at "st"
 refine oG (fun c1=>?_) (fun c1=>?_)
 ·have c1:c=0:=of_decide_eq_true c1
  walk_at "st"
  refine oG (fun c2=>?_) (fun c2=>?_)
  ·have c2:i<(List.map V.int ns).length:=of_decide_eq_true c2
   rw[ak] at c2
   have hi:i.toNat<ns.length:=by omega
   obtain⟨g1,g2⟩:=h3 _ (jk hi)
   walk_at "st"
   refine R.wF h2 (v:= .int ns[i.toNat]) (jw h5 (by rw[bY,aR hi];rfl)) ?_
   walk_at "st"
   refine fin (upd H b (.lst [.ref l, .int (i+1), .int ns[i.toNat], .int st, .int n])) (i+1) ns[i.toNat] aS (aI.set rfl) (by omega) g1 g2 _ ?_
   rw[xU]
   rfl
  ·walk_at "st"
   exact q _ _ (qW _ (by omega)) (qp _ hm) (aI.set rfl) (cW.put hlb h2 h3 h4 h5 h6 h7 (qW _ (by decide)) (qp _ (by decide)))
 ·have c1:¬c=0:=of_decide_eq_false (zz.mpr c1)
  walk_at "st"
  exact fin H i c h1 (aI.refl _ _) h5 h6 h7 _ rfl
theorem Bh(is:List Int):PyData.eqv (.list (is.map PyData.int)) (.list [])=decide (is=[]):=by
 cases is<;>simp[PyData.eqv,PyData.eqvAll]
theorem shaped_ints(is:List Int):SeqAt.shaped (.list (is.map PyData.int))=true:=by
 have h:PyData.depthAll (is.map PyData.int)=0/\PyData.canLayAll0 (is.map PyData.int)=true:=by
  induction is with
  |nil=>simp[PyData.depthAll,PyData.canLayAll0]
  |cons a r ih=>simp[PyData.depthAll,PyData.depth,PyData.canLayAll0,PyData.canLay0,ih.2,ih.1]
 unfold SeqAt.shaped
 simp[PyData.canLay0,PyData.depth,h.2,h.1]
theorem Ez{nb:Addr->Prop}{H:Hp}:∀is:List Int,af nb H (is.map PyData.int) (is.map V.int)
 |[]=>af.nil
 |i::is=>af.cons (.int i) (Ez is)
theorem Na{r:Int}(h0:r<=10100)(h:∀d:Int,2<=d->d<102->¬(d*d<=r/\r%d=0)):t6 r:=fun d d1 d2 e=>by
 by_cases hd:d<102
 ·exact h d d1 hd ⟨d2,e⟩
 ·have:102*102<=d*d:=Int.mul_le_mul (by omega) (by omega) (by omega) (by omega)
  omega
theorem CW:dR ["number","found"] ["number"] (aO uz):=⟨rfl,rfl,rfl,by decide+kernel,rfl,by decide+kernel,by decide+kernel⟩
theorem Kg(F:cQ K "_law_prime_from" "_law_prime_from" uz f fd)(bK:mg "range"=none):
  cI P w K mg base cP 1 f fd ["number"] Ah:=by
 refine F.ok CW (fun vs H Q E h=>?_) (fun cdv A outer s H vs Q E hr h=>?_)
 ·obtain⟨n,rfl,hn1,hn2,q⟩:=h
  rfl
 obtain⟨n,rfl,hn1,hn2,q⟩:=h
 refine⟨_,(@aD _ _ _ _ _ (@gZ _ _ _ _ _ _ _ _ gy rfl (@E3 _ _ _ _ _ _ _ rfl bK (@aa _ _ _ _ _ (pv 0) (@aa _ _ _ _ _ (@aV _ _ _ _ _ _ _ _ eK (pv 0) ao) aj rfl) rfl) (by rfl) (by rfl)) (aY (i:=1) CW.nd rfl (Or.inr rfl)) (@aM _ _ _ (@eE _ _ _ _ _ _ _ _ (@bA _ _ _ _ _ _ _ _ (Ak hr.units) (eX (bM.of (show cU (aO uz) ["number","found"] _ ["k","found"] [none,some 1]=true by decide+kernel)) (@E3 _ _ _ _ _ _ _ rfl bK (@aa _ _ _ _ _ ao (@aa _ _ _ _ _ ao aj rfl) rfl) (by rfl) (by rfl)) (fun _ _ _ _=>⟨(aY (i:=0) (by show List.Nodup (["k","found"]:List Str);decide+kernel) rfl (Or.inl rfl)),(gR (PW.pt (qP (@bA _ _ _ _ _ _ _ _ Gu (@aV _ _ _ _ _ _ _ _ oM (pv 0) (pv 0)) (pv 1) (bX _)) (rC (@bA _ _ _ _ _ _ _ _ fW (@aV _ _ _ _ _ _ _ _ kW (pv 1) (pv 0)) ao (bX _)))))),(pv 0)⟩)) (@dS _ _ _ _ aj) (bX _)) (@aM _ _ _ (@cA _ _ _ _ (pv 1))) fj)) (by intro _;rfl)) (@aM _ _ _ (@cA _ _ _ _ ao))),?_⟩
 walk_at "st"
 refine B0 (fun i σ H1=>cH H H1/\∃(x:Option V),σ=[some (.int n),x]) ⟨cH.refl _,none,rfl⟩ ?_ ?_
 ·rintro i σ H1 hi ⟨s1,x,rfl⟩
  have hi2:(i:Int)<60:=by omega
  walk_at "st"
  intro acc hacc
  refine R.rT (fun j σ H2=>cH H1 H2/\(∃x:Option V,σ=[x,some (.int (n+i))])/\∃is:List Int,H2 acc=some (.lst (is.map V.int))/\is.length<=j/\(is=[]->∀d:Int,2<=d->d<2+j->¬(d*d<=n+i/\(n+i)%d=0))) ?_ ?_ ?_
  ·exact⟨cD hacc,⟨none,rfl⟩,[],aS,eg _,fun _ d d1 d2=>by omega⟩
  ·rintro j σ H2 hj ⟨s2,⟨x,rfl⟩,is,e2,l2,h2⟩
   have hj2:(j:Int)<100:=by omega
   have next:∀d:Int,d<2+((j+1:Nat):Int)->d<2+j\/d=2+j:=fun d h=>by omega
   walk_at "st"
   refine oG (fun c1=>?_) (fun c1=>?_)
   ·have c1:(2+(j:Int))*(2+j)<=n+i:=of_decide_eq_true c1
    walk_at "st"
    refine oG (fun c2=>?_) (fun c2=>?_)
    ·have c2:(n+i)%(2+(j:Int))=0:=of_decide_eq_true c2
     walk_at "st"
     refine⟨_,e2,?_,?_,⟨_,rfl⟩,is++[2+(j:Int)],?_,?_,fun e=>?_⟩
     ·rw[ak];exact CJ (by omega)
     ·exact fun a o h=>by rw[aH (g7 h hacc)];exact s2 _ _ h
     ·rw[aS,cj];rfl
     ·rw[bR,jT];omega
     ·simp at e
    ·have c2:¬(n+i)%(2+(j:Int))=0:=of_decide_eq_false (zz.mpr c2)
     refine⟨s2,⟨_,rfl⟩,is,e2,by omega,fun e d d1 d2=>?_⟩
     rcases next d d2 with h|h
     ·exact h2 e d d1 h
     ·rw[h];exact fun z=>c2 z.2
   ·have c1:¬(2+(j:Int))*(2+j)<=n+i:=of_decide_eq_false (zz.mpr c1)
    walk_at "st"
    refine⟨s2,⟨_,rfl⟩,is,e2,by omega,fun e d d1 d2=>?_⟩
    rcases next d d2 with h|h
    ·exact h2 e d d1 h
    ·rw[h];exact fun z=>c1 z.1
  ·rintro σ H2 ⟨s2,⟨x,rfl⟩,is,e2,l2,h2⟩
   walk_at "st"
   refine R.u5 (by decide) fun p H3 s3 f3 e3=>?_
   refine⟨fun _=>False, .list (is.map PyData.int), .list [], .lst id (s3 _ _ e2) (Ez is), .lst id e3 af.nil,shaped_ints is,by decide,?_⟩
   rw[Bh]
   walk_at "st"
   have s:cH H H3:=s1.trans (s2.trans s3)
   refine oG (fun c=>?_) (fun c=>?_)
   ·have c:is=[]:=by simpa using c
    walk_at "st"
    exact q _ _ s (by omega) (by omega) (Na (by omega) fun d d1 d2=>h2 c d d1 (by omega))
   ·walk_at "st"
    exact⟨s,_,rfl⟩
 ·rintro σ H1 ⟨s1,x,rfl⟩
  walk_at "st"
  refine q _ _ s1 (by omega) (by omega) fun d d1 d2=>?_
  have:2*2<=d*d:=Int.mul_le_mul d1 d1 (by omega) (by omega)
  omega
theorem N5:∀x∈wQ,2<=x/\x<10^40:=by decide
def uL:List Int:=[2,3,5,7,2,11,101,10007,65537,1000003,998244353,1000000007,2147483647,1000000000039,10^39+3,10^40-17,2305843009213693951,618970019642690137449562111,162259276829213363391578010288127,170141183460469231731687303715884105727]
theorem OC:∀x∈uL,x∈wQ:=by decide
theorem qF:dR ["bag","some","way"] ["bag"] (aO Aj):=⟨rfl,rfl,rfl,by decide+kernel,rfl,by decide+kernel,by decide+kernel⟩
theorem IG(F:cQ K "_law_prime" "_law_prime" Aj f fd)(bV:Callee P w K mg base "_law_draw" 1 ["bag","many"] gQ)(O4:Callee P w K mg base "_law_prime_from" 1 ["number"] Ah):
  cI P w K mg base cP 2 f fd ["bag"] uO:=by
 refine F.ok qF (fun vs H Q E h=>?_) (fun cdv A outer s H vs Q E hr h=>?_)
 ·obtain⟨b,l,rfl,hB,q⟩:=h
  rfl
 obtain⟨b,l,rfl,hB,q⟩:=h
 refine⟨_,(@aD _ _ _ _ _ (@Jj _ 1 _ _ _ _ _ _ qF.nd rfl (Or.inl rfl) rfl (Or.inl rfl)) (@aD _ _ _ _ _ (@bO _ _ (1) _ _ _ _ qF.nd rfl (Or.inl rfl) (@aV _ _ _ _ _ _ _ _ uR (pv 1) (@dS _ _ _ _ (@aa _ _ _ _ _ (@aV _ _ _ _ _ _ _ _ eK (@aV _ _ _ _ _ _ _ _ tK ao ao) ao) (@aa _ _ _ _ _ (@aV _ _ _ _ _ _ _ _ pI (@aV _ _ _ _ _ _ _ _ tK ao ao) ao) (@aa _ _ _ _ _ ao (@aa _ _ _ _ _ ao aj rfl) rfl) rfl) rfl))) (by rfl) (by first|exact .inl rfl|exact .inr rfl|assumption)) (@aD _ _ _ _ _ (@bO _ _ (1) _ _ _ _ qF.nd rfl (Or.inl rfl) (@aV _ _ _ _ _ _ _ _ uR (pv 1) (@dS _ _ _ _ (@aa _ _ _ _ _ ao (@aa _ _ _ _ _ ao aj rfl) rfl))) (by rfl) (by first|exact .inl rfl|exact .inr rfl|assumption)) (@aD _ _ _ _ _ (@bO _ _ (2) _ _ _ _ qF.nd rfl (Or.inl rfl) (@aN _ _ _ _ _ _ _ _ _ _ bV (hr.mono (by decide)) (@aa _ _ _ _ _ (pv 0) (@aa _ _ _ _ _ ao aj rfl) rfl) (by rfl) (by decide) (by rfl) (by rfl)) (by rfl) (by first|exact .inl rfl|exact .inr rfl|assumption)) (@aM _ _ _ (@cA _ _ _ _ (@KH _ _ _ _ _ _ _ _ (@bA _ _ _ _ _ _ _ _ BH (pv 2) ao (bX _)) (@aP _ _ _ _ _ _ _ bP (pv 1) (pv 2) (fun _ _=>rfl)) (@aN _ _ _ _ _ _ _ _ _ _ O4 (hr.mono (by decide)) (@aa _ _ _ _ _ (@aV _ _ _ _ _ _ _ _ eK ao (@aN _ _ _ _ _ _ _ _ _ _ bV (hr.mono (by decide)) (@aa _ _ _ _ _ (pv 0) (@aa _ _ _ _ _ ao aj rfl) rfl) (by rfl) (by decide) (by rfl) (by rfl))) aj rfl) (by rfl) (by decide) (by rfl) (by rfl))))))))),?_⟩
 walk_at "st"
 refine R.u5 (by decide) fun p1 H1 s1 f1 e1=>?_
 walk_at "st"
 refine R.u5 (by decide) fun p2 H2 s2 f2 e2=>?_
 refine R.nE (s2 _ _ e1) e2 (by decide) fun p3 H3 s3 f3 e3=>?_
 walk_at "st"
 refine R.u5 (by decide) fun p4 H4 s4 f4 e4=>?_
 refine R.nE (s4 _ _ e3) e4 (by decide) fun p5 H5 s5 f5 e5=>?_
 have s:cH H H5:=s1.trans (s2.trans (s3.trans (s4.trans s5)))
 have OI:cH H H4:=s1.trans (s2.trans (s3.trans s4))
 have B7:=hB.same s
 have MS:=(hB.same OI).ne f5
 have Rx:H5 p5=some (.lst (uL.map V.int)):=e5
 walk_at "st"
 refine⟨b,l,24,rfl,B7,by omega,by walk_at "ds",fun way H8 w1 w2 yY B8=>?_⟩
 have e8:=yY _ _ (show¬Nb b p5 from MS.1) Rx
 walk_at "st"
 refine oG (fun c=>?_) (fun c=>?_)
 ·have c:way<20:=of_decide_eq_true c
  have hw:way.toNat<uL.length:=by show way.toNat<20;omega
  walk_at "st"
  refine R.wF e8 (v:= .int uL[way.toNat]) (jw w1 (by rw[bY,aR hw];rfl)) ?_
  have hm:=OC _ (jk hw)
  obtain⟨g1,g2⟩:=N5 _ hm
  exact q _ _ ⟨g1,g2, .inl hm⟩ ((aI.of s).trans yY) B8
 ·walk_at "st"
  refine⟨b,l,10000,rfl,B8,by omega,by walk_at "ds",fun r H9 r1 r2 Jy B9=>?_⟩
  walk_at "st"
  refine⟨2+r,rfl,by omega,by omega,fun p R8 D9 p1 p2 nd=>?_⟩
  exact q _ _ ⟨p1,by omega, .inr nd⟩ ((aI.of s).trans (yY.trans (Jy.trans (aI.of D9)))) (B9.same D9)
def rS:DF:=fun ds Φ=>∃p:Int,ds=[.int p]/\2<=p/\p<10^40/\∀x:Int,Φ true (.int x)
theorem u7:eN rS:=by
 intro ds Φ Ψ hm z
 obtain⟨p,e,h1,h2,q⟩:=hm
 exact⟨p,e,h1,h2,fun x=>z _ _ (q x)⟩
theorem LG:dR ["bag","p"] ["bag","p"] (aO zv):=⟨rfl,rfl,rfl,by decide+kernel,rfl,by decide+kernel,by decide+kernel⟩
theorem OP(F:cQ K "_law_factor" "_law_factor" zv f fd)(bV:Callee P w K mg base "_law_draw" 1 ["bag","many"] gQ):
  cI P w K mg base cP 2 f fd ["bag","p"] (eO 2 rS):=by
 refine F.ok LG (fun vs H Q E h=>h.1) (fun cdv A outer s H vs Q E hr h=>?_)
 obtain⟨b,l,ws,nb,ds,Φ,rfl,hB,hlive,hnb,hds,aW,hF⟩:=nA h
 obtain⟨p,rfl,p2,oY,q⟩:=hF
 refine⟨_,(@aM _ _ _ (@cA _ _ _ _ (@aV _ _ _ _ _ _ _ _ kW (@aV _ _ _ _ _ _ _ _ oM (@aV _ _ _ _ _ _ _ _ eK ao (@aN _ _ _ _ _ _ _ _ _ _ bV (hr.mono (by decide)) (@aa _ _ _ _ _ (pv 0) (@aa _ _ _ _ _ (@aV _ _ _ _ _ _ _ _ pI (pv 1) ao) aj rfl) rfl) (by rfl) (by decide) (by rfl) (by rfl))) (@aV _ _ _ _ _ _ _ _ eK (@aV _ _ _ _ _ _ _ _ qE (pv 1) ao) ao)) (pv 1)))),?_⟩
 refine Sv.mP hB hlive hnb hds aW (ρ:=[.az, .d false _]) rfl ?_
 clear aW hds
 walk_at "dt"
 intro r r1 r2
 walk_at "dt"
 exact q _
def AZ:DF:=fun ds Φ=>∃n wide:Int,ds=[.int n, .int wide]/\1<=n/\n<=420/\1<=wide/\wide<=60/\∀rs:List Int,rs≠[]->rs.length<=420->rs.Nodup->(∀x∈rs,0<=x/\x<n)->Φ true (.list (rs.map .int))
theorem I0:eN AZ:=by
 intro ds Φ Ψ hm z
 obtain⟨n,wide,e,h1,h2,h3,h4,q⟩:=hm
 exact⟨n,wide,e,h1,h2,h3,h4,fun rs a b c d=>z _ _ (q rs a b c d)⟩
theorem HG:dR ["bag","n","wide"] ["bag","n","wide"] (aO sf):=⟨rfl,rfl,rfl,by decide+kernel,rfl,by decide+kernel,by decide+kernel⟩
theorem Qh(F:cQ K "_law_places" "_law_places" sf f fd)(bV:Callee P w K mg base "_law_draw" 1 ["bag","many"] gQ)(fY:mg "sorted"=none)(cZ:mg "list"=none)(nH:mg "set"=none)(bK:mg "range"=none):
  cI P w K mg base cP 2 f fd ["bag","n","wide"] (eO 3 AZ):=by
 refine F.ok HG (fun vs H Q E h=>h.1) (fun cdv A outer s H vs Q E hr h=>?_)
 obtain⟨b,l,ws,nb,ds,Φ,rfl,hB,hlive,hnb,hds,aW,hF⟩:=nA h
 obtain⟨n,wide,rfl,n0,n1,w0,w1,q⟩:=hF
 refine⟨_,(@aD _ _ _ _ _ (@eE _ _ _ _ _ _ _ _ (PW.pt (qP (@bA _ _ _ _ _ _ _ _ Gu (pv 1) ao (bX _)) (rC (@bA _ _ _ _ _ _ _ _ fW (@aN _ _ _ _ _ _ _ _ _ _ bV (hr.mono (by decide)) (@aa _ _ _ _ _ (pv 0) (@aa _ _ _ _ _ ao aj rfl) rfl) (by rfl) (by decide) (by rfl) (by rfl)) ao (bX _))))) (@aM _ _ _ (@cA _ _ _ _ (@iU _ _ _ _ _ _ _ _ _ (DH rfl) rfl cZ jo (@aa _ _ _ _ _ (@iU _ _ _ _ _ _ _ _ _ Hy rfl bK Fw (@aa _ _ _ _ _ (pv 1) aj rfl) (by decide) (by decide) (by rfl) (by rfl)) aj rfl) (by decide) (by decide) (by rfl) (by rfl)))) fj) (@aM _ _ _ (@cA _ _ _ _ (@bN _ _ _ _ _ _ _ _ (qf P w) (C4 rfl) rfl fY m5 (@aa _ _ _ _ _ (@iU _ _ _ _ _ _ _ _ (qx P w K) (Ft rfl) rfl nH Hg (@aa _ _ _ _ _ (eX (bM.of (show cU (aO sf) ["bag","n","wide"] _ ["k","bag","n"] [none,some 0,some 1]=true by decide+kernel)) (@iI _ _ _ _ _ _ rfl bK (@aa _ _ _ _ _ (@aV _ _ _ _ _ _ _ _ eK ao (@aN _ _ _ _ _ _ _ _ _ _ bV (hr.mono (by decide)) (@aa _ _ _ _ _ (pv 0) (@aa _ _ _ _ _ (pv 2) aj rfl) rfl) (by rfl) (by decide) (by rfl) (by rfl))) aj rfl) (by rfl)) (fun _ _ _ _=>⟨(aY (i:=0) (by show List.Nodup (["k","bag","n"]:List Str);decide+kernel) rfl (Or.inl rfl)),gU,(@aN _ _ _ _ _ _ _ _ _ _ bV (hr.mono (by decide)) (@aa _ _ _ _ _ (pv 1) (@aa _ _ _ _ _ (pv 2) aj rfl) rfl) (by rfl) (by decide) (by rfl) (by rfl))⟩)) aj rfl) (by decide) (by decide) (by rfl) (by rfl)) aj rfl) (by decide) (by decide) (by rfl) (by rfl))))),?_⟩
 refine Sv.mP hB hlive hnb hds aW (ρ:=[.az, .d false _, .d false _]) rfl ?_
 clear aW hds
 have main:Ev {B:=some (b,l),H0:=H,A:=nb} [Sl.az,Sl.d false (PyData.int n),Sl.d false (PyData.int wide)]
          (dw (qf P w)
           (aK
            (dw (qx P w K)
             (aK
              (jm
               (oZ
                (aK
                 (bW (gE fun i j => V.int (i + j)) (tC (V.int 1))
                  (gb gQ [] E0 (aK (bE 0) (aK (bE 2) aQ))))
                 aQ))
               (ek 0) kc (gb gQ [] E0 (aK (bE 1) (aK (bE 2) aQ)))
               [none,some 0,some 1])
              aQ))
            aQ)) Φ:=by
  refine ay.ev (ay.Bf (ay.ev (ay.kr (by decide) rfl ?_)))
  walk_at "dt"
  intro m0 m1 m2
  walk_at "dt"
  refine gP.ints (fun x=>0<=x/\x<n) ?_ fun os kL hos=>⟨os,rfl,by omega,fun rs hrs hmem=>?_⟩
  ·rintro i d ⟨hi,rfl⟩
   walk_at "dt"
   refine⟨by walk_at "wk",?_⟩
   walk_at "dt"
   exact fun r r1 r2=>⟨r,rfl,r1,r2⟩
  have hrl:0<rs.length:=by
   have:0<os.length:=by omega
   obtain⟨y,hy⟩:=Fv this
   exact Aw ((hmem y).mpr hy)
  have Ij:rs.length<=os.length:=mw (hrs.imp fun h=>by omega) fun k hk=>(hmem k).mp hk
  exact q rs (fun z=>by rw[z] at hrl;simp at hrl) (by omega) (hrs.imp fun h=>by omega) fun x hx=>hos x ((hmem x).mp hx)
 walk_at "dt"
 by_cases c:n<=20
 ·rw[if_pos (decide_eq_true c)]
  walk_at "dt"
  intro r r1 r2
  by_cases c2:r=15
  ·walk_at "dt"
   refine ay.ev (ay.FO ?_)
   walk_at "dt"
   refine q _ ?_ ?_ ?_ ?_
   ·intro z
    have:=congrArg List.length z
    simp at this
    omega
   ·simp;omega
   ·rw[HB,z9]
    exact vh.imp fun h=>by omega
   ·intro x hx
    obtain⟨i,hi,rfl⟩:=cY.mp hx
    have:=jv.mp hi
    omega
  ·walk_at "dt"
   exact main
 ·rw[if_neg (by simpa using c)]
  walk_at "dt"
  exact main
def su:DF:=fun ds Φ=>∃(prs:aB) (ai:List Int) (d:PyData),ds=[cN prs,d]/\Iv ai d/\prs.length<=10000/\Φ true (.bool (decide (aU ai prs=1)))
theorem Gf:eN su:=by
 intro ds Φ Ψ hm z
 obtain⟨prs,ai,d,e,h1,h2,q⟩:=hm
 exact⟨prs,ai,d,e,h1,h2,z _ _ q⟩
theorem IF:dR ["pairs","lot"] ["pairs","lot"] (aO uK):=⟨rfl,rfl,rfl,by decide+kernel,rfl,by decide+kernel,by decide+kernel⟩
theorem MV(F:cQ K "_law_just_one" "_law_just_one" uK f fd)(cg:mg "len"=none):
  cI P w K mg base cP 1 f fd ["pairs","lot"] (dh 2 su):=by
 refine F.ok IF (fun vs H Q E h=>h.1) (fun cdv A outer s H vs Q E hr h=>?_)
 obtain⟨nb,ds,Φ,hlive,hds,aW,hF⟩:=mh h
 obtain⟨prs,ai,d0,rfl,hL,hl,q⟩:=hF
 refine⟨_,(@aM _ _ _ (@cA _ _ _ _ (@xq _ _ _ _ _ _ _ _ fW (@bN _ _ _ _ _ _ _ _ (eT K) gF rfl cg fK (@aa _ _ _ _ _ (eX (bM.of (show cU (aO uK) ["pairs","lot"] _ ["place","factor","lot"] [none,none,some 1]=true by decide+kernel)) (dG (K:=K) rfl (pv 0)) (fun _ _ _ _=>⟨(@n5 _ (K) _ _ _ (2) _ rfl rfl (@iT _ _ _ _ _ (aY (i:=0) (by show List.Nodup (["place","factor","lot"]:List Str);decide+kernel) rfl (Or.inl rfl)) (@iT _ _ _ _ _ (aY (i:=1) (by show List.Nodup (["place","factor","lot"]:List Str);decide+kernel) rfl (Or.inl rfl)) oK (by rfl)) (by rfl)) (by rfl) (by rfl)),(gR (bA (JQ (K:=K) (by rfl) hr.units) (pv 0) (pv 2) (by with_unfolding_all rfl))),(pv 0)⟩)) aj rfl) (by decide) (by decide) (by rfl) (by rfl)) ao (bX _)))),?_⟩
 refine Sv.l9 hlive hds aW (ρ:=[.d false _, .d false _]) rfl ?_
 clear aW hds
 have fT:(prs.map pairD).length=prs.length:=ak ..
 refine Sv.ret ?_
 refine Ev.eq ?_
 refine Ev.uw ?_
 refine ay.ev (ay.gJ (by decide) rfl ?_)
 walk_at "dt"
 refine fun v=>⟨true,fun i ds=>ds=((prs.take i).filter fun pr=>decide (pr.1∈ai)).map fun pr=> .int pr.1,rfl,?_,?_⟩
 ·rintro i d ds hd hl' rfl
  obtain⟨pr,gn,rfl⟩:=dP hd
  walk_at "dt"
  refine⟨by walk_at "wk",?_⟩
  have fin:Tv (Gx.hd {B:=none,H0:=H,A:=nb} false (.list (prs.map pairD)) v) [.d true (.int pr.1), .d true (.int pr.2), .d false d0] (sP (bW (sU K false) (bE 0) (bE 2))) (fun b=>b=decide (pr.1∈ai)):=by
   refine Tv.test ?_
   rcases hL with rfl|⟨ks,rfl,hks⟩
   ·refine Ev.Oj ?_
    walk_at "dt"
    refine⟨ai,rfl,?_⟩
    refine⟨_,rfl,?_⟩
    simp
   ·refine Ev.Ke ?_
    walk_at "dt"
    refine⟨ks,rfl,?_⟩
    refine⟨_,rfl,?_⟩
    rw[hks]
    simp
  refine fin.mono ?_
  rintro b rfl
  by_cases c:pr.1∈ai
  ·rw[if_pos (decide_eq_true c)]
   walk_at "dt"
   show _=List.map _ (List.filter _ (prs.take (i+1)))
   rw[take_snoc gn,nX,if_pos c,cj]
   rfl
  ·rw[if_neg (by simpa using c)]
   show _=List.map _ (List.filter _ (prs.take (i+1)))
   rw[take_snoc gn,nX,if_neg c,iC]
 ·rintro ds hl' rfl
  rw[fT,eV]
  refine⟨_, .inl rfl,?_⟩
  walk_at "dt"
  rw[ak]
  have e:decide (((prs.filter fun pr=>decide (pr.1∈ai)).length:Int)=1)=decide (aU ai prs=1):=by
   unfold aU
   rw[decide_eq_decide]
   omega
  rw[e]
  exact q
def vY:DF:=fun ds Φ=>∃(cs:List aB) (ai:List Int),ds=[.list (cs.map cN), .list (ai.map .int)]/\(∀prs∈cs,prs.length<=10000)/\ai.length<=10000/\Φ true (.bool (c8 cs ai))
theorem P4:eN vY:=by
 intro ds Φ Ψ hm z
 obtain⟨cs,ai,e,h1,h2,q⟩:=hm
 exact⟨cs,ai,e,h1,h2,z _ _ q⟩
theorem Ho:dR ["checks","lot","pairs"] ["checks","lot"] (aO zC):=⟨rfl,rfl,rfl,by decide+kernel,rfl,by decide+kernel,by decide+kernel⟩
theorem QA(F:cQ K "_law_holds" "_law_holds" zC f fd)(zB:Callee P w K mg base "_law_just_one" 1 ["pairs","lot"] (dh 2 su)):
  cI P w K mg base cP 2 f fd ["checks","lot"] (dh 2 vY):=by
 refine F.ok Ho (fun vs H Q E h=>h.1) (fun cdv A outer s H vs Q E hr h=>?_)
 obtain⟨nb,ds,Φ,hlive,hds,aW,hF⟩:=mh h
 obtain⟨cs,ai,rfl,hpl,iH,q⟩:=hF
 refine⟨_,(@aD _ _ _ _ _ (@gZ _ _ _ _ _ _ _ _ gy rfl (dG (K:=K) rfl (pv 0)) (aY (i:=2) Ho.nd rfl (Or.inl rfl)) (@aM _ _ _ (@eE _ _ _ _ _ _ _ _ (@m6 _ (K) _ _ rfl (@aN _ _ _ _ _ _ _ _ _ _ zB (hr.mono (by decide)) (@aa _ _ _ _ _ (pv 2) (@aa _ _ _ _ _ (pv 1) aj rfl) rfl) (by rfl) (by decide) (by rfl) (by rfl)) (fun _=>rfl)) (@aM _ _ _ (@cA _ _ _ _ kM)) fj)) (by intro _;rfl)) (@aM _ _ _ (@cA _ _ _ _ kM))),?_⟩
 refine Sv.l9 hlive hds aW (ρ:=[.d false _, .d false _, .no]) rfl ?_
 clear aW hds
 refine Sv.seq ?_
 refine Sv.forL ?_
 walk_at "dt"
 refine fun v2=>⟨fun i ρ=>∃(x4:Sl),(∀prs∈cs.take i,aU ai prs≠1)/\ρ=[.d false (.list (cs.map cN)), .d false (.list (ai.map .int)),x4],⟨_,fun _ h=>by simp at h,rfl⟩,?_,?_⟩
 ·rintro i d ρ hd ⟨x4,hI,rfl⟩
  obtain⟨prs,bG,rfl⟩:=dP hd
  refine Gv.pq ?_
  refine Sv.kK ?_
  refine Tv.zR ?_
  refine Ev.fR Gf ?_
  walk_at "dt"
  refine⟨rfl,prs,ai,_,rfl, .inl rfl,hpl prs (bZ bG),?_⟩
  refine⟨_,rfl,?_⟩
  by_cases c:aU ai prs=1
  ·rw[if_pos (decide_eq_true c)]
   walk_at "dt"
   have e:c8 cs ai=false:=by
    unfold c8
    rw[List.all_eq_false]
    exact⟨prs,bZ bG,by simp[c]⟩
   rw[e] at q
   exact q
  ·rw[if_neg (by simpa using c)]
   walk_at "dt"
   refine⟨_,fun u hu=>?_,rfl⟩
   rw[take_snoc bG] at hu
   rcases cE.mp hu with h|h
   ·exact hI u h
   ·rw[aC.mp h];exact c
 ·rintro ρ ⟨x4,hI,rfl⟩
  rw[ak,eV] at hI
  walk_at "dt"
  have e:c8 cs ai=true:=by
   unfold c8
   rw[fN]
   exact fun u hu=>decide_eq_true (hI u hu)
  rw[e] at q
  exact q
def xX:DF:=fun ds Φ=>∃n most:Int,ds=[.int n, .int most]/\1<=n/\n<=420/\1<=most/\most<=60/\∀rs:List Int,rs≠[]->rs.Pairwise (· < ·)->cC n rs->(rs.length:Int)<=most->Φ true (.list (rs.map .int))
theorem PB:eN xX:=by
 intro ds Φ Ψ hm z
 obtain⟨n,most,e,h1,h2,h3,h4,q⟩:=hm
 exact⟨n,most,e,h1,h2,h3,h4,fun rs a b c d=>z _ _ (q rs a b c d)⟩
theorem KN:dR ["bag","n","most"] ["bag","n","most"] (aO t7):=⟨rfl,rfl,rfl,by decide+kernel,rfl,by decide+kernel,by decide+kernel⟩
theorem QW(F:cQ K "_law_lot" "_law_lot" t7 f fd)(bV:Callee P w K mg base "_law_draw" 1 ["bag","many"] gQ)(fY:mg "sorted"=none)(nH:mg "set"=none)(bK:mg "range"=none):
  cI P w K mg base cP 2 f fd ["bag","n","most"] (eO 3 xX):=by
 refine F.ok KN (fun vs H Q E h=>h.1) (fun cdv A outer s H vs Q E hr h=>?_)
 obtain⟨b,l,ws,nb,ds,Φ,rfl,hB,hlive,hnb,hds,aW,hF⟩:=nA h
 obtain⟨n,most,rfl,n0,n1,w0,w1,q⟩:=hF
 refine⟨_,(@aM _ _ _ (@cA _ _ _ _ (@bN _ _ _ _ _ _ _ _ (qf P w) (C4 rfl) rfl fY m5 (@aa _ _ _ _ _ (@iU _ _ _ _ _ _ _ _ (qx P w K) (Ft rfl) rfl nH Hg (@aa _ _ _ _ _ (eX (bM.of (show cU (aO t7) ["bag","n","most"] _ ["k","bag","n"] [none,some 0,some 1]=true by decide+kernel)) (@iI _ _ _ _ _ _ rfl bK (@aa _ _ _ _ _ (@aV _ _ _ _ _ _ _ _ eK ao (@aN _ _ _ _ _ _ _ _ _ _ bV (hr.mono (by decide)) (@aa _ _ _ _ _ (pv 0) (@aa _ _ _ _ _ (pv 2) aj rfl) rfl) (by rfl) (by decide) (by rfl) (by rfl))) aj rfl) (by rfl)) (fun _ _ _ _=>⟨(aY (i:=0) (by show List.Nodup (["k","bag","n"]:List Str);decide+kernel) rfl (Or.inl rfl)),gU,(@aN _ _ _ _ _ _ _ _ _ _ bV (hr.mono (by decide)) (@aa _ _ _ _ _ (pv 1) (@aa _ _ _ _ _ (pv 2) aj rfl) rfl) (by rfl) (by decide) (by rfl) (by rfl))⟩)) aj rfl) (by decide) (by decide) (by rfl) (by rfl)) aj rfl) (by decide) (by decide) (by rfl) (by rfl)))),?_⟩
 refine Sv.mP hB hlive hnb hds aW (ρ:=[.az, .d false _, .d false _]) rfl ?_
 clear aW hds
 refine Sv.ret ?_
 refine ay.ev (ay.Bf (ay.ev (ay.kr (by decide) rfl ?_)))
 walk_at "dt"
 intro m0 m1 m2
 walk_at "dt"
 refine gP.ints (fun x=>0<=x/\x<n) ?_ fun os kL hos=>⟨os,rfl,by omega,fun rs hrs hmem=>?_⟩
 ·rintro i d ⟨hi,rfl⟩
  walk_at "dt"
  refine⟨by walk_at "wk",?_⟩
  walk_at "dt"
  exact fun r r1 r2=>⟨r,rfl,r1,r2⟩
 have hrl:0<rs.length:=by
  have:0<os.length:=by omega
  obtain⟨y,hy⟩:=Fv this
  exact Aw ((hmem y).mpr hy)
 have Ij:rs.length<=os.length:=mw (hrs.imp fun h=>by omega) fun k hk=>(hmem k).mp hk
 exact q rs (fun z=>by rw[z] at hrl;simp at hrl) hrs ⟨hrs.imp fun h=>by omega,fun x hx=>hos x ((hmem x).mp hx)⟩ (by omega)
def zW:DF:=fun ds Φ=>∃(n:Int) (places:List Int) (bH:List (List Int)),ds=[.list (places.map .int), .list (bH.map bq)]/\n<=60/\cC n places/\wH n bH/\bH.length<=100/\∀rs:List Int,cC n rs->Φ true (.list (rs.map .int))
theorem Q2:eN zW:=by
 intro ds Φ Ψ hm z
 obtain⟨n,places,bH,e,h1,h2,h3,h4,q⟩:=hm
 exact⟨n,places,bH,e,h1,h2,h3,h4,fun rs a=>z _ _ (q rs a)⟩
theorem ue:dR ["bag","places","lots","found","lot","others"] ["bag","places","lots"] (aO ua):=⟨rfl,rfl,rfl,by decide+kernel,rfl,by decide+kernel,by decide+kernel⟩
theorem J1(F:cQ K "_law_with_more" "_law_with_more" ua f fd)(bV:Callee P w K mg base "_law_draw" 1 ["bag","many"] gQ)(cZ:mg "list"=none)(fY:mg "sorted"=none)(cg:mg "len"=none):
  cI P w K mg base cP 2 f fd ["bag","places","lots"] (eO 3 zW):=by
 refine F.ok ue (fun vs H Q E h=>h.1) (fun cdv A outer s H vs Q E hr h=>?_)
 obtain⟨b,l,ws,nb,ds,Φ,rfl,hB,hlive,hnb,hds,aW,hF⟩:=nA h
 obtain⟨n,places,bH,rfl,n1,hpl,hlo,iH,q⟩:=hF
 refine⟨_,(@aD _ _ _ _ _ (@bO _ _ (3) _ _ _ _ ue.nd rfl (Or.inr rfl) (@iU _ _ _ _ _ _ _ _ (l7 K) pO rfl cZ jo (@aa _ _ _ _ _ (pv 1) aj rfl) (by decide) (by decide) (by rfl) (by rfl)) (by rfl) (by first|exact .inl rfl|exact .inr rfl|assumption)) (@aD _ _ _ _ _ (@gZ _ _ _ _ _ _ _ _ gy rfl (dG (K:=K) rfl (@aV _ _ _ _ _ _ _ _ uR (pv 2) (pv 2))) (aY (i:=4) ue.nd rfl (Or.inl rfl)) (@aD _ _ _ _ _ (lZ (i:=5) ue.nd rfl rfl (bM.of (show cU (aO ua) ["bag","places","lots","found","lot","others"] _ ["place","found"] [none,some 3]=true by decide+kernel)) (dG (K:=K) rfl (pv 4)) (fun _ _ _ _=>⟨(aY (i:=0) (by show List.Nodup (["place","found"]:List Str);decide+kernel) rfl (Or.inl rfl)),(gR (bA (w6 (K:=K) (by rfl)) (pv 0) (pv 1) (by with_unfolding_all rfl))),(pv 0)⟩)) (@aM _ _ _ (@eE _ _ _ _ _ _ _ _ (PW.pt (qP (@bA _ _ _ _ _ _ _ _ fW (@aV _ _ _ _ _ _ _ _ pI (@bN _ _ _ _ _ _ _ _ (eT K) gF rfl cg fK (@aa _ _ _ _ _ (pv 4) aj rfl) (by decide) (by decide) (by rfl) (by rfl)) (@bN _ _ _ _ _ _ _ _ (eT K) gF rfl cg fK (@aa _ _ _ _ _ (pv 5) aj rfl) (by decide) (by decide) (by rfl) (by rfl))) ao (bX _)) (rC (@bA _ _ _ _ _ _ _ _ (qD hr.units) (pv 5) (@dS _ _ _ _ aj) (bX _))))) (@aM _ _ _ (@jb _ _ _ _ (iK iX lX lR kG (pv 3) (@aa _ _ _ _ _ (@aP _ _ _ _ _ _ (cO K) bP (pv 5) (@aN _ _ _ _ _ _ _ _ _ _ bV (hr.mono (by decide)) (@aa _ _ _ _ _ (pv 0) (@aa _ _ _ _ _ (@bN _ _ _ _ _ _ _ _ (eT K) gF rfl cg fK (@aa _ _ _ _ _ (pv 5) aj rfl) (by decide) (by decide) (by rfl) (by rfl)) aj rfl) rfl) (by rfl) (by decide) (by rfl) (by rfl)) (fun _ _=>rfl)) aj rfl)) (by rfl))) (@aM _ _ _ (@eE _ _ _ _ _ _ _ _ (PW.pt (qP (@bA _ _ _ _ _ _ _ _ fW (@aV _ _ _ _ _ _ _ _ pI (@bN _ _ _ _ _ _ _ _ (eT K) gF rfl cg fK (@aa _ _ _ _ _ (pv 4) aj rfl) (by decide) (by decide) (by rfl) (by rfl)) (@bN _ _ _ _ _ _ _ _ (eT K) gF rfl cg fK (@aa _ _ _ _ _ (pv 5) aj rfl) (by decide) (by decide) (by rfl) (by rfl))) ao (bX _)) (rC (@bA _ _ _ _ _ _ _ _ EW (@bN _ _ _ _ _ _ _ _ (eT K) gF rfl cg fK (@aa _ _ _ _ _ (pv 3) aj rfl) (by decide) (by decide) (by rfl) (by rfl)) ao (bX _))))) (@aM _ _ _ (@jb _ _ _ _ (iK iX CT PySem.F.type_list_remove Oz (pv 3) (@aa _ _ _ _ _ (@aP _ _ _ _ _ _ (cO K) bP (pv 4) ao (fun _ _=>rfl)) aj rfl)) (by rfl))) fj))))) (by intro _;rfl)) (@aM _ _ _ (@cA _ _ _ _ (@bN _ _ _ _ _ _ _ _ (vX K) Ox rfl fY m5 (@aa _ _ _ _ _ (pv 3) aj rfl) (by decide) (by decide) (by rfl) (by rfl)))))),?_⟩
 refine Sv.mP hB hlive hnb hds aW (ρ:=[.az, .d false _, .d false _, .no, .no, .no]) rfl ?_
 clear aW hds
 refine Sv.seq ?_
 refine Sv.yI (ay.listOf ?_)
 walk_at "dt"
 intro A3
 refine Sv.seq ?_
 refine Sv.forL ?_
 walk_at "dt"
 have fT:(bH.map bq).length=bH.length:=ak ..
 refine⟨by omega,_,rfl,?_⟩
 refine fun v1=>⟨fun i ρ=>∃(fs:List Int) (f:Bool) (x4 x5:Sl),cC n fs/\ρ=[.az, .d false (.list (places.map .int)), .d false (.list (bH.map bq)), .own A3 f (fs.map .int),x4,x5],⟨places,_,_,_,hpl,rfl⟩,?_,?_⟩
 ·rintro i d ρ hd ⟨fs,f,x4,x5,hok,rfl⟩
  obtain⟨ai,jq,rfl⟩:∃ai∈bH,d=bq ai:=by
   have:=bZ hd
   rcases cE.mp this with h|h<;>(obtain⟨x,hx,e⟩:=cY.mp h;exact⟨x,hx,e.symm⟩)
  obtain⟨hl1,hl2⟩:=hlo ai jq
  have iH:=hl1.kq n1
  have hfl:=hok.kq n1
  refine Gv.pq ?_
  refine Sv.seq ?_
  refine Sv.yT ?_
  refine ay.ev (ay.gJ (by decide) rfl ?_)
  have KO:(ai.map PyData.int).length=ai.length:=ak ..
  walk_at "dt"
  refine fun v2=>⟨true,fun j ds=>ds=((ai.take j).filter fun x=>decide (x∉fs)).map .int,rfl,?_,?_⟩
  ·rintro j d ds hd hl' rfl
   obtain⟨x,hx,rfl⟩:=dP hd
   walk_at "dt"
   refine⟨by walk_at "wk",?_⟩
   refine Tv.lend 1 rfl ?_
   walk_at "dt"
   refine⟨fs,rfl,?_⟩
   refine⟨_,rfl,?_⟩
   by_cases c:x∈fs
   ·rw[if_neg (by simpa using c)]
    show _=List.map _ (List.filter _ (ai.take (j+1)))
    rw[pY _ hx,if_neg (by simpa using c),iC]
   ·rw[if_pos (by simpa using c)]
    walk_at "dt"
    show _=List.map _ (List.filter _ (ai.take (j+1)))
    rw[pY _ hx,if_pos (by simpa using c),cj]
    rfl
  rintro ds hl' rfl
  rw[KO,eV]
  obtain⟨os,sG⟩:∃os,ai.filter (fun x=>decide (x∉fs))=os:=⟨_,rfl⟩
  rw[sG]
  have hos:∀x∈os,x∈ai/\x∉fs:=fun x hx=>by
   rw[<-sG] at hx
   obtain⟨a,b⟩:=cX.mp hx
   exact⟨a,by simpa using b⟩
  have kL:os.length<=ai.length:=by rw[<-sG];exact pD _ _
  have Ja:(os.map PyData.int).length=os.length:=ak ..
  have keep:∃(fs':List Int) (f':Bool) (x4 x5:Sl),cC n fs'/\[Sl.az, .d false (.list (places.map .int)), .d false (.list (bH.map bq)), .own A3 f (fs.map .int), .d false (.list (ai.map .int)), .d false (.list (os.map .int))]=[Sl.az, .d false (.list (places.map .int)), .d false (.list (bH.map bq)), .own A3 f' (fs'.map .int),x4,x5]:=⟨fs,f,_,_,hok,rfl⟩
  by_cases c1:(ai.length:Int)-(os.length:Int)=1
  ·by_cases c2:os=[]
   ·subst c2
    obtain⟨x,ex⟩:∃x,ai=[x]:=Dh.mp (by simp at c1;omega)
    subst ex
    have S2:x∈fs:=jP fun z=>by
     have:x∈([x]:List Int).filter fun x=>decide (x∉fs):=cX.mpr ⟨by simp,by simpa using z⟩
     rw[sG] at this
     simp at this
    walk_at "dt"
    by_cases c3:(1:Int)<((fs.map PyData.int).length:Nat)
    ·rw[if_pos (decide_eq_true c3)]
     refine Sv.remove rfl ?_
     walk_at "dt"
     exact⟨fs.erase x,_,_,_,hok.erase,rfl⟩
    ·rw[if_neg (by simpa using c3)]
     walk_at "dt"
     exact keep
   ·obtain⟨y,ys,ey⟩:=List.exists_cons_of_ne_nil c2
    have hpos:0<os.length:=by rw[ey];simp
    walk_at "dt"
    refine⟨shaped_ints os,rfl,?_⟩
    refine⟨true,by subst ey;rfl,?_⟩
    rw[if_pos rfl]
    refine Sv.append rfl ?_
    walk_at "dt"
    rw[Ja]
    refine fun z z1 z2=>?_
    obtain⟨o,eo,P7⟩:=zI (xs:=os) PyData.int z1 z2 rfl
    refine⟨_,rfl,_,P7,?_⟩
    have ho:=hos o (bZ eo)
    have hr1:=hl1.rg o ho.1
    exact⟨by rw[ak];omega,fs++[o],_,_,_,hok.snoc ho.2 hr1.1 hr1.2,by rw[cj];rfl⟩
  ·walk_at "dt"
   exact keep
 ·rintro ρ ⟨fs,f,x4,x5,hok,rfl⟩
  have hfl:=hok.kq n1
  refine Sv.uB 3 rfl ?_
  refine Sv.ret ?_
  refine ay.ev (ay.Jq ?_)
  walk_at "dt"
  refine⟨fs,rfl,by omega,fun rs hp _=>?_⟩
  exact q rs (hok.perm hp)
def AA:DF:=fun ds Φ=>∃(n many:Int) (bH:List (List Int)),ds=[.int n, .int many, .list (bH.map bq)]/\1<=n/\n<=60/\0<=many/\many<=400/\wH n bH/\bH.length<=100/\∀(p:Int) (cs:List aB),xZ p->uQ n cs->(cs.length:Int)<=many->(∀ai∈bH,∀prs∈cs,aU ai prs≠1)->Φ true (gC p n cs)
theorem Mf:eN AA:=by
 intro ds Φ Ψ hm z
 obtain⟨n,many,bH,e,h1,h2,h3,h4,h5,h6,q⟩:=hm
 exact⟨n,many,bH,e,h1,h2,h3,h4,h5,h6,fun p cs a b c d=>z _ _ (q p cs a b c d)⟩
theorem pe:dR ["bag","n","many","lots","p","wide","checks","c","places"] ["bag","n","many","lots"] (aO pX):=⟨rfl,rfl,rfl,by decide+kernel,rfl,by decide+kernel,by decide+kernel⟩
theorem K8(F:cQ K "_law_lots_net" "_law_lots_net" pX f fd)(yb:Callee P w K mg base "_law_prime" 2 ["bag"] uO)(bV:Callee P w K mg base "_law_draw" 1 ["bag","many"] gQ)(Qq:Callee P w K mg base "_law_with_more" 2 ["bag","places","lots"] (eO 3 zW))(RK:Callee P w K mg base "_law_places" 2 ["bag","n","wide"] (eO 3 AZ))(qw:Callee P w K mg base "_law_factor" 2 ["bag","p"] (eO 2 rS))(zB:Callee P w K mg base "_law_just_one" 1 ["pairs","lot"] (dh 2 su))(bK:mg "range"=none):
    cI P w K mg base cP 3 f fd ["bag","n","many","lots"] (eO 4 AA):=by
  refine F.ok pe (fun vs H Q E h=>h.1) (fun cdv A outer s H vs Q E hr h=>?_)
  obtain⟨b,l,ws,nb,ds,Φ,rfl,hB,hlive,hnb,hds,aW,hF⟩:=nA h
  obtain⟨n,many,bH,rfl,n0,n1,m0,m1,hlo,iH,q⟩:=hF
  refine⟨_,(@aD _ _ _ _ _ (@bO _ _ (4) _ _ _ _ pe.nd rfl (Or.inr rfl) (@aN _ _ _ _ _ _ _ _ _ _ yb (hr.mono (by decide)) (@aa _ _ _ _ _ (pv 0) aj rfl) (by rfl) (by decide) (by rfl) (by rfl)) (by rfl) (by first|exact .inl rfl|exact .inr rfl|assumption)) (@aD _ _ _ _ _ (@bO _ _ (5) _ _ _ _ pe.nd rfl (Or.inl rfl) (@aV _ _ _ _ _ _ _ _ eK ao (@aN _ _ _ _ _ _ _ _ _ _ bV (hr.mono (by decide)) (@aa _ _ _ _ _ (pv 0) (@aa _ _ _ _ _ ao aj rfl) rfl) (by rfl) (by decide) (by rfl) (by rfl))) (by rfl) (by first|exact .inl rfl|exact .inr rfl|assumption)) (@aD _ _ _ _ _ (@bO _ _ (6) _ _ _ _ pe.nd rfl (Or.inl rfl) (@dS _ _ _ _ aj) (by rfl) (by first|exact .inl rfl|exact .inr rfl|assumption)) (@aD _ _ _ _ _ (@gZ _ _ _ _ _ _ _ _ gy rfl (@iI _ _ _ _ _ _ rfl bK (@aa _ _ _ _ _ (pv 2) aj rfl) (by rfl)) (aY (i:=7) pe.nd rfl (Or.inl rfl)) (@aD _ _ _ _ _ (@bO _ _ (8) _ _ _ _ pe.nd rfl (Or.inl rfl) (@aN _ _ _ _ _ _ _ _ _ _ Qq (hr.mono (by decide)) (@aa _ _ _ _ _ (pv 0) (@aa _ _ _ _ _ (@aN _ _ _ _ _ _ _ _ _ _ RK (hr.mono (by decide)) (@aa _ _ _ _ _ (pv 0) (@aa _ _ _ _ _ (pv 1) (@aa _ _ _ _ _ (pv 5) aj rfl) rfl) rfl) (by rfl) (by decide) (by rfl) (by rfl)) (@aa _ _ _ _ _ (pv 3) aj rfl) rfl) rfl) (by rfl) (by decide) (by rfl) (by rfl)) (by rfl) (by first|exact .inl rfl|exact .inr rfl|assumption)) (@aM _ _ _ (@jb _ _ _ _ (iK iX lX lR kG (pv 6) (@aa _ _ _ _ _ (eX (bM.of (show cU (aO pX) ["bag","n","many","lots","p","wide","checks","c","places"] _ ["place","bag","p"] [none,some 0,some 4]=true by decide+kernel)) (dG (K:=K) rfl (pv 8)) (fun _ _ _ _=>⟨(aY (i:=0) (by show List.Nodup (["place","bag","p"]:List Str);decide+kernel) rfl (Or.inl rfl)),gU,(@jl _ _ _ _ _ (@aa _ _ _ _ _ (pv 0) (@aa _ _ _ _ _ (@aN _ _ _ _ _ _ _ _ _ _ qw (hr.mono (by decide)) (@aa _ _ _ _ _ (pv 1) (@aa _ _ _ _ _ (pv 2) aj rfl) rfl) (by rfl) (by decide) (by rfl) (by rfl)) aj rfl) rfl))⟩)) aj rfl)) (by rfl)))) (by intro _;rfl)) (@aM _ _ _ (@cA _ _ _ _ (@jl _ _ _ _ _ (@aa _ _ _ _ _ (pv 4) (@aa _ _ _ _ _ (pv 1) (@aa _ _ _ _ _ (eX (bM.of (show cU (aO pX) ["bag","n","many","lots","p","wide","checks","c","places"] _ ["pairs","lots"] [none,some 3]=true by decide+kernel)) (dG (K:=K) rfl (pv 6)) (fun _ _ _ _=>⟨(aY (i:=0) (by show List.Nodup (["pairs","lots"]:List Str);decide+kernel) rfl (Or.inr rfl)),(gR (@bA _ _ _ _ _ _ _ _ (Ak hr.units) (by(refine' Fc (bM.of (NX:=["pairs","lots"]) (N:=["lot","pairs"]) (mp:=[none,some 0]) ?zP) ?Ao ?ya);(case Ao=>exact(dG (K:=K) rfl (pv 1)));(case ya=>exact(fun _ _ _ _=>⟨(aY (i:=0) (by show List.Nodup (["lot","pairs"]:List Str);decide+kernel) rfl (Or.inl rfl)),(gR (m6 (K:=K) rfl (aN zB (hr.mono (by decide)) (aa (pv 1) (aa (pv 0) aj rfl) rfl)) (fun _=>rfl))),(pv 0)⟩));(case zP=>decide+kernel)) (@dS _ _ _ _ aj) (bX _))),(pv 0)⟩)) aj rfl) rfl) rfl)))))))),?_⟩
  refine Sv.mP hB hlive hnb hds aW (ρ:=[.az, .d false _, .d false _, .d false _, .no, .no, .no, .no, .no]) rfl ?_
  clear aW hds
  walk_at "dt"
  intro p hp
  obtain⟨p2,oY,_⟩:=id hp
  walk_at "dt"
  intro w0 w1 w2
  obtain⟨wide,ew,Kl,Qk⟩:∃wide:Int,2+w0=wide/\1<=wide/\wide<=60:=⟨_,rfl,by omega,by omega⟩
  refine⟨_,rfl,Gv.jI ?_⟩
  rw[ew]
  walk_at "dt"
  intro A6
  walk_at "dt"
  refine Sv.Aa ?_
  walk_at "dt"
  refine⟨fun i ρ=>∃(x7 x8:Sl) (cs:List aB),ρ=[.az, .d false (.int n), .d false (.int many), .d false (.list (bH.map bq)), .d true (.int p), .d true (.int wide), .own A6 true (cs.map cN),x7,x8]/\cs.length=i/\uQ n cs,⟨_,_,[],rfl,rfl,(fun _ h=>nomatch h)⟩,?_,?_⟩
  · rintro i d ρ ⟨hi,rfl⟩ ⟨x7,x8,cs,rfl,hcl,hcs⟩
    have hlk:(cs.map cN).length=cs.length:=ak ..
    walk_at "dt"
    refine Ev.jg Q2 rfl ?_
    refine Av.cons ?_
    refine Ev.jg I0 rfl ?_
    walk_at "dt"
    refine⟨rfl,n,wide,rfl,n0,by omega,Kl,Qk,fun rs r0 r1 r2 r3=>?_⟩
    walk_at "dt"
    refine⟨rfl,n,rs,bH,rfl,n1,⟨r2,r3⟩,hlo,iH,fun ps hps=>?_⟩
    have hpl:=hps.kq n1
    walk_at "dt"
    refine ay.ev (ay.gJ (by decide) rfl ?_)
    have fT:(ps.map PyData.int).length=ps.length:=ak ..
    walk_at "dt"
    refine fun v=>gP.rel pairD true (fun i pr=>ps[i]?=some pr.1) ?_ fun prs JS bG=>?_
    · rintro j d hd
      obtain⟨x,hx,rfl⟩:=dP hd
      walk_at "dt"
      refine⟨by walk_at "wk",?_⟩
      walk_at "dt"
      refine Ev.jg u7 rfl ?_
      walk_at "dt"
      refine⟨rfl,p,rfl,p2,oY,fun y=>?_⟩
      walk_at "dt"
      exact⟨fun _=>rfl,(x,y),rfl,hx⟩
    have ep:prs.map (·.1)=ps:=by
      rw[fT] at JS
      apply jC
      intro k
      rw[bY]
      cases e:prs[k]? with
      | none =>
        have:=GV.mp e
        rw[j5 (by omega)];rfl
      |some pr=>rw[bG k pr e];rfl
    refine⟨by omega,_,_,cs++[prs],by rw[cj];rfl,by simp[hcl],fun u hu=>?_⟩
    rcases cE.mp hu with h|h
    · exact hcs u h
    · rw[aC.mp h,ep];exact hps
  · rintro ρ ⟨x7,x8,cs,rfl,hcl,hcs⟩
    have hlk:(cs.map cN).length=cs.length:=ak ..
    refine Sv.uB 6 rfl ?_
    walk_at "dt"
    refine ay.ev (ay.gJ (by decide) rfl ?_)
    walk_at "dt"
    refine fun v=>⟨true,fun i ds=>∃ks:List aB,ds=ks.map cN/\(∀prs∈ks,prs∈cs/\∀ai∈bH,aU ai prs≠1),⟨[],rfl,fun _ h=>nomatch h⟩,?_,?_⟩
    · rintro i d ds hd hl' ⟨ks,rfl,hks⟩
      obtain⟨prs,bG,rfl⟩:=dP hd
      have hok:=hcs prs (bZ bG)
      have hpl:=hok.kq n1
      rw[ak] at hpl
      walk_at "dt"
      refine⟨by walk_at "wk",?_⟩
      refine Tv.test ?_
      refine Ev.EC ?_
      refine ay.ev (ay.gJ (by decide) rfl ?_)
      walk_at "dt"
      have fT:(bH.map bq).length=bH.length:=ak ..
      refine⟨by omega,fun v2=>⟨false,fun j es=>∃ls:List (List Int),es=ls.map bq/\(ls=[]->∀ai∈bH.take j,aU ai prs≠1),⟨[],rfl,fun _ _ h=>nomatch h⟩,?_,?_⟩⟩
      · rintro j d es hd hl2 ⟨ls,rfl,hls⟩
        obtain⟨ai,jq,rfl⟩:=dP hd
        walk_at "dt"
        refine⟨by walk_at "wk",?_⟩
        refine Tv.zR ?_
        refine Ev.fR Gf ?_
        walk_at "dt"
        refine⟨rfl,prs,ai,_,rfl, .inl rfl,by omega,?_⟩
        refine⟨_,rfl,?_⟩
        generalize nu:decide (aU ai prs=1)=bb
        cases bb with
        | true =>
          rw[if_pos rfl]
          walk_at "dt"
          exact⟨ls++[ai],by rw[cj];rfl,fun z=>by simp at z⟩
        | false =>
          rw[if_neg bz]
          refine⟨ls,rfl,fun z l hl3=>?_⟩
          rw[take_snoc jq] at hl3
          rcases cE.mp hl3 with h|h
          · exact hls z l h
          · rw[aC.mp h];exact of_decide_eq_false nu
      · rintro es hl2 ⟨ls,rfl,hls⟩
        walk_at "dt"
        refine⟨ED ls,rfl,?_⟩
        refine⟨_,rfl,?_⟩
        have hev:(PyData.eqv (PyData.list (ls.map bq)) (PyData.list (([]:List Fd).map (·.2))) !=false)=decide (ls=[]):=by cases ls<;>simp[PyData.eqv,PyData.eqvAll]
        rw[hev]
        generalize nu:decide (ls=[])=bb
        cases bb with
        | true =>
          rw[if_pos rfl]
          walk_at "dt"
          refine⟨ks++[prs],by rw[cj];rfl,fun u hu=>?_⟩
          rcases cE.mp hu with h|h
          · exact hks u h
          · rw[aC.mp h];exact⟨bZ bG,fun l hl3=>hls (of_decide_eq_true nu) l (by rwa[qu (by omega)])⟩
        | false =>
          rw[if_neg bz]
          exact⟨ks,rfl,hks⟩
    · rintro ds hl' ⟨ks,rfl,hks⟩
      rw[ak,ak] at hl'
      walk_at "dt"
      exact q p ks hp (fun u hu=>hcs u (hks u hu).1) (by omega) fun l hl3 u hu=>(hks u hu).2 l hl3
def v5:DF:=fun ds Φ=>∃(cs:List aB) (ai:List Int),ds=[.list (cs.map cN), .list (ai.map .int)]/\ai.Pairwise (· < ·)/\ai.length<64/\(∀prs∈cs,prs.length<=10000)/\∀g:List Int,fk cs ai g->Φ true (.list (g.map .int))
theorem N1:eN v5:=by
 intro ds Φ Ψ hm z
 obtain⟨cs,ai,e,h1,h2,h3,q⟩:=hm
 exact⟨cs,ai,e,h1,h2,h3,fun g a=>z _ _ (q g a)⟩
theorem QT{S:List Int}{x:Int}(h:x∉S):jU (bu S) x (.bool true)=bu (S++[x]):=by
 unfold jU
 rw[kX,if_neg (by simpa using h)]
 unfold bu
 rw[cj];rfl
theorem mY:dR ["checks","lot","left","place","k","many","pairs","here"] ["checks","lot"] (aO sD):=⟨rfl,rfl,rfl,by decide+kernel,rfl,by decide+kernel,by decide+kernel⟩
theorem QE(F:cQ K "_law_peeled" "_law_peeled" sD f fd)(bK:mg "range"=none)(fY:mg "sorted"=none)(cg:mg "len"=none):
  cI P w K mg base cP 1 f fd ["checks","lot"] (dh 2 v5):=by
 refine F.ok mY (fun vs H Q E h=>h.1) (fun cdv A outer s H vs Q E hr h=>?_)
 obtain⟨nb,ds,Φ,hlive,hds,aW,hF⟩:=mh h
 obtain⟨cs,ai,rfl,hup,Sh,hpl,q⟩:=hF
 refine⟨_,(@aD _ _ _ _ _ (@bO _ _ (2) _ _ _ _ mY.nd rfl (Or.inr rfl) N7 (by rfl) (by first|exact .inl rfl|exact .inr rfl|assumption)) (@aD _ _ _ _ _ (@gZ _ _ _ _ _ _ _ _ gy rfl (dG (K:=K) rfl (pv 1)) (aY (i:=3) mY.nd rfl (Or.inl rfl)) (@aM _ _ _ (@o8 _ _ _ _ _ _ kM (n6 (pv 2) (pv 3) set_dict) (by rfl) (by rfl) (by rfl))) (by intro _;rfl)) (@aD _ _ _ _ _ (@gZ _ _ _ _ _ _ _ _ gy rfl (@iI _ _ _ _ _ _ rfl bK (@aa _ _ _ _ _ (@bN _ _ _ _ _ _ _ _ (eT K) gF rfl cg fK (@aa _ _ _ _ _ (pv 1) aj rfl) (by decide) (by decide) (by rfl) (by rfl)) aj rfl) (by rfl)) (aY (i:=4) mY.nd rfl (Or.inl rfl)) (@aD _ _ _ _ _ (@bO _ _ (5) _ _ _ _ mY.nd rfl (Or.inl rfl) (@bN _ _ _ _ _ _ _ _ (rY) DG rfl cg fK (@aa _ _ _ _ _ (pv 2) aj rfl) (by decide) (by decide) (by rfl) (by rfl)) (by rfl) (by first|exact .inl rfl|exact .inr rfl|assumption)) (@aD _ _ _ _ _ (@gZ _ _ _ _ _ _ _ _ gy rfl (dG (K:=K) rfl (pv 0)) (aY (i:=6) mY.nd rfl (Or.inl rfl)) (@aD _ _ _ _ _ (lZ (i:=7) mY.nd rfl rfl (bM.of (show cU (aO sD) ["checks","lot","left","place","k","many","pairs","here"] _ ["place","factor","left"] [none,none,some 2]=true by decide+kernel)) (dG (K:=K) rfl (pv 6)) (fun _ _ _ _=>⟨(@n5 _ (K) _ _ _ (2) _ rfl rfl (@iT _ _ _ _ _ (aY (i:=0) (by show List.Nodup (["place","factor","left"]:List Str);decide+kernel) rfl (Or.inl rfl)) (@iT _ _ _ _ _ (aY (i:=1) (by show List.Nodup (["place","factor","left"]:List Str);decide+kernel) rfl (Or.inl rfl)) oK (by rfl)) (by rfl)) (by rfl) (by rfl)),(gR (@bA _ _ _ _ _ _ _ _ (sY hr.units) (pv 0) (pv 2) (by with_unfolding_all rfl))),(pv 0)⟩)) (@aM _ _ _ (@eE _ _ _ _ _ _ _ _ (@bA _ _ _ _ _ _ _ _ fW (@bN _ _ _ _ _ _ _ _ (eT K) gF rfl cg fK (@aa _ _ _ _ _ (pv 7) aj rfl) (by decide) (by decide) (by rfl) (by rfl)) ao (bX _)) (@aM _ _ _ (@jb _ _ _ _ (iK Ef xx E4 D7 (pv 2) (@aa _ _ _ _ _ (@aP _ _ _ _ _ _ (cO K) bP (pv 7) ao (fun _ _=>rfl)) aj rfl)) (by rfl))) fj))) (by intro _;rfl)) (@aM _ _ _ (@eE _ _ _ _ _ _ _ _ (@bA _ _ _ _ _ _ _ _ fW (@bN _ _ _ _ _ _ _ _ (rY) DG rfl cg fK (@aa _ _ _ _ _ (pv 2) aj rfl) (by decide) (by decide) (by rfl) (by rfl)) (pv 5) (bX _)) (@aM _ _ _ (@cA _ _ _ _ (@bN _ _ _ _ _ _ _ _ (p9) (Gy rfl) rfl fY m5 (@aa _ _ _ _ _ (pv 2) aj rfl) (by decide) (by decide) (by rfl) (by rfl)))) fj)))) (by intro _;rfl)) (@aM _ _ _ (@cA _ _ _ _ (@bN _ _ _ _ _ _ _ _ (p9) (Gy rfl) rfl fY m5 (@aa _ _ _ _ _ (pv 2) aj rfl) (by decide) (by decide) (by rfl) (by rfl))))))),?_⟩
 refine Sv.l9 hlive hds aW (ρ:=[.d false _, .d false _, .no, .no, .no, .no, .no, .no]) rfl ?_
 clear aW hds
 have hnd:ai.Nodup:=hup.imp fun h=>by omega
 have fT:(ai.map PyData.int).length=ai.length:=ak ..
 refine Sv.seq ?_
 refine Sv.GR (ny.new ?_)
 intro A2
 refine Sv.seq ?_
 refine Sv.forL ?_
 walk_at "dt"
 refine fun v1=>⟨fun i ρ=>∃(f:Bool) (x3 x4 x5 x6 x7:Sl),ρ=[.d false (.list (cs.map cN)), .d false (.list (ai.map .int)), .bf A2 f (bu (ai.take i)),x3,x4,x5,x6,x7],⟨_,_,_,_,_,_,rfl⟩,?_,?_⟩
 ·rintro i d ρ hd ⟨f,x3,x4,x5,x6,x7,rfl⟩
  obtain⟨x,hx,rfl⟩:=dP hd
  have hil:=(aJ.mp hx).1
  have hxn:x∉ai.take i:=fun z=>by
   have h1:=hnd
   obtain⟨k,hk⟩:=g6 z
   have hki:k<i:=by have:=(aJ.mp hk).1;rw[gG] at this;omega
   rw[zM hki] at hk
   obtain⟨l1,e1⟩:=aJ.mp hk
   obtain⟨l2,e2⟩:=aJ.mp hx
   have:=(wZ h1).mp (e1.trans e2.symm)
   omega
  refine Gv.jI ?_
  refine Sv.Iw rfl ?_
  walk_at "dt"
  refine⟨by unfold bu;rw[ak,gG];omega,?_⟩
  rw[QT hxn,<-take_snoc hx]
  exact⟨_,_,_,_,_,_,rfl⟩
 rintro ρ ⟨f,x3,x4,x5,x6,x7,rfl⟩
 rw[fT,eV]
 have fin:∀(S:List Int) (f:Bool) (x3 x4 x5 x6 x7:Sl),(∃q:Int->Bool,S=ai.filter q)->fk cs ai S->ay {B:=none,H0:=H,A:=nb} [.d false (.list (cs.map cN)), .d false (.list (ai.map .int)), .bf A2 f (bu S),x3,x4,x5,x6,x7] (dw p9 (aK (bE 2) aQ)) (fun f ds=>Φ f (.list ds)):=fun S f x3 x4 x5 x6 x7 hq hG=>by
  have GP:S.length<=ai.length:=by obtain⟨qq,e⟩:=hq;rw[e];exact pD _ _
  refine ay.Qa rfl (by unfold bu;rw[ak];omega) fun rs hs hp=>?_
  have e:(bu S).map (·.1)=S:=by unfold bu;rw[jt];exact List.map_id'' (fun _=>rfl) S
  rw[e] at hp
  rw[Of (hG.up hup) hs hp]
  exact q S hG
 refine Sv.seq ?_
 refine Sv.Aa ?_
 walk_at "dt"
 refine⟨fun t ρ=>∃(S:List Int) (f:Bool) (x3 x4 x5 x6 x7:Sl),((∃q:Int->Bool,S=ai.filter q)/\S.length+t<=ai.length/\∀T:List Int,(∀x∈T,x∈ai)->c8 cs T=true->∀x∈T,x∈S)/\ρ=[.d false (.list (cs.map cN)), .d false (.list (ai.map .int)), .bf A2 f (bu S),x3,x4,x5,x6,x7],⟨ai,_,_,_,_,_,_,⟨⟨fun _=>true,(yH.mpr fun _ _=>rfl).symm⟩,aA _,fun T hT _=>hT⟩,rfl⟩,?_,?_⟩
 ·rintro t d ρ ⟨ht,rfl⟩ ⟨S0,f,x3,x4,x5,x6,x7,⟨Ce,hS2,hS3⟩,rfl⟩
  refine Gv.jI ?_
  refine Sv.seq ?_
  refine Sv.asg ?_
  refine Ev.D8 rfl ?_
  refine Gv.jI ?_
  have hsl:(bu S0).length=S0.length:=by unfold bu;rw[ak]
  rw[hsl]
  refine Sv.seq ?_
  refine Sv.forL ?_
  walk_at "dt"
  refine fun v2=>⟨fun i ρ=>∃(S:List Int) (f:Bool) (x6 x7:Sl),((∃q:Int->Bool,S=ai.filter q)/\S.length<=S0.length/\(S.length=S0.length->∀prs∈cs.take i,aU S prs≠1)/\∀T:List Int,(∀x∈T,x∈ai)->c8 cs T=true->∀x∈T,x∈S)/\ρ=[.d false (.list (cs.map cN)), .d false (.list (ai.map .int)), .bf A2 f (bu S),x3, .d true (.int (0+(t:Int))), .d true (.int (S0.length:Int)),x6,x7],⟨S0,_,_,_,⟨Ce,aA _,fun _ _ h=>(by simp at h),hS3⟩,rfl⟩,?_,?_⟩
  ·rintro i d ρ hd ⟨S,f,x6,x7,⟨g1,g2,g3,g4⟩,rfl⟩
   obtain⟨prs,bG,rfl⟩:=dP hd
   have iA:=bZ bG
   have OD:(prs.map pairD).length=prs.length:=ak ..
   have SD:=hpl prs iA
   refine Gv.pq ?_
   refine Sv.seq ?_
   refine Sv.yT ?_
   refine ay.ev (ay.gJ (by decide) rfl ?_)
   walk_at "dt"
   refine fun v=>⟨true,fun i ds=>ds=((prs.take i).filter fun pr=>decide (pr.1∈S)).map fun pr=> .int pr.1,rfl,?_,?_⟩
   ·rintro i d ds hd hl' rfl
    obtain⟨pr,gn,rfl⟩:=dP hd
    walk_at "dt"
    refine⟨by walk_at "wk",?_⟩
    refine Tv.test ?_
    refine Ev.C5 rfl ?_
    walk_at "dt"
    rw[kX]
    by_cases c:pr.1∈S
    ·rw[if_pos (by simpa using c)]
     walk_at "dt"
     show _=List.map _ (List.filter _ (prs.take (i+1)))
     rw[take_snoc gn,nX,if_pos c,cj]
     rfl
    ·rw[if_neg (by simpa using c)]
     show _=List.map _ (List.filter _ (prs.take (i+1)))
     rw[take_snoc gn,nX,if_neg c,iC]
   rintro ds hl' rfl
   rw[OD,eV]
   refine Sv.kK ?_
   refine Tv.test ?_
   refine Ev.eq ?_
   refine Ev.uw ?_
   walk_at "dt"
   rw[ak]
   by_cases c:aU S prs=1
   ·rw[if_pos (decide_eq_true (by unfold aU at c;omega))]
    obtain⟨pr,pG⟩:=Dh.mp (show(prs.filter fun pr=>decide (pr.1∈S)).length=1 from c)
    have pP:pr∈prs.filter fun pr=>decide (pr.1∈S):=by rw[pG];exact aC.mpr rfl
    obtain⟨h1,h2⟩:=cX.mp pP
    have mS:pr.1∈S:=of_decide_eq_true h2
    have jA:pr.1∈prs.map (·.1):=cY.mpr ⟨pr,h1,rfl⟩
    rw[pG]
    refine Sv.D5 rfl ?_
    walk_at "dt"
    refine⟨by rw[kX];exact decide_eq_true mS,?_⟩
    rw[Cc]
    have hlt:(S.filter fun y=>decide (y≠pr.1)).length<S.length:=by
     have h1:(S.filter fun y=>decide (y≠pr.1)).length<=S.length:=pD _ _
     have h2:(S.filter fun y=>decide (y≠pr.1)).length≠S.length:=fun z=>by
      have:=DQ.mp z pr.1 mS
      simp at this
     omega
    refine⟨_,_,_,_,⟨?_,by omega,fun z=>by omega,R0 g4 iA c jA⟩,rfl⟩
    obtain⟨qq,e⟩:=g1
    exact⟨_,by rw[e,List.filter_filter]⟩
   ·rw[if_neg (by simp;unfold aU at c;omega)]
    refine Sv.next ?_
    refine⟨S,_,_,_,⟨g1,g2,fun z u hu=>?_,g4⟩,rfl⟩
    rw[take_snoc bG] at hu
    rcases cE.mp hu with h|h
    ·exact g3 z u h
    ·rw[aC.mp h];exact c
  ·rintro ρ ⟨S,f,x6,x7,⟨g1,g2,g3,g4⟩,rfl⟩
   rw[ak,eV] at g3
   have hsl:(bu S).length=S.length:=by unfold bu;rw[ak]
   refine Sv.kK ?_
   refine Tv.test ?_
   refine Ev.eq ?_
   refine Ev.D8 rfl ?_
   rw[hsl]
   walk_at "dt"
   by_cases c:S.length=S0.length
   ·rw[if_pos (decide_eq_true (by omega))]
    refine Sv.ret ?_
    refine ay.ev (fin S _ _ _ _ _ _ g1 ⟨g1,?_,g4⟩)
    unfold c8
    rw[fN]
    exact fun u hu=>decide_eq_true (g3 c u hu)
   ·rw[if_neg (by simp;omega)]
    refine Sv.next ?_
    exact⟨S,_,_,_,_,_,_,⟨g1,by omega,g4⟩,rfl⟩
 ·rintro ρ ⟨S,f,x3,x4,x5,x6,x7,⟨g1,g2,g4⟩,rfl⟩
  have e9:S=[]:=kH.mp (by omega)
  refine Sv.ret ?_
  refine ay.ev (fin S _ _ _ _ _ _ g1 ⟨g1,?_,g4⟩)
  rw[e9]
  exact J7 cs
def xY:DF:=fun ds Φ=>∃es:List PyData,ds=[.list es]/\es.length<=9000/\∀(f:Bool) (rs:List PyData),rs.Perm es->Φ f (.list rs)
theorem C9:eN xY:=by
 intro ds Φ Ψ hm z
 obtain⟨es,e,h1,q⟩:=hm
 exact⟨es,e,h1,fun f rs a=>z _ _ (q f rs a)⟩
theorem Gr:dR ["bag","row","left"] ["bag","row"] (aO vc):=⟨rfl,rfl,rfl,by decide+kernel,rfl,by decide+kernel,by decide+kernel⟩
theorem Lu(F:cQ K "_law_turned" "_law_turned" vc f fd)(bV:Callee P w K mg base "_law_draw" 1 ["bag","many"] gQ)(cZ:mg "list"=none)(bK:mg "range"=none)(cg:mg "len"=none):
  cI P w K mg base cP 2 f fd ["bag","row"] (eO 2 xY):=by
 refine F.ok Gr (fun vs H Q E h=>h.1) (fun cdv A outer s H vs Q E hr h=>?_)
 obtain⟨b,l,ws,nb,ds,Φ,rfl,hB,hlive,hnb,hds,aW,hF⟩:=nA h
 obtain⟨es,rfl,hl,q⟩:=hF
 refine⟨_,(@aD _ _ _ _ _ (@bO _ _ (2) _ _ _ _ Gr.nd rfl (Or.inr rfl) (@iU _ _ _ _ _ _ _ _ (l7 K) pO rfl cZ jo (@aa _ _ _ _ _ (pv 1) aj rfl) (by decide) (by decide) (by rfl) (by rfl)) (by rfl) (by first|exact .inl rfl|exact .inr rfl|assumption)) (@aM _ _ _ (@cA _ _ _ _ (eX (bM.of (show cU (aO vc) ["bag","row","left"] _ ["k","bag","left"] [none,some 0,some 2]=true by decide+kernel)) (@iI _ _ _ _ _ _ rfl bK (@aa _ _ _ _ _ (@bN _ _ _ _ _ _ _ _ (eT K) gF rfl cg fK (@aa _ _ _ _ _ (pv 1) aj rfl) (by decide) (by decide) (by rfl) (by rfl)) aj rfl) (by rfl)) (fun _ _ _ _=>⟨(aY (i:=0) (by show List.Nodup (["k","bag","left"]:List Str);decide+kernel) rfl (Or.inl rfl)),gU,(RQ (K:=K) rfl (iK iX Cr DW LX (pv 2) (@aa _ _ _ _ _ (@aN _ _ _ _ _ _ _ _ _ _ bV (hr.mono (by decide)) (@aa _ _ _ _ _ (pv 1) (@aa _ _ _ _ _ (@bN _ _ _ _ _ _ _ _ (eT K) gF rfl cg fK (@aa _ _ _ _ _ (pv 2) aj rfl) (by decide) (by decide) (by rfl) (by rfl)) aj rfl) rfl) (by rfl) (by decide) (by rfl) (by rfl)) aj rfl)))⟩))))),?_⟩
 refine Sv.mP hB hlive hnb hds aW (ρ:=[.az, .d false _, .no]) rfl ?_
 clear aW hds
 refine Sv.seq ?_
 refine Sv.yI (ay.listOf ?_)
 walk_at "dt"
 intro A2
 refine Sv.QF rfl rfl hl ?_ (fun rs hp=>q _ rs hp)
 walk_at "dt"
 rfl
def z0:DF:=fun ds Φ=>∃(p n:Int) (cs:List aB),ds=[gC p n cs]/\cs.length<=10000/\∀f,Φ f (gC p n cs)
theorem O8:eN z0:=by
 intro ds Φ Ψ hm z
 obtain⟨p,n,cs,e,h,q⟩:=hm
 exact⟨p,n,cs,e,h,fun f=>z _ _ (q f)⟩
theorem LC:dR ["net"] ["net"] (aO u0):=⟨rfl,rfl,rfl,by decide+kernel,rfl,by decide+kernel,by decide+kernel⟩
theorem M1(F:cQ K "_law_copy" "_law_copy" u0 f fd)(cZ:mg "list"=none):
  cI P w K mg base cP 1 f fd ["net"] (dh 1 z0):=by
 refine F.ok LC (fun vs H Q E h=>h.1) (fun cdv A outer s H vs Q E hr h=>?_)
 obtain⟨nb,ds,Φ,hlive,hds,aW,hF⟩:=mh h
 obtain⟨p,n,cs,rfl,hl,q⟩:=hF
 refine⟨_,(@aM _ _ _ (@cA _ _ _ _ (@jl _ _ _ _ _ (@aa _ _ _ _ _ (@aP _ _ _ _ _ _ (dZ K) fX (pv 0) ao (fun _ _=>rfl)) (@aa _ _ _ _ _ (@aP _ _ _ _ _ _ (dZ K) fX (pv 0) ao (fun _ _=>rfl)) (@aa _ _ _ _ _ (eX (bM.of (show cU (aO u0) ["net"] _ ["pairs"] [none]=true by decide+kernel)) (dG (K:=K) rfl (@aP _ _ _ _ _ _ (dZ K) fX (pv 0) ao (fun _ _=>rfl))) (fun _ _ _ _=>⟨(aY (i:=0) (by show List.Nodup (["pairs"]:List Str);decide+kernel) rfl (Or.inl rfl)),gU,(@iU _ _ _ _ _ _ _ _ (l7 K) pO rfl cZ jo (@aa _ _ _ _ _ (pv 0) aj rfl) (by decide) (by decide) (by rfl) (by rfl))⟩)) aj rfl) rfl) rfl)))),?_⟩
 refine Sv.l9 hlive hds aW (ρ:=[.d false _]) rfl ?_
 clear aW hds
 walk_at "dt"
 refine ay.ev (ay.gJ (by decide) rfl ?_)
 walk_at "dt"
 refine⟨by rw[ak];exact hl,fun v=>⟨false,fun i ds=>ds=(cs.take i).map cN,rfl,?_,?_⟩⟩
 ·rintro i d ds hd hl' rfl
  obtain⟨prs,bG,rfl⟩:=dP hd
  walk_at "dt"
  refine⟨by walk_at "wk",?_⟩
  walk_at "dt"
  refine⟨fun z=>(by cases z),?_⟩
  show _=List.map _ _
  rw[take_snoc bG,cj]
  rfl
 ·rintro ds hl' rfl
  rw[ak,eV]
  walk_at "dt"
  exact q _
def wj:Nat->PyData->Prop
 |0,_=>False
 |n+1,d=>ig d=true\/∃ds,(d= .list ds\/d= .tuple ds)/\ds.length<=10000/\∀e∈ds,wj n e
def oU(n:Nat):DF:=fun ds Φ=>∃d,ds=[d,d]/\wj n d/\Φ true (.bool true)
theorem qJ(n:Nat):eN (oU n):=fun ds Φ Ψ ⟨d,e,h,q⟩ z=>⟨d,e,h,z _ _ q⟩
theorem Nm:∀vs H Q E,¬dh 2 (oU 0) vs H Q E:=fun vs H Q E ⟨_,_,_,_,_,d,_,h,_⟩=>h
theorem Pz:dR ["found","due"] ["found","due"] (aO ud):=⟨rfl,rfl,rfl,by decide+kernel,rfl,by decide+kernel,by decide+kernel⟩
theorem vN(n:Nat)(F:cQ K "_law_alike" "_law_alike" ud f fd)(p6:Callee P w K mg base "_law_alike" (n) ["found","due"] (dh 2 (oU n)))(ie:mg "isinstance"=none)(cZ:mg "list"=none)(nU:mg "tuple"=none)(qV:mg "all"=none)(cg:mg "len"=none)(oA:mg "bool"=none)(nQ:mg "int"=none)(nZ:mg "str"=none)(bK:mg "range"=none):
  cI P w K mg base cP (n+1) f fd ["found","due"] (dh 2 (oU (n+1))):=by
 refine F.ok Pz (fun vs H Q E h=>h.1) (fun cdv A outer s H vs Q E hr h=>?_)
 obtain⟨nb,ds,Φ,hlive,hds,aW,hF⟩:=mh h
 obtain⟨d,rfl,hok,q⟩:=hF
 refine⟨_,(@aD _ _ _ _ _ (@eE _ _ _ _ _ _ _ _ (@m6 _ (K) _ _ rfl (@bN _ _ _ _ _ _ _ _ (uX) DL rfl ie j7 (@aa _ _ _ _ _ (pv 1) (@aa _ _ _ _ _ (@jl _ _ _ _ _ (@aa _ _ _ _ _ (iY (v:= .ty "list") rfl cZ jo rfl) (@aa _ _ _ _ _ (iY (v:= .ty "tuple") rfl nU Hl rfl) aj rfl) rfl)) aj rfl) rfl) (by decide) (by decide) (by rfl) (by rfl)) (fun _=>rfl)) (@aD _ _ _ _ _ (@eE _ _ _ _ _ _ _ _ (PW.pt (mG (@HE _ _ _ _ (@m6 _ (K) _ _ rfl (@bN _ _ _ _ _ _ _ _ (uX) DL rfl ie j7 (@aa _ _ _ _ _ (pv 0) (@aa _ _ _ _ _ (@jl _ _ _ _ _ (@aa _ _ _ _ _ (iY (v:= .ty "list") rfl cZ jo rfl) (@aa _ _ _ _ _ (iY (v:= .ty "tuple") rfl nU Hl rfl) aj rfl) rfl)) aj rfl) rfl) (by decide) (by decide) (by rfl) (by rfl)) (fun _=>rfl))) (oW (@bA _ _ _ _ _ _ _ _ tW (@bN _ _ _ _ _ _ _ _ (jS K) lu rfl ie j7 (@aa _ _ _ _ _ (pv 0) (@aa _ _ _ _ _ (iY (v:= .ty "list") rfl cZ jo rfl) aj rfl) rfl) (by decide) (by decide) (by rfl) (by rfl)) (@bN _ _ _ _ _ _ _ _ (jS K) lu rfl ie j7 (@aa _ _ _ _ _ (pv 1) (@aa _ _ _ _ _ (iY (v:= .ty "list") rfl cZ jo rfl) aj rfl) rfl) (by decide) (by decide) (by rfl) (by rfl)) (bX _))))) (@aM _ _ _ (@cA _ _ _ _ kM)) fj) (@aD _ _ _ _ _ (@eE _ _ _ _ _ _ _ _ (@bA _ _ _ _ _ _ _ _ tW (@bN _ _ _ _ _ _ _ _ (eT K) gF rfl cg fK (@aa _ _ _ _ _ (pv 0) aj rfl) (by decide) (by decide) (by rfl) (by rfl)) (@bN _ _ _ _ _ _ _ _ (eT K) gF rfl cg fK (@aa _ _ _ _ _ (pv 1) aj rfl) (by decide) (by decide) (by rfl) (by rfl)) (bX _)) (@aM _ _ _ (@cA _ _ _ _ kM)) fj) (@aM _ _ _ (@cA _ _ _ _ (@bN _ _ _ _ _ _ _ _ (xR K) (JM rfl) rfl qV PyProof.Rows.boot_all (@aa _ _ _ _ _ (eX (bM.of (show cU (aO ud) ["found","due"] _ ["k","found","due"] [none,some 0,some 1]=true by decide+kernel)) (@iI _ _ _ _ _ _ rfl bK (@aa _ _ _ _ _ (@bN _ _ _ _ _ _ _ _ (eT K) gF rfl cg fK (@aa _ _ _ _ _ (pv 1) aj rfl) (by decide) (by decide) (by rfl) (by rfl)) aj rfl) (by rfl)) (fun _ _ _ _=>⟨(aY (i:=0) (by show List.Nodup (["k","found","due"]:List Str);decide+kernel) rfl (Or.inl rfl)),gU,(@aN _ _ _ _ _ _ _ _ _ _ p6 (hr.mono (aA _)) (@aa _ _ _ _ _ (@aP _ _ _ _ _ _ (tS K) E5 (pv 1) (pv 0) (fun _ _=>rfl)) (@aa _ _ _ _ _ (@aP _ _ _ _ _ _ (tS K) E5 (pv 2) (pv 0) (fun _ _=>rfl)) aj rfl) rfl) (by rfl) (by decide) (by rfl) (by rfl))⟩)) aj rfl) (by decide) (by decide) (by rfl) (by rfl)))))) fj) (@aD _ _ _ _ _ (@eE _ _ _ _ _ _ _ _ (PW.pt (mG (@bA _ _ _ _ _ _ _ _ tW (@bN _ _ _ _ _ _ _ _ (jS K) lu rfl ie j7 (@aa _ _ _ _ _ (pv 0) (@aa _ _ _ _ _ (iY (v:= .ty "bool") rfl oA FA rfl) aj rfl) rfl) (by decide) (by decide) (by rfl) (by rfl)) (@bN _ _ _ _ _ _ _ _ (jS K) lu rfl ie j7 (@aa _ _ _ _ _ (pv 1) (@aa _ _ _ _ _ (iY (v:= .ty "bool") rfl oA FA rfl) aj rfl) rfl) (by decide) (by decide) (by rfl) (by rfl)) (bX _)) (oW (@bA _ _ _ _ _ _ _ _ tW (@bN _ _ _ _ _ _ _ _ (jS K) lu rfl ie j7 (@aa _ _ _ _ _ (pv 0) (@aa _ _ _ _ _ (iY (v:= .ty "int") rfl nQ HA rfl) aj rfl) rfl) (by decide) (by decide) (by rfl) (by rfl)) (@bN _ _ _ _ _ _ _ _ (jS K) lu rfl ie j7 (@aa _ _ _ _ _ (pv 1) (@aa _ _ _ _ _ (iY (v:= .ty "int") rfl nQ HA rfl) aj rfl) rfl) (by decide) (by decide) (by rfl) (by rfl)) (bX _))))) (@aM _ _ _ (@cA _ _ _ _ kM)) fj) (@aM _ _ _ (@cA _ _ _ _ (@Az _ _ _ _ _ _ _ (@xq _ _ _ _ _ _ _ _ fW (@bN _ _ _ _ _ _ _ _ (jS K) lu rfl ie j7 (@aa _ _ _ _ _ (pv 0) (@aa _ _ _ _ _ (iY (v:= .ty "str") rfl nZ BS rfl) aj rfl) rfl) (by decide) (by decide) (by rfl) (by rfl)) (@bN _ _ _ _ _ _ _ _ (jS K) lu rfl ie j7 (@aa _ _ _ _ _ (pv 1) (@aa _ _ _ _ _ (iY (v:= .ty "str") rfl nZ BS rfl) aj rfl) rfl) (by decide) (by decide) (by rfl) (by rfl)) (bX _)) (@xV _ _ _ _ _ (@xq _ _ _ _ _ _ _ _ fW (pv 0) (pv 1) (bX _)))))))),?_⟩
 refine Sv.l9 hlive hds aW (ρ:=[.d false _, .d false _]) rfl ?_
 clear aW hds
 walk_at "dt"
 rcases hok with hs|⟨ds,hd,hl,he⟩
 ·have h1:(gX d "list" ||gX d "tuple")=false:=by cases d<;>first|rfl|cases hs
  rw[h1]
  walk_at "dt"
  rw[beq_self_eq_true]
  walk_at "dt"
  rw[beq_self_eq_true]
  walk_at "dt"
  rw[beq_self_eq_true]
  walk_at "dt"
  exact⟨true, .self hs,q⟩
 rcases hd with rfl|rfl
 ·rw[(Bu ds).1,(Bu ds).2,Bool.true_or]
  walk_at "dt"
  refine ay.ev (ay.kr (by decide) rfl ?_)
  walk_at "dt"
  refine⟨true,fun i es=>es=List.replicate i (.bool true),rfl,?_,?_⟩
  ·rintro i d' es ⟨hi,rfl⟩ hl' rfl
   have hi':i<ds.length:=by omega
   have hat:bh ds (0+(i:Int))=some ds[i]:=jw (by omega) (by rw[show(0+(i:Int)).toNat=i by omega];exact aR hi')
   walk_at "dt"
   refine⟨by walk_at "wk",?_⟩
   walk_at "dt"
   refine Ev.fR (qJ n) ?_
   walk_at "dt"
   refine⟨rfl,ds[i],rfl,he _ (jk hi'),fun _=>rfl,?_⟩
   show _=List.replicate (i+1) _
   rw[Bo]
  ·rintro es hl' rfl
   refine⟨List.replicate ds.length true,by simp,?_⟩
   rw[show(List.replicate ds.length true).all id=true by simp]
   exact q
 ·rw[(Dm ds).1,(Dm ds).2,qT]
  walk_at "dt"
  refine ay.ev (ay.kr (by decide) rfl ?_)
  walk_at "dt"
  refine⟨true,fun i es=>es=List.replicate i (.bool true),rfl,?_,?_⟩
  ·rintro i d' es ⟨hi,rfl⟩ hl' rfl
   have hi':i<ds.length:=by omega
   have hat:bh ds (0+(i:Int))=some ds[i]:=jw (by omega) (by rw[show(0+(i:Int)).toNat=i by omega];exact aR hi')
   walk_at "dt"
   refine⟨by walk_at "wk",?_⟩
   walk_at "dt"
   refine Ev.fR (qJ n) ?_
   walk_at "dt"
   refine⟨rfl,ds[i],rfl,he _ (jk hi'),fun _=>rfl,?_⟩
   show _=List.replicate (i+1) _
   rw[Bo]
  ·rintro es hl' rfl
   refine⟨List.replicate ds.length true,by simp,?_⟩
   rw[show(List.replicate ds.length true).all id=true by simp]
   exact q
def uh:DF:=fun ds Φ=>∃(p n:Int) (cs:List aB) (ai due:List Int),ds=[gC p n cs, .list (ai.map .int), .list (due.map .int)]/\rm n cs/\cC n ai/\(∀prs∈cs,prs.length<=10000)/\fk cs ai due/\Φ true (.bool true)
theorem FP:eN uh:=by
 intro ds Φ Ψ hm z
 obtain⟨p,n,cs,ai,due,e,h1,h2,h3,h4,q⟩:=hm
 exact⟨p,n,cs,ai,due,e,h1,h2,h3,h4,z _ _ q⟩
theorem Dp{cs:List aB}{ai g:List Int}(h:fk cs ai g):fk cs g g:=⟨⟨fun _=>true,(yH.mpr fun _ _=>rfl).symm⟩,h.out,fun _ h _ x hx=>h x hx⟩
theorem Ac:dR ["net","lot","due","handed","found"] ["net","lot","due"] (aO xw):=⟨rfl,rfl,rfl,by decide+kernel,rfl,by decide+kernel,by decide+kernel⟩
theorem RL(F:cQ K "_law_told" "_law_told" xw f fd)(zj:Callee P w K mg base "greatest" 2 ["net","lot"] (dh 2 sr))(IA:Callee P w K mg base "_law_copy" 1 ["net"] (dh 1 z0))(p6:Callee P w K mg base "_law_alike" 3 ["found","due"] (dh 2 (oU 3)))(cZ:mg "list"=none):
  cI P w K mg base cP 4 f fd ["net","lot","due"] (dh 3 uh):=by
 refine F.ok Ac (fun vs H Q E h=>h.1) (fun cdv A outer s H vs Q E hr h=>?_)
 obtain⟨nb,ds,Φ,hlive,hds,aW,hF⟩:=mh h
 obtain⟨p,n,cs,ai,due,rfl,hN,hL,hpl,hG,q⟩:=hF
 refine⟨_,(@aD _ _ _ _ _ (@bO _ _ (3) _ _ _ _ Ac.nd rfl (Or.inl rfl) (@jl _ _ _ _ _ (@aa _ _ _ _ _ (@aN _ _ _ _ _ _ _ _ _ _ IA (hr.mono (by decide)) (@aa _ _ _ _ _ (pv 0) aj rfl) (by rfl) (by decide) (by rfl) (by rfl)) (@aa _ _ _ _ _ (@iU _ _ _ _ _ _ _ _ (l7 K) pO rfl cZ jo (@aa _ _ _ _ _ (pv 1) aj rfl) (by decide) (by decide) (by rfl) (by rfl)) aj rfl) rfl)) (by rfl) (by first|exact .inl rfl|exact .inr rfl|assumption)) (@aD _ _ _ _ _ (@bO _ _ (4) _ _ _ _ Ac.nd rfl (Or.inl rfl) (@aN _ _ _ _ _ _ _ _ _ _ zj (hr.mono (by decide)) (@aa _ _ _ _ _ (@aP _ _ _ _ _ _ (dZ K) fX (pv 3) ao (fun _ _=>rfl)) (@aa _ _ _ _ _ (@aP _ _ _ _ _ _ (dZ K) fX (pv 3) ao (fun _ _=>rfl)) aj rfl) rfl) (by rfl) (by decide) (by rfl) (by rfl)) (by rfl) (by first|exact .inl rfl|exact .inr rfl|assumption)) (@aD _ _ _ _ _ (@eE _ _ _ _ _ _ _ _ (PW.pt (mG (@HE _ _ _ _ (@m6 _ (K) _ _ rfl (@aN _ _ _ _ _ _ _ _ _ _ p6 (hr.mono (by decide)) (@aa _ _ _ _ _ (pv 4) (@aa _ _ _ _ _ (pv 2) aj rfl) rfl) (by rfl) (by decide) (by rfl) (by rfl)) (fun _=>rfl))) (mG (@bA _ _ _ _ _ _ _ _ (qD hr.units) (@aP _ _ _ _ _ _ (dZ K) fX (pv 3) ao (fun _ _=>rfl)) (pv 0) (bX _)) (oW (@bA _ _ _ _ _ _ _ _ (qD hr.units) (@aP _ _ _ _ _ _ (dZ K) fX (pv 3) ao (fun _ _=>rfl)) (pv 1) (bX _)))))) (@aM _ _ _ (@cA _ _ _ _ kM)) fj) (@aD _ _ _ _ _ (@jb _ _ _ _ (iK iX lX lR kG (pv 4) (@aa _ _ _ _ _ ao aj rfl)) (by rfl)) (@aM _ _ _ (@cA _ _ _ _ (@Az _ _ _ _ _ _ _ (@aN _ _ _ _ _ _ _ _ _ _ p6 (hr.mono (by decide)) (@aa _ _ _ _ _ (@aN _ _ _ _ _ _ _ _ _ _ zj (hr.mono (by decide)) (@aa _ _ _ _ _ (@aP _ _ _ _ _ _ (dZ K) fX (pv 3) ao (fun _ _=>rfl)) (@aa _ _ _ _ _ (@iU _ _ _ _ _ _ _ _ (l7 K) pO rfl cZ jo (@aa _ _ _ _ _ (pv 2) aj rfl) (by decide) (by decide) (by rfl) (by rfl)) aj rfl) rfl) (by rfl) (by decide) (by rfl) (by rfl)) (@aa _ _ _ _ _ (pv 2) aj rfl) rfl) (by rfl) (by decide) (by rfl) (by rfl)) (@xV _ _ _ _ _ (@aN _ _ _ _ _ _ _ _ _ _ p6 (hr.mono (by decide)) (@aa _ _ _ _ _ (@aN _ _ _ _ _ _ _ _ _ _ zj (hr.mono (by decide)) (@aa _ _ _ _ _ (@aP _ _ _ _ _ _ (dZ K) fX (pv 3) ao (fun _ _=>rfl)) (@aa _ _ _ _ _ (@aP _ _ _ _ _ _ (dZ K) fX (pv 3) ao (fun _ _=>rfl)) aj rfl) rfl) (by rfl) (by decide) (by rfl) (by rfl)) (@aa _ _ _ _ _ (pv 2) aj rfl) rfl) (by rfl) (by decide) (by rfl) (by rfl)))))))))),?_⟩
 refine Sv.l9 hlive hds aW (ρ:=[.d false _, .d false _, .d false _, .no, .no]) rfl ?_
 clear aW hds
 have hcl:cs.length<=400:=hN.cl
 have hD:cC n due:=hG.ai hL
 generalize Oo:(oB (jf (gb (dh 2 sr) _ _ _) _) _:TS)=tl
 walk_at "dt"
 refine Ev.fR O8 ?_
 walk_at "dt"
 refine⟨rfl,p,n,cs,rfl,by omega,fun fc=>?_⟩
 walk_at "dt"
 subst Oo
 refine Sv.seq ?_
 refine Sv.QH (iS.fR xF ?_)
 walk_at "dt"
 refine⟨rfl,p,n,cs,ai,rfl,hN,hL,hpl,fun g hg=>⟨rfl, .inl ⟨_,rfl,fun A4=>?_⟩⟩⟩
 cases hg.uniq hG
 have hdl:due.length<=400:=hD.len hN.n1
 have hal:wj 3 (.list (due.map .int)):= .inr ⟨_, .inl rfl,by rw[ak];omega,fun e he=>by obtain⟨y,_,rfl⟩:=cY.mp he;exact .inl rfl⟩
 have hen:PyData.eqv (gC p n cs) (gC p n cs)=true:=eqv_refl _ (.inl (xy p n cs))
 refine Sv.seq ?_
 refine Sv.kK ?_
 refine Tv.lend 4 rfl ?_
 walk_at "dt"
 refine Ev.fR (qJ 3) ?_
 walk_at "dt"
 refine⟨rfl,_,rfl,hal,?_⟩
 walk_at "dt"
 refine⟨xy p n cs,xy p n cs,_,rfl,?_⟩
 rw[show PyData.eqv _ (gC p n cs)=true from hen,if_neg (by decide)]
 walk_at "dt"
 refine⟨shaped_ints ai,shaped_ints ai,_,rfl,?_⟩
 dsimp only
 rw[GN,decide_eq_true rfl,if_neg (by decide)]
 walk_at "dt"
 refine⟨by rw[ak];omega,?_⟩
 walk_at "dt"
 refine Ev.fR (qJ 3) ?_
 walk_at "dt"
 refine Ev.fR xF ?_
 walk_at "dt"
 refine⟨rfl,p,n,cs,due,rfl,hN,hD,hpl,fun g hg=>?_⟩
 cases hg.uniq (Dp hG)
 walk_at "dt"
 refine⟨rfl,_,rfl,hal,?_⟩
 walk_at "dt"
 refine Ev.fR (qJ 3) ?_
 walk_at "dt"
 refine Ev.fR xF ?_
 walk_at "dt"
 refine⟨rfl,p,n,cs,ai,rfl,hN,hL,hpl,fun g hg=>?_⟩
 cases hg.uniq hG
 walk_at "dt"
 refine⟨rfl,_,rfl,hal,?_⟩
 exact q
def xJ:DF:=fun ds Φ=>ds=[]/\Φ true (.bool true)
theorem KU:eN xJ:=by
 intro ds Φ Ψ hm z
 obtain⟨e,q⟩:=hm
 exact⟨e,z _ _ q⟩
theorem gW:dR ["bag","size","often","p","row","checks","gone","pieces","k","single","due","piece","lot"] ["bag"] (aO kY):=⟨rfl,rfl,rfl,by decide+kernel,rfl,by decide+kernel,by decide+kernel⟩
theorem Rr(F:cQ K "_law_row_right" "_law_row_right" kY f fd)(yb:Callee P w K mg base "_law_prime" 2 ["bag"] uO)(EF:Callee P w K mg base "_law_turned" 2 ["bag","row"] (eO 2 xY))(vm:Callee P w K mg base "_law_told" 4 ["net","lot","due"] (dh 3 uh))(bV:Callee P w K mg base "_law_draw" 1 ["bag","many"] gQ)(qw:Callee P w K mg base "_law_factor" 2 ["bag","p"] (eO 2 rS))(bK:mg "range"=none)(cZ:mg "list"=none)(fY:mg "sorted"=none):
  cI P w K mg base cP 5 f fd ["bag"] (eO 1 xJ):=by
 refine F.ok gW (fun vs H Q E h=>h.1) (fun cdv A outer s H vs Q E hr h=>?_)
 obtain⟨b,l,ws,nb,ds,Φ,rfl,hB,hlive,hnb,hds,aW,hF⟩:=nA h
 obtain⟨rfl,q⟩:=hF
 refine⟨_,(@aD _ _ _ _ _ (@bO _ _ (1) _ _ _ _ gW.nd rfl (Or.inr rfl) (@aV _ _ _ _ _ _ _ _ eK ao (@aN _ _ _ _ _ _ _ _ _ _ bV (hr.mono (by decide)) (@aa _ _ _ _ _ (pv 0) (@aa _ _ _ _ _ (@aP _ _ _ _ _ _ (cO K) bP (@dS _ _ _ _ (@aa _ _ _ _ _ ao (@aa _ _ _ _ _ ao aj rfl) rfl)) (@aV _ _ _ _ _ _ _ _ qE (@aN _ _ _ _ _ _ _ _ _ _ bV (hr.mono (by decide)) (@aa _ _ _ _ _ (pv 0) (@aa _ _ _ _ _ ao aj rfl) rfl) (by rfl) (by decide) (by rfl) (by rfl)) ao) (fun _ _=>rfl)) aj rfl) rfl) (by rfl) (by decide) (by rfl) (by rfl))) (by rfl) (by first|exact .inl rfl|exact .inr rfl|assumption)) (@aD _ _ _ _ _ (@bO _ _ (2) _ _ _ _ gW.nd rfl (Or.inl rfl) (@aP _ _ _ _ _ _ (cO K) bP (@dS _ _ _ _ (@aa _ _ _ _ _ ao (@aa _ _ _ _ _ ao (@aa _ _ _ _ _ (@aV _ _ _ _ _ _ _ _ eK (pv 1) ao) aj rfl) rfl) rfl)) (@aN _ _ _ _ _ _ _ _ _ _ bV (hr.mono (by decide)) (@aa _ _ _ _ _ (pv 0) (@aa _ _ _ _ _ ao aj rfl) rfl) (by rfl) (by decide) (by rfl) (by rfl)) (fun _ _=>rfl)) (by rfl) (by first|exact .inl rfl|exact .inr rfl|assumption)) (@aD _ _ _ _ _ (@bO _ _ (3) _ _ _ _ gW.nd rfl (Or.inr rfl) (@aN _ _ _ _ _ _ _ _ _ _ yb (hr.mono (by decide)) (@aa _ _ _ _ _ (pv 0) aj rfl) (by rfl) (by decide) (by rfl) (by rfl)) (by rfl) (by first|exact .inl rfl|exact .inr rfl|assumption)) (@aD _ _ _ _ _ (@bO _ _ (4) _ _ _ _ gW.nd rfl (Or.inr rfl) (@aN _ _ _ _ _ _ _ _ _ _ EF (hr.mono (by decide)) (@aa _ _ _ _ _ (pv 0) (@aa _ _ _ _ _ (@iU _ _ _ _ _ _ _ _ _ (DH rfl) rfl cZ jo (@aa _ _ _ _ _ (@iU _ _ _ _ _ _ _ _ _ Hy rfl bK Fw (@aa _ _ _ _ _ (pv 1) aj rfl) (by decide) (by decide) (by rfl) (by rfl)) aj rfl) (by decide) (by decide) (by rfl) (by rfl)) aj rfl) rfl) (by rfl) (by decide) (by rfl) (by rfl)) (by rfl) (by first|exact .inl rfl|exact .inr rfl|assumption)) (@aD _ _ _ _ _ (@bO _ _ (5) _ _ _ _ gW.nd rfl (Or.inl rfl) (@dS _ _ _ _ aj) (by rfl) (by first|exact .inl rfl|exact .inr rfl|assumption)) (@aD _ _ _ _ _ (@bO _ _ (6) _ _ _ _ gW.nd rfl (Or.inr rfl) (eX (bM.of (show cU (aO kY) ["bag","size","often","p","row","checks","gone","pieces","k","single","due","piece","lot"] _ ["k","bag","size","row"] [none,some 0,some 1,some 4]=true by decide+kernel)) (@iI _ _ _ _ _ _ rfl bK (@aa _ _ _ _ _ (@aN _ _ _ _ _ _ _ _ _ _ bV (hr.mono (by decide)) (@aa _ _ _ _ _ (pv 0) (@aa _ _ _ _ _ ao aj rfl) rfl) (by rfl) (by decide) (by rfl) (by rfl)) aj rfl) (by rfl)) (fun _ _ _ _=>⟨(aY (i:=0) (by show List.Nodup (["k","bag","size","row"]:List Str);decide+kernel) rfl (Or.inl rfl)),gU,(@aP _ _ _ _ _ _ (cO K) bP (pv 3) (@aN _ _ _ _ _ _ _ _ _ _ bV (hr.mono (by decide)) (@aa _ _ _ _ _ (pv 1) (@aa _ _ _ _ _ (pv 2) aj rfl) rfl) (by rfl) (by decide) (by rfl) (by rfl)) (fun _ _=>rfl))⟩)) (by rfl) (by first|exact .inl rfl|exact .inr rfl|assumption)) (@aD _ _ _ _ _ (@bO _ _ (7) _ _ _ _ gW.nd rfl (Or.inl rfl) (@dS _ _ _ _ aj) (by rfl) (by first|exact .inl rfl|exact .inr rfl|assumption)) (@aD _ _ _ _ _ (@gZ _ _ _ _ _ _ _ _ gy rfl (@iI _ _ _ _ _ _ rfl bK (@aa _ _ _ _ _ (pv 1) aj rfl) (by rfl)) (aY (i:=8) gW.nd rfl (Or.inl rfl)) (@aD _ _ _ _ _ (@eE _ _ _ _ _ _ _ _ (PW.pt (mG (@bA _ _ _ _ _ _ _ _ fW (pv 8) ao (bX _)) (oW (@bA _ _ _ _ _ _ _ _ fW (@aN _ _ _ _ _ _ _ _ _ _ bV (hr.mono (by decide)) (@aa _ _ _ _ _ (pv 0) (@aa _ _ _ _ _ (pv 2) aj rfl) rfl) (by rfl) (by decide) (by rfl) (by rfl)) ao (bX _))))) (@aM _ _ _ (@jb _ _ _ _ (iK iX lX lR kG (pv 7) (@aa _ _ _ _ _ (@dS _ _ _ _ aj) aj rfl)) (by rfl))) (@aM _ _ _ (@eE _ _ _ _ _ _ _ _ (@bA _ _ _ _ _ _ _ _ EW (pv 8) ao (bX _)) (@aM _ _ _ (@jb _ _ _ _ (iK iX lX lR kG (pv 5) (@aa _ _ _ _ _ (@bN _ _ _ _ _ _ _ _ (z7 K) Rn rfl fY m5 (@aa _ _ _ _ _ (@dS _ _ _ _ (@aa _ _ _ _ _ (@jl _ _ _ _ _ (@aa _ _ _ _ _ (@aP _ _ _ _ _ _ (cO K) bP (pv 4) (@aV _ _ _ _ _ _ _ _ pI (pv 8) ao) (fun _ _=>rfl)) (@aa _ _ _ _ _ (@aN _ _ _ _ _ _ _ _ _ _ qw (hr.mono (by decide)) (@aa _ _ _ _ _ (pv 0) (@aa _ _ _ _ _ (pv 3) aj rfl) rfl) (by rfl) (by decide) (by rfl) (by rfl)) aj rfl) rfl)) (@aa _ _ _ _ _ (@jl _ _ _ _ _ (@aa _ _ _ _ _ (@aP _ _ _ _ _ _ (cO K) bP (pv 4) (pv 8) (fun _ _=>rfl)) (@aa _ _ _ _ _ (@aN _ _ _ _ _ _ _ _ _ _ qw (hr.mono (by decide)) (@aa _ _ _ _ _ (pv 0) (@aa _ _ _ _ _ (pv 3) aj rfl) rfl) (by rfl) (by decide) (by rfl) (by rfl)) aj rfl) rfl)) aj rfl) rfl)) aj rfl) (by decide) (by decide) (by rfl) (by rfl)) aj rfl)) (by rfl))) fj))) (@aM _ _ _ (@jb _ _ _ _ (iK iX lX lR kG (@aP _ _ _ _ _ _ (cO K) bP (pv 7) (@Rj _ _ _ _ _ _ Qo ao) (fun _ _=>rfl)) (@aa _ _ _ _ _ (@aP _ _ _ _ _ _ (cO K) bP (pv 4) (pv 8) (fun _ _=>rfl)) aj rfl)) (by rfl)))) (by intro _;rfl)) (@aD _ _ _ _ _ (@bO _ _ (9) _ _ _ _ gW.nd rfl (Or.inr rfl) (eX (bM.of (show cU (aO kY) ["bag","size","often","p","row","checks","gone","pieces","k","single","due","piece","lot"] _ ["k","bag","size","row"] [none,some 0,some 1,some 4]=true by decide+kernel)) (@iI _ _ _ _ _ _ rfl bK (@aa _ _ _ _ _ (@aN _ _ _ _ _ _ _ _ _ _ bV (hr.mono (by decide)) (@aa _ _ _ _ _ (pv 0) (@aa _ _ _ _ _ ao aj rfl) rfl) (by rfl) (by decide) (by rfl) (by rfl)) aj rfl) (by rfl)) (fun _ _ _ _=>⟨(aY (i:=0) (by show List.Nodup (["k","bag","size","row"]:List Str);decide+kernel) rfl (Or.inl rfl)),gU,(@aP _ _ _ _ _ _ (cO K) bP (pv 3) (@aN _ _ _ _ _ _ _ _ _ _ bV (hr.mono (by decide)) (@aa _ _ _ _ _ (pv 1) (@aa _ _ _ _ _ (pv 2) aj rfl) rfl) (by rfl) (by decide) (by rfl) (by rfl)) (fun _ _=>rfl))⟩)) (by rfl) (by first|exact .inl rfl|exact .inr rfl|assumption)) (@aD _ _ _ _ _ (@bO _ _ (5) _ _ _ _ gW.nd rfl (Or.inl rfl) (@aV _ _ _ _ _ _ _ _ uR (pv 5) (eX (bM.of (show cU (aO kY) ["bag","size","often","p","row","checks","gone","pieces","k","single","due","piece","lot"] _ ["place","bag","p"] [none,some 0,some 3]=true by decide+kernel)) (dG (K:=K) rfl (pv 9)) (fun _ _ _ _=>⟨(aY (i:=0) (by show List.Nodup (["place","bag","p"]:List Str);decide+kernel) rfl (Or.inl rfl)),gU,(@dS _ _ _ _ (@aa _ _ _ _ _ (@jl _ _ _ _ _ (@aa _ _ _ _ _ (pv 0) (@aa _ _ _ _ _ (@aN _ _ _ _ _ _ _ _ _ _ qw (hr.mono (by decide)) (@aa _ _ _ _ _ (pv 1) (@aa _ _ _ _ _ (pv 2) aj rfl) rfl) (by rfl) (by decide) (by rfl) (by rfl)) aj rfl) rfl)) aj rfl))⟩))) (by rfl) (by first|exact .inl rfl|exact .inr rfl|assumption)) (@aD _ _ _ _ _ (@bO _ _ (10) _ _ _ _ gW.nd rfl (Or.inl rfl) (@dS _ _ _ _ aj) (by rfl) (by first|exact .inl rfl|exact .inr rfl|assumption)) (@aD _ _ _ _ _ (@gZ _ _ _ _ _ _ _ _ gy rfl (dG (K:=K) rfl (pv 7)) (aY (i:=11) gW.nd rfl (Or.inl rfl)) (@aM _ _ _ (@eE _ _ _ _ _ _ _ _ (@bA _ _ _ _ _ _ _ _ (Ak hr.units) (eX (bM.of (show cU (aO kY) ["bag","size","often","p","row","checks","gone","pieces","k","single","due","piece","lot"] _ ["place","gone","single"] [none,some 6,some 9]=true by decide+kernel)) (dG (K:=K) rfl (pv 11)) (fun _ _ _ _=>⟨(aY (i:=0) (by show List.Nodup (["place","gone","single"]:List Str);decide+kernel) rfl (Or.inl rfl)),(gR (PW.pt (mG (bA (uE (K:=K) (by rfl)) (pv 0) (pv 2) (by with_unfolding_all rfl)) (oW (bA (uE (K:=K) (by rfl)) (pv 0) (pv 1) (by with_unfolding_all rfl)))))),(pv 0)⟩)) (@dS _ _ _ _ aj) (bX _)) (@aM _ _ _ (@jb _ _ _ _ (iK iX PySem.F.slot_list_extend PySem.F.type_list_extend L1 (pv 10) (@aa _ _ _ _ _ (pv 11) aj rfl)) (by rfl))) fj)) (by intro _;rfl)) (@aD _ _ _ _ _ (lZ (i:=12) gW.nd rfl rfl (bM.of (show cU (aO kY) ["bag","size","often","p","row","checks","gone","pieces","k","single","due","piece","lot"] _ ["place","gone"] [none,some 6]=true by decide+kernel)) (@iI _ _ _ _ _ _ rfl bK (@aa _ _ _ _ _ (pv 1) aj rfl) (by rfl)) (fun _ _ _ _=>⟨(aY (i:=0) (by show List.Nodup (["place","gone"]:List Str);decide+kernel) rfl (Or.inl rfl)),(gR (bA (w6 (K:=K) (by rfl)) (pv 0) (pv 1) (by with_unfolding_all rfl))),(pv 0)⟩)) (@aM _ _ _ (@cA _ _ _ _ (@aN _ _ _ _ _ _ _ _ _ _ vm (hr.mono (by decide)) (@aa _ _ _ _ _ (@jl _ _ _ _ _ (@aa _ _ _ _ _ (pv 3) (@aa _ _ _ _ _ (pv 1) (@aa _ _ _ _ _ (@aN _ _ _ _ _ _ _ _ _ _ EF (hr.mono (by decide)) (@aa _ _ _ _ _ (pv 0) (@aa _ _ _ _ _ (pv 5) aj rfl) rfl) (by rfl) (by decide) (by rfl) (by rfl)) aj rfl) rfl) rfl)) (@aa _ _ _ _ _ (pv 12) (@aa _ _ _ _ _ (@bN _ _ _ _ _ _ _ _ (xT K) Lc rfl fY m5 (@aa _ _ _ _ _ (pv 10) aj rfl) (by decide) (by decide) (by rfl) (by rfl)) aj rfl) rfl) rfl) (by rfl) (by decide) (by rfl) (by rfl))))))))))))))))),?_⟩
 refine Sv.mP hB hlive hnb hds aW (ρ:=[.az, .no, .no, .no, .no, .no, .no, .no, .no, .no, .no, .no, .no]) rfl ?_
 clear aW hds
 walk_at "dt"
 intro g0 g1 g2
 refine⟨_,rfl,Ev.int ⟨_,rfl,⟨by omega,by unfold Sm;omega⟩,_,rfl,?_⟩⟩
 refine Exists.elim (pick (L:=[30,390]) (k:=g0/7) (by omega) (by show g0/7<2;omega) (fun x=>1<=x/\x<=390) (by decide)) fun m em=>⟨_,em.1,m,rfl,by omega,by unfold Sm;omega,?_⟩
 intro n' n0' n1'
 obtain⟨n,en,n0,n1⟩:∃n:Nat,1+n'=(n:Int)/\1<=n/\n<=390:=⟨(1+n').toNat,by omega,by omega,by omega⟩
 refine⟨_,rfl,Gv.jI ?_⟩
 rw[en]
 walk_at "dt"
 intro o0 o1 o2
 obtain⟨of,eof,of0,SO⟩:∃of:Int,bh [PyData.int 2, .int 9, .int ((n:Int)+1)] o0=some (.int of)/\1<=of/\of<=400:=by
  rcases(show o0=0\/o0=1\/o0=2 by omega) with rfl|rfl|rfl
  ·exact⟨_,rfl,by omega,by omega⟩
  ·exact⟨_,rfl,by omega,by omega⟩
  ·exact⟨_,rfl,by omega,by omega⟩
 refine⟨_,rfl,_,eof,Gv.jI ?_⟩
 walk_at "dt"
 intro p hp
 obtain⟨p2,oY,_⟩:=id hp
 walk_at "dt"
 refine Ev.jg C9 rfl ?_
 walk_at "dt"
 refine ay.ev (ay.FO ?_)
 walk_at "dt"
 refine⟨rfl,_,rfl,by rw[ak,ak,o7];omega,fun f1 rs iA=>?_⟩
 obtain⟨row,rfl,hord⟩:=G7 iA _ rfl
 have hrm:∀x,x∈row↔0<=x/\x<(n:Int):=fun x=>by
  rw[hord.mem_iff,cY]
  constructor
  ·rintro⟨c,hc,rfl⟩
   have:=jv.mp hc
   omega
  ·intro h
   exact⟨x.toNat,jv.mpr (by omega),by omega⟩
 have hrl:row.length=n:=by rw[hord.length_eq,ak,o7];omega
 have GW:row.Nodup:=hord.nodup_iff.mpr (z9.mpr (List.nodup_range.imp fun h=>by omega))
 have rH:∀k:Int,0<=k->k<n->∃x,row[k.toNat]?=some x/\bh (row.map PyData.int) k=some (.int x):=fun k h0 h1=>by
  have hk:row[k.toNat]?=some row[k.toNat]:=aR (by omega)
  exact⟨_,hk,jw h0 (by rw[bY,hk];rfl)⟩
 refine Gv.name ?_
 walk_at "dt"
 intro A5
 refine Sv.seq ?_
 refine Sv.asg ?_
 refine ay.ev (ay.kr (by decide) rfl ?_)
 walk_at "dt"
 intro k0 k1 k2
 walk_at "dt"
 refine gP.ints (fun x=>x∈row) ?_ fun G R3 hG=>?_
 ·rintro i d ⟨hi,rfl⟩
  walk_at "dt"
  refine⟨by walk_at "wk",?_⟩
  walk_at "dt"
  intro r r0 r1
  obtain⟨x,hx,hxa⟩:=rH r r0 r1
  exact⟨_,rfl,_,hxa,x,rfl,bZ hx⟩
 refine Gv.name ?_
 walk_at "dt"
 intro A7
 refine Sv.seq ?_
 refine Sv.Lr 7 rfl ?_
 refine Sv.Aa ?_
 walk_at "dt"
 refine⟨fun i ρ=>∃(P:List (List Int)) (C:List aB) (L:dg) (bs:List Addr) (f4 f5 f7:Bool) (x8:Sl),g9 row i P C/\gm A7 L bs P/\(0<i->P≠[])/\ρ=[.az, .d true (.int (n:Int)), .d true (.int of), .d true (.int p), .d f4 (bq row), .own A5 f5 (C.map cN), .d true (bq G), .cu (stC (.ref A7) f7 L),x8, .no, .no, .no, .no],⟨[],[],_,[],_,_,_,_,g9.nil row,gm.nil A7,(fun z=>by omega),rfl⟩,?_,?_⟩
 ·rintro i d ρ ⟨hi,rfl⟩ ⟨P,C,L,bs,f4,f5,f7,x8,hP,hL,hPn,rfl⟩
  have hin:i<n:=by omega
  obtain⟨x,hx,hxa⟩:=rH (0+(i:Int)) (by omega) (by omega)
  rw[show(0+(i:Int)).toNat=i by omega] at hx
  refine Gv.jI ?_
  refine Sv.seq ?_
  refine Sv.Jv (fun ρ'=>∃(P0:List (List Int)) (pc:List Int) (C':List aB) (L':dg) (bs':List Addr) (oV mD:Bool),gm A7 L' bs' (P0++[pc])/\g9 row (i+1) (P0++[pc++[x]]) C'/\ρ'=[.az, .d true (.int (n:Int)), .d true (.int of), .d true (.int p), .d f4 (bq row), .own A5 oV (C'.map cN), .d true (bq G), .cu (stC (.ref A7) mD L'), .d true (.int (0+(i:Int))), .no, .no, .no, .no]) ?_ ?_
  ·have new:∀(c:Addr),c∉L.map (·.1)->∃(P0:List (List Int)) (pc:List Int) (C':List aB) (L':dg) (bs':List Addr) (oV mD:Bool),gm A7 L' bs' (P0++[pc])/\g9 row (i+1) (P0++[pc++[x]]) C'/\[Sl.az, .d true (.int (n:Int)), .d true (.int of), .d true (.int p), .d f4 (bq row), .own A5 f5 (C.map cN), .d true (bq G), .cu (stC (.ref A7) f7 ((c, .lst [])::eY L A7 (.lst (bs.map .own++[.own c])))), .d true (.int (0+(i:Int))), .no, .no, .no, .no]=[.az, .d true (.int (n:Int)), .d true (.int of), .d true (.int p), .d f4 (bq row), .own A5 oV (C'.map cN), .d true (bq G), .cu (stC (.ref A7) mD L'), .d true (.int (0+(i:Int))), .no, .no, .no, .no]:=fun c hc=>⟨P,[],C,_,_,_,_,hL.new hc,hP.new hx,rfl⟩
   have Du:(bs.map Oi.own).length<10000:=by
    have h5:=hP.cl
    have h6:=hL.ln
    rw[ak];omega
   walk_at "dt"
   by_cases c0:(0+(i:Int))=0
   ·rw[if_pos (by simpa using c0)]
    walk_at "dt"
    refine Sv.EO (i:=7) (v:= .ref A7) (f:=f7) (L:=L) rfl (jE.root (i:=7) (f:=f7) (L:=L) rfl ⟨_,hL.rt,Du,fun c hc=>?_⟩)
    exact new c hc
   rw[if_neg (by simpa using c0)]
   walk_at "dt"
   intro y y0 y1
   walk_at "dt"
   by_cases c1:y=0
   ·rw[if_pos (by simpa using c1)]
    walk_at "dt"
    refine Sv.EO (i:=7) (v:= .ref A7) (f:=f7) (L:=L) rfl (jE.root (i:=7) (f:=f7) (L:=L) rfl ⟨_,hL.rt,Du,fun c hc=>?_⟩)
    exact new c hc
   rw[if_neg (by simpa using c1)]
   walk_at "dt"
   obtain⟨z,hz,Si⟩:=rH (0+(i:Int)-1) (by omega) (by omega)
   rw[show(0+(i:Int)-1).toNat=i-1 by omega] at hz
   refine ay.ev (ay.Qz ?_)
   walk_at "dt"
   refine Ev.jg u7 rfl ?_
   walk_at "dt"
   refine⟨rfl,p,rfl,p2,oY,fun u=>?_⟩
   walk_at "dt"
   refine Ev.jg u7 rfl ?_
   walk_at "dt"
   refine⟨rfl,p,rfl,p2,oY,fun u2=>?_⟩
   walk_at "dt"
   refine⟨[(z,u),(x,u2)],rfl,by show 2<64;omega,fun cs' g Ny=>?_⟩
   refine⟨by rw[ak];have:=hP.cl;omega,?_⟩
   obtain⟨P0,pc,rfl⟩:∃P0 pc,P=P0++[pc]:=by
    have:=hPn (by omega)
    exact⟨P.dropLast,P.getLast this,(List.dropLast_concat_getLast this).symm⟩
   refine⟨P0,pc,C++[cs'],L,bs,_,_,hL,hP.app hx hz ?_,by rw[cj];rfl⟩
   exact Ny.map (·.1)
  ·rintro ρ' ⟨P0,pc,C',L',bs',oV,mD,hL',hP',rfl⟩
   obtain⟨b7,e7,e8,e9⟩:=hL'.last
   refine Sv.Iq (i:=7) (v:= .ref A7) (f:=mD) (L:=L') rfl (jE.tH (i:=7) (v:= .ref A7) (f:=mD) (L:=L') rfl (jE.root (i:=7) (f:=mD) (L:=L') rfl ?_))
   walk_at "dt"
   have hpl:pc.length<10000:=by
    have h5:=congrArg List.length hP'.fl
    rw[qa,bR,gG] at h5
    have h6:[pc++[x]].flatten.length=pc.length+1:=by simp
    omega
   refine⟨_,_,_,rfl,hL'.rt,e7,_,e8,by rw[ak,ak];exact hpl,?_⟩
   walk_at "dt"
   exact⟨_,C',_,bs',_,_,_,_,hP',e9 x,(fun _=>by simp),rfl⟩
 ·rintro ρ ⟨P,C,L,bs,f4,f5,f7,x8,hP,hL,hPn,rfl⟩
  rw[show((n:Int)).toNat=row.length by omega] at hP
  refine Sv.Q4 7 rfl hL.Om ?_
  refine Sv.uB 5 rfl ?_
  have Sy:P.length<=n/\C.length<=n:=by have:=hP.cl;omega
  have JY:(P.map bq).length=P.length:=ak ..
  have K5:(C.map cN).length=C.length:=ak ..
  refine Sv.seq ?_
  refine Sv.asg ?_
  refine ay.ev (ay.kr (by decide) rfl ?_)
  walk_at "dt"
  intro q0 q1 q2
  walk_at "dt"
  refine gP.ints (fun x=>x∈row) ?_ fun S GP hS=>?_
  ·rintro i d ⟨hi,rfl⟩
   walk_at "dt"
   refine⟨by walk_at "wk",?_⟩
   walk_at "dt"
   intro r r0 r1
   obtain⟨x,hx,hxa⟩:=rH r r0 r1
   exact⟨_,rfl,_,hxa,x,rfl,bZ hx⟩
  have qR:(S.map PyData.int).length=S.length:=ak ..
  refine Gv.name ?_
  refine Sv.seq ?_
  refine Sv.asg ?_
  refine Ev.cat ?_
  walk_at "dt"
  refine ay.ev (ay.gJ (by decide) rfl ?_)
  walk_at "dt"
  refine fun v=>gP.rel cN true (fun i prs=>∃z,S[i]?=some z/\prs.map (·.1)=[z]) ?_ fun C2 zA GQ=>?_
  ·rintro i d hd
   obtain⟨z,hz,rfl⟩:=dP hd
   walk_at "dt"
   refine⟨by walk_at "wk",?_⟩
   walk_at "dt"
   refine Ev.jg u7 rfl ?_
   walk_at "dt"
   refine⟨rfl,p,rfl,p2,oY,fun u=>?_⟩
   walk_at "dt"
   exact⟨fun _=>rfl,[(z,u)],rfl,z,hz,rfl⟩
  rw[qR] at zA
  refine⟨_,rfl,by rw[K5,ak,zA];omega,?_⟩
  rw[show C.map cN++C2.map cN=(C++C2).map cN from(cj ..).symm]
  refine Gv.name ?_
  walk_at "dt"
  intro A10
  refine Sv.seq ?_
  refine Sv.forL ?_
  walk_at "dt"
  have hfl:P.flatten=row:=by rw[hP.fl,eV]
  have Pf:P.flatten.Nodup:=by rw[hfl];exact GW
  have NC:∀pc∈P,pc.length<=n:=fun pc gx=>by
   obtain⟨j,hj⟩:=g6 gx
   have h5:=EL (P:=P) (j+1)
   rw[take_snoc hj,qa,bR,hfl,hrl] at h5
   have h6:[pc].flatten.length=pc.length:=by simp
   omega
  refine fun v=>⟨fun i ρ=>∃(zX p7:Bool) (yR:Sl),ρ=[.az, .d true (.int (n:Int)), .d true (.int of), .d true (.int p), .d f4 (bq row), .d zX (.list ((C++C2).map cN)), .d true (bq G), .d f7 (.list (P.map bq)),x8, .d true (bq S), .own A10 p7 (((P.take i).filter (iF S G)).flatten.map .int),yR, .no],⟨_,_,_,rfl⟩,?_,?_⟩
  ·rintro i d ρ hd ⟨zX,p7,yR,rfl⟩
   obtain⟨pc,gx,rfl⟩:=dP hd
   have hpl:=NC pc (bZ gx)
   have iA:(pc.map PyData.int).length=pc.length:=ak ..
   refine Gv.pq ?_
   walk_at "dt"
   refine ay.ev (ay.gJ (by decide) rfl ?_)
   walk_at "dt"
   refine fun v2=>⟨false,fun j es=>es=((pc.take j).filter fun y=>decide (y∈S)||decide (y∈G)).map .int,rfl,?_,?_⟩
   ·rintro j d es hd hl2 rfl
    obtain⟨y,hy,rfl⟩:=dP hd
    have fs:=pY (fun y=>decide (y∈S)||decide (y∈G)) hy
    walk_at "dt"
    refine⟨by walk_at "wk",?_⟩
    refine Tv.or ?_
    refine Tv.test ?_
    refine Ev.nJ ?_
    walk_at "dt"
    refine⟨S,rfl,_,rfl,?_⟩
    by_cases yS:y∈S
    ·rw[decide_eq_true yS,if_pos (by decide),if_pos (by decide)]
     walk_at "dt"
     show _=(((pc.take (j+1)).filter fun y=>decide (y∈S)||decide (y∈G)).map PyData.int)
     rw[fs,decide_eq_true yS];simp
    rw[decide_eq_false yS,if_neg (by decide)]
    refine Tv.test ?_
    refine Ev.nJ ?_
    walk_at "dt"
    refine⟨G,rfl,_,rfl,?_⟩
    by_cases yG:y∈G
    ·rw[decide_eq_true yG,if_pos (by decide)]
     walk_at "dt"
     show _=(((pc.take (j+1)).filter fun y=>decide (y∈S)||decide (y∈G)).map PyData.int)
     rw[fs,decide_eq_true yG];simp
    rw[decide_eq_false yG,if_neg (by decide)]
    show _=(((pc.take (j+1)).filter fun y=>decide (y∈S)||decide (y∈G)).map PyData.int)
    rw[fs,decide_eq_false yS,decide_eq_false yG];simp
   ·rintro es hl2 rfl
    rw[iA,eV]
    walk_at "dt"
    rw[k7]
    refine⟨shaped_ints _,EB,_,rfl,?_⟩
    have uF:((P.take (i+1)).filter (iF S G)).flatten=((P.take i).filter (iF S G)).flatten++if iF S G pc=true then pc else[]:=by
     rw[take_snoc gx,ux,qa]
     congr 1
     rw[i7,uJ]
     split<;>simp
    rw[show(PyData.list [])=PyData.list (([]:List Int).map .int) from rfl,GN]
    by_cases gp:iF S G pc=true
    ·rw[decide_eq_true (EI.mpr gp),if_pos (by decide)]
     refine Sv.extend rfl ?_
     walk_at "dt"
     have h5:=An (iF S G) (P.take i)
     have h6:=EL (P:=P) i
     rw[hfl,hrl] at h6
     refine⟨by rw[ak,ak];omega,?_⟩
     rw[if_pos gp] at uF
     exact⟨_,_,_,by rw[uF,cj (f:=PyData.int)];rfl⟩
    ·rw[decide_eq_false (fun z=>gp (EI.mp z)),if_neg (by decide)]
     refine Sv.next ?_
     rw[if_neg gp,iC] at uF
     exact⟨_,_,_,by rw[uF];rfl⟩
  ·rintro ρ ⟨zX,p7,yR,rfl⟩
   rw[JY,eV]
   obtain⟨D,hD⟩:∃D,(P.filter (iF S G)).flatten=D:=⟨_,rfl⟩
   have HL:D.Nodup:=by rw[<-hD];exact Px _ Pf
   have rq:D.length<=n:=by rw[<-hD];have:=An (iF S G) P;rw[hfl,hrl] at this;exact this
   rw[hD]
   refine Sv.uB 10 rfl ?_
   refine Sv.seq ?_
   refine Sv.setC ?_
   refine ay.ev (ay.kr (by decide) rfl ?_)
   walk_at "dt"
   refine⟨true,fun i ds=>∃L:List Int,ds=L.map .int/\L.Pairwise (· < ·)/\∀x:Int,x∈L↔(0<=x/\x<i)/\x∉G,⟨[],rfl,List.Pairwise.nil,fun x=>⟨(fun h=>nomatch h),fun h=>by omega⟩⟩,?_,?_⟩
   ·rintro i d ds ⟨hi,rfl⟩ hl' ⟨L,rfl,h1,h2⟩
    walk_at "dt"
    refine⟨by walk_at "wk",?_⟩
    refine Tv.test ?_
    refine Ev.nJ ?_
    walk_at "dt"
    refine⟨G,rfl,_,rfl,?_⟩
    by_cases c:(0+(i:Int))∈G
    ·rw[decide_eq_true c,if_neg (by decide)]
     refine⟨L,rfl,h1,fun x=>?_⟩
     rw[h2 x]
     constructor
     ·rintro⟨a,b⟩;exact⟨by omega,b⟩
     ·rintro⟨a,b⟩
      refine⟨⟨a.1,?_⟩,b⟩
      rcases Int.lt_or_le x i with z|z
      ·exact z
      ·exact absurd (by rwa[show 0+(i:Int)=x by omega] at c) b
    ·rw[decide_eq_false c,if_pos (by decide)]
     walk_at "dt"
     refine⟨L++[0+(i:Int)],by rw[cj];rfl,BG.mpr ⟨h1,DJ _ _,fun x hx y hy=>?_⟩,fun x=>?_⟩
     ·rw[aC.mp hy];have:=(h2 x).mp hx;omega
     ·rw[cE,h2 x,aC]
      constructor
      ·rintro(⟨a,b⟩|rfl)
       ·exact⟨by omega,b⟩
       ·exact⟨by omega,c⟩
      ·rintro⟨a,b⟩
       by_cases z:x<i
       ·exact .inl ⟨⟨a.1,z⟩,b⟩
       ·exact .inr (by omega)
   ·rintro ds hl' ⟨L,rfl,h1,h2⟩
    walk_at "dt"
    refine Ev.fR FP ?_
    walk_at "dt"
    refine Ev.jg C9 rfl ?_
    walk_at "dt"
    refine⟨rfl,_,rfl,by rw[ak,bR];omega,fun ft rs pP=>?_⟩
    obtain⟨cs,rfl,hcs⟩:=G7 pP _ rfl
    walk_at "dt"
    refine ay.ev (ay.RN ?_)
    walk_at "dt"
    refine⟨D,rfl,by omega,fun g Dl hgs=>?_⟩
    have RT:g.Nodup:=Dl.nodup_iff.mpr HL
    have IB:g.Pairwise (· < ·):=(List.Pairwise.and hgs RT).imp fun h=>by have:=h.1;have:=h.2;omega
    have Ei:∀prs∈C2,∃z∈S,prs.map (·.1)=[z]:=fun prs bG=>by
     obtain⟨j,hj⟩:=g6 bG
     obtain⟨z,hz,e⟩:=GQ j prs hj
     exact⟨z,bZ hz,e⟩
    have Mc:∀z∈S,∃prs∈C2,prs.map (·.1)=[z]:=fun z hz=>by
     obtain⟨j,hj⟩:=g6 hz
     have hjl:=(aJ.mp hj).1
     have hj2:C2[j]?=some C2[j]:=aR (by omega)
     obtain⟨z',hz',e⟩:=GQ j _ hj2
     rw[hj] at hz'
     cases hz'
     exact⟨_,bZ hj2,e⟩
    have hin:∀pc∈P,∀x∈pc,x∈row:=fun pc gx x hx=>by rw[<-hfl];exact ur.mpr ⟨pc,gx,hx⟩
    have hall:∀prs∈cs,prs.length<=2/\∀pr∈prs,pr.1∈row:=fun prs bG=>by
     rcases cE.mp (hcs.mem_iff.mp bG) with z|z
     ·obtain⟨a,b,hp1,pc,gx,ha,hb⟩:=hP.ck prs z
      refine⟨by have:=hp1.length_eq;rw[ak] at this;simp at this;omega,fun pr gn=>?_⟩
      have:=hp1.mem_iff.mp (cY.mpr ⟨pr,gn,rfl⟩)
      simp only[bQ,List.not_mem_nil,or_false] at this
      rcases this with h|h
      ·rw[h];exact hin pc gx a ha
      ·rw[h];exact hin pc gx b hb
     ·obtain⟨y,hy,e⟩:=Ei prs z
      refine⟨by have:=congrArg List.length e;rw[ak] at this;simp at this;omega,fun pr gn=>?_⟩
      have:pr.1∈prs.map (·.1):=cY.mpr ⟨pr,gn,rfl⟩
      rw[e,aC] at this
      rw[this];exact hS y hy
    have Sz:0<P.length:=List.length_pos_iff.mpr (hPn (by omega))
    have hcl:cs.length<=400:=by
     have h5:=hP.cl
     rw[hcs.length_eq,bR,zA];omega
    have R4:=Dg (cs:=cs) (w:=2) fun prs bG=>(hall prs bG).1
    refine Av.nil ?_
    refine⟨rfl,p,n,cs,L,g,rfl,⟨by omega,by omega,hcl,by omega,fun prs bG pr gn=>(hrm pr.1).mp ((hall prs bG).2 pr gn)⟩,⟨h1.imp fun h=>by omega,fun x hx=>((h2 x).mp hx).1⟩,fun prs bG=>by have:=(hall prs bG).1;omega,?_,q⟩
    refine hP.great GW Ei Mc hcs h1 (fun x=>?_) IB (fun x=>by rw[hD];exact Dl.mem_iff)
    rw[h2 x,hrm x,show(((n:Int)).toNat:Int)=n by omega]
theorem jn:dR ["script","bag","large","n","often","lots","net","some","lot","due","one"] ["script"] (aO jh):=⟨rfl,rfl,rfl,by decide+kernel,rfl,by decide+kernel,by decide+kernel⟩
theorem ID(F:cQ K "law" "law" jh f fd)(Ml:Callee P w K mg base "_law_bag" 1 ["script"] (Ga K))(NV:Callee P w K mg base "_law_lots_net" 3 ["bag","n","many","lots"] (eO 4 AA))(Ia:Callee P w K mg base "_law_peeled" 1 ["checks","lot"] (dh 2 v5))(bV:Callee P w K mg base "_law_draw" 1 ["bag","many"] gQ)(Ih:Callee P w K mg base "_law_row_right" 5 ["bag"] (eO 1 xJ))(Mv:Callee P w K mg base "_law_lot" 2 ["bag","n","most"] (eO 3 xX))(Rg:Callee P w K mg base "_law_holds" 2 ["checks","lot"] (dh 2 vY))(vm:Callee P w K mg base "_law_told" 4 ["net","lot","due"] (dh 3 uh))(bK:mg "range"=none):
    cI P w K mg base cP 6 f fd ["script"] (uZ K):=by
  refine F.ok jn (fun vs H Q E h=>?_) (fun cdv A outer s H vs Q E hr h=>?_)
  · obtain⟨a,ns,rfl,hS,hl,q⟩:=h
    rfl
  obtain⟨a,ns,rfl,hS,hl,q⟩:=h
  refine⟨_,(@aD _ _ _ _ _ (@bO _ _ (1) _ _ _ _ jn.nd rfl (Or.inr rfl) (@aN _ _ _ _ _ _ _ _ _ _ Ml (hr.mono (by decide)) (@aa _ _ _ _ _ (pv 0) aj rfl) (by rfl) (by decide) (by rfl) (by rfl)) (by rfl) (by first|exact .inl rfl|exact .inr rfl|assumption)) (@aD _ _ _ _ _ (@eE _ _ _ _ _ _ _ _ (@bA _ _ _ _ _ _ _ _ fW (@aN _ _ _ _ _ _ _ _ _ _ bV (hr.mono (by decide)) (@aa _ _ _ _ _ (pv 1) (@aa _ _ _ _ _ ao aj rfl) rfl) (by rfl) (by decide) (by rfl) (by rfl)) ao (bX _)) (@aM _ _ _ (@cA _ _ _ _ (@aN _ _ _ _ _ _ _ _ _ _ Ih (hr.mono (by decide)) (@aa _ _ _ _ _ (pv 1) aj rfl) (by rfl) (by decide) (by rfl) (by rfl)))) fj) (@aD _ _ _ _ _ (@bO _ _ (2) _ _ _ _ jn.nd rfl (Or.inr rfl) (@aV _ _ _ _ _ _ _ _ qE (@aN _ _ _ _ _ _ _ _ _ _ bV (hr.mono (by decide)) (@aa _ _ _ _ _ (pv 1) (@aa _ _ _ _ _ ao aj rfl) rfl) (by rfl) (by decide) (by rfl) (by rfl)) ao) (by rfl) (by first|exact .inl rfl|exact .inr rfl|assumption)) (@aD _ _ _ _ _ (@bO _ _ (3) _ _ _ _ jn.nd rfl (Or.inr rfl) (@aV _ _ _ _ _ _ _ _ eK ao (@aN _ _ _ _ _ _ _ _ _ _ bV (hr.mono (by decide)) (@aa _ _ _ _ _ (pv 1) (@aa _ _ _ _ _ (@aP _ _ _ _ _ _ (cO K) bP (@dS _ _ _ _ (@aa _ _ _ _ _ ao (@aa _ _ _ _ _ ao aj rfl) rfl)) (pv 2) (fun _ _=>rfl)) aj rfl) rfl) (by rfl) (by decide) (by rfl) (by rfl))) (by rfl) (by first|exact .inl rfl|exact .inr rfl|assumption)) (@aD _ _ _ _ _ (@bO _ _ (4) _ _ _ _ jn.nd rfl (Or.inr rfl) (@aP _ _ _ _ _ _ (cO K) bP (@dS _ _ _ _ (@Bk _ _ _ rfl)) (@aN _ _ _ _ _ _ _ _ _ _ bV (hr.mono (by decide)) (@aa _ _ _ _ _ (pv 1) (@aa _ _ _ _ _ ao aj rfl) rfl) (by rfl) (by decide) (by rfl) (by rfl)) (fun _ _=>rfl)) (by rfl) (by first|exact .inl rfl|exact .inr rfl|assumption)) (@aD _ _ _ _ _ (lZ (i:=5) jn.nd rfl rfl (bM.of (show cU (aO jh) ["script","bag","large","n","often","lots","net","some","lot","due","one"] _ ["k","bag","large","n"] [none,some 1,some 2,some 3]=true by decide+kernel)) (@iI _ _ _ _ _ _ rfl bK (@aa _ _ _ _ _ (@aN _ _ _ _ _ _ _ _ _ _ bV (hr.mono (by decide)) (@aa _ _ _ _ _ (pv 1) (@aa _ _ _ _ _ ao aj rfl) rfl) (by rfl) (by decide) (by rfl) (by rfl)) aj rfl) (by rfl)) (fun _ _ _ _=>⟨(aY (i:=0) (by show List.Nodup (["k","bag","large","n"]:List Str);decide+kernel) rfl (Or.inl rfl)),gU,(@aN _ _ _ _ _ _ _ _ _ _ Mv (hr.mono (by decide)) (@aa _ _ _ _ _ (pv 1) (@aa _ _ _ _ _ (pv 3) (@aa _ _ _ _ _ (@aV _ _ _ _ _ _ _ _ eK ao (@aV _ _ _ _ _ _ _ _ oM ao (pv 2))) aj rfl) rfl) rfl) (by rfl) (by decide) (by rfl) (by rfl))⟩)) (@aD _ _ _ _ _ (@bO _ _ (6) _ _ _ _ jn.nd rfl (Or.inl rfl) (@aN _ _ _ _ _ _ _ _ _ _ NV (hr.mono (by decide)) (@aa _ _ _ _ _ (pv 1) (@aa _ _ _ _ _ (pv 3) (@aa _ _ _ _ _ (@aN _ _ _ _ _ _ _ _ _ _ bV (hr.mono (by decide)) (@aa _ _ _ _ _ (pv 1) (@aa _ _ _ _ _ (@aP _ _ _ _ _ _ (cO K) bP (@dS _ _ _ _ (@aa _ _ _ _ _ ao (@aa _ _ _ _ _ ao aj rfl) rfl)) (pv 2) (fun _ _=>rfl)) aj rfl) rfl) (by rfl) (by decide) (by rfl) (by rfl)) (@aa _ _ _ _ _ (pv 5) aj rfl) rfl) rfl) rfl) (by rfl) (by decide) (by rfl) (by rfl)) (by rfl) (by first|exact .inl rfl|exact .inr rfl|assumption)) (@aD _ _ _ _ _ (@bO _ _ (7) _ _ _ _ jn.nd rfl (Or.inr rfl) (@zG _ _ _ _ _ _ _ _ _ (qv K) vB (pv 5) vq (@AV _ _ _ (@aV _ _ _ _ _ _ _ _ eK ao (@aN _ _ _ _ _ _ _ _ _ _ bV (hr.mono (by decide)) (@aa _ _ _ _ _ (pv 1) (@aa _ _ _ _ _ ao aj rfl) rfl) (by rfl) (by decide) (by rfl) (by rfl))))) (by rfl) (by first|exact .inl rfl|exact .inr rfl|assumption)) (@aD _ _ _ _ _ (lZ (i:=8) jn.nd rfl rfl (bM.of (show cU (aO jh) ["script","bag","large","n","often","lots","net","some","lot","due","one"] _ ["place","bag","often","some"] [none,some 1,some 4,some 7]=true by decide+kernel)) (@iI _ _ _ _ _ _ rfl bK (@aa _ _ _ _ _ (pv 3) aj rfl) (by rfl)) (fun _ _ _ _=>⟨(aY (i:=0) (by show List.Nodup (["place","bag","often","some"]:List Str);decide+kernel) rfl (Or.inr rfl)),(gR (PW.pt (mG (@bA _ _ _ _ _ _ _ _ fW (@aN _ _ _ _ _ _ _ _ _ _ bV (hr.mono (by decide)) (@aa _ _ _ _ _ (pv 1) (@aa _ _ _ _ _ (pv 2) aj rfl) rfl) (by rfl) (by decide) (by rfl) (by rfl)) ao (bX _)) (oW (@bA _ _ _ _ _ _ _ _ (qD hr.units) (by(refine' Fc (bM.of (NX:=["place","bag","often","some"]) (N:=["one","place"]) (mp:=[none,some 0]) ?zP) ?Ao ?ya);(case Ao=>exact(dG (K:=K) rfl (pv 3)));(case ya=>exact(fun _ _ _ _=>⟨(aY (i:=0) (by show List.Nodup (["one","place"]:List Str);decide+kernel) rfl (Or.inl rfl)),(gR (bA (uE (K:=K) (by rfl)) (pv 1) (pv 0) (by with_unfolding_all rfl))),(pv 0)⟩));(case zP=>decide+kernel)) (@dS _ _ _ _ aj) (bX _)))))),(pv 0)⟩)) (@aD _ _ _ _ _ (@bO _ _ (9) _ _ _ _ jn.nd rfl (Or.inr rfl) (@aN _ _ _ _ _ _ _ _ _ _ Ia (hr.mono (by decide)) (@aa _ _ _ _ _ (@aP _ _ _ _ _ _ (dZ K) fX (pv 6) ao (fun _ _=>rfl)) (@aa _ _ _ _ _ (pv 8) aj rfl) rfl) (by rfl) (by decide) (by rfl) (by rfl)) (by rfl) (by first|exact .inl rfl|exact .inr rfl|assumption)) (@aD _ _ _ _ _ (@gZ _ _ _ _ _ _ _ _ gy rfl (dG (K:=K) rfl (pv 7)) (aY (i:=10) jn.nd rfl (Or.inl rfl)) (@aM _ _ _ (@eE _ _ _ _ _ _ _ _ (@bA _ _ _ _ _ _ _ _ (qD hr.units) (eX (bM.of (show cU (aO jh) ["script","bag","large","n","often","lots","net","some","lot","due","one"] _ ["place","due"] [none,some 9]=true by decide+kernel)) (dG (K:=K) rfl (pv 10)) (fun _ _ _ _=>⟨(aY (i:=0) (by show List.Nodup (["place","due"]:List Str);decide+kernel) rfl (Or.inl rfl)),(gR (bA (w6 (K:=K) (by rfl)) (pv 0) (pv 1) (by with_unfolding_all rfl))),(pv 0)⟩)) (@dS _ _ _ _ aj) (bX _)) (@aM _ _ _ (@cA _ _ _ _ kM)) fj)) (by intro _;rfl)) (@aM _ _ _ (@cA _ _ _ _ (@Az _ _ _ _ _ _ _ (@aN _ _ _ _ _ _ _ _ _ _ Rg (hr.mono (by decide)) (@aa _ _ _ _ _ (@aP _ _ _ _ _ _ (dZ K) fX (pv 6) ao (fun _ _=>rfl)) (@aa _ _ _ _ _ (pv 9) aj rfl) rfl) (by rfl) (by decide) (by rfl) (by rfl)) (@xV _ _ _ _ _ (@aN _ _ _ _ _ _ _ _ _ _ vm (hr.mono (by decide)) (@aa _ _ _ _ _ (pv 6) (@aa _ _ _ _ _ (pv 8) (@aa _ _ _ _ _ (pv 9) aj rfl) rfl) rfl) (by rfl) (by decide) (by rfl) (by rfl))))))))))))))))),?_⟩
  walk_at "st"
  refine⟨a,ns,rfl,hS,hl,fun b l H1 s1 f1 B1=>?_⟩
  have Ce:=s1.seq hS
  have key:∀(t:TS) (D:Ends),(∀H,D.rt (.bl true) H)->Sv (AB b l H1) [.raw (.ref a), .az, .no, .no, .no, .no, .no, .no, .no, .no, .no] t {nx:=fun _=>False,rt:=fun _ d=>d= .bool true}->t D [some (.ref a),some (.ref b),none,none,none,none,none,none,none,none,none] H1:=fun t D d2 h=>h _ _ _ D (Lp (m:=9) B1) (Rf d2)
  refine R.Em ?_
  dsimp only
  refine key _ _ (fun H=>?_) ?_
  · exact q _
  walk_at "dt"
  intro w0 w1 w2
  walk_at "dt"
  by_cases c:w0=3
  · rw[if_pos (by simpa using c)]
    walk_at "dt"
    refine Ev.jg KU rfl ?_
    walk_at "dt"
    exact⟨rfl,rfl⟩
  rw[if_neg (by simpa using c)]
  walk_at "dt"
  intro g0 g1 g2
  walk_at "dt"
  obtain⟨gr,Pb,CB,DI⟩:∃gr:Int,g0/5=gr/\0<=gr/\gr<2:=⟨_,rfl,by omega,by omega⟩
  rw[Pb]
  refine Exists.elim (pick (L:=[12,60]) CB DI (fun x=>1<=x/\x<=60) (by decide)) fun m em=>⟨_,em.1,m,rfl,by omega,by unfold Sm;omega,?_⟩
  intro n' n0' n1'
  obtain⟨n,en,n0,n1⟩:∃n:Int,1+n'=n/\1<=n/\n<=60:=⟨_,rfl,by omega,by omega⟩
  refine⟨_,rfl,Gv.jI ?_⟩
  rw[en]
  walk_at "dt"
  intro o0 o1 o2
  refine Exists.elim (pick (L:=[1,2,4]) (k:=o0) o1 (by show o0<3;omega) (fun x=>1<=x/\x<=4) (by decide)) fun of eof=>⟨_,rfl,_,eof.1,?_⟩
  refine Gv.jI ?_
  refine Sv.seq ?_
  refine Sv.setC ?_
  refine ay.ev (ay.kr (by decide) rfl ?_)
  walk_at "dt"
  intro k0 k1 k2
  walk_at "dt"
  refine gP.rel bq true (fun _ ai=>cC n ai/\ai≠[]) ?_ fun bH iH hlo=>?_
  · rintro i d ⟨hi,rfl⟩
    walk_at "dt"
    refine⟨by walk_at "wk",?_⟩
    refine Ev.jg PB rfl ?_
    walk_at "dt"
    refine⟨rfl,n,5+20*gr,rfl,n0,by omega,by omega,by omega,fun rs r0 r1 r2 r3=>?_⟩
    exact⟨fun _=>rfl,rs,rfl,r2,r0⟩
  have hlo:wH n bH:=fun ai jq=>by
    obtain⟨k,hk⟩:=g6 jq
    exact hlo k ai hk
  have hl3:bH.length<=100:=by omega
  walk_at "dt"
  refine Ev.jg Mf rfl ?_
  walk_at "dt"
  refine Exists.elim (pick (L:=[13,61]) CB DI (fun x=>1<=x/\x<=61) (by decide)) fun m2 Ri=>⟨_,Ri.1,m2,rfl,by omega,by unfold Sm;omega,?_⟩
  intro many m0 m1
  walk_at "dt"
  refine⟨rfl,n,many,bH,rfl,n0,n1,m0,by omega,hlo,hl3,fun p cs hp hcs hcl KY=>?_⟩
  refine Gv.name ?_
  have fT:(bH.map bq).length=bH.length:=ak ..
  walk_at "dt"
  intro t t0 t1
  walk_at "dt"
  obtain⟨S,Bj,qR⟩:∃S:List (List Int),gM (bH.map bq) none (some (1+t))=S.map bq/\∀o∈S,o∈bH:=⟨bH.take (1+t).toNat,by rw[QI (by omega),List.map_take],fun o ho=>Hw ho⟩
  have GP:S.length<=100:=by
    have:=congrArg List.length Bj
    rw[ak] at this
    have h2:(gM (bH.map bq) none (some (1+t))).length<=(bH.map bq).length:=K6
    omega
  rw[Bj]
  have LN:(S.map bq).length=S.length:=ak ..
  refine ay.ev (ay.kr (by decide) rfl ?_)
  walk_at "dt"
  refine⟨true,fun i ds=>∃L:List Int,ds=L.map .int/\L.Pairwise (· < ·)/\(∀x∈L,0<=x/\x<i)/\∀x:Int,0<=x->x<i->(∃one∈S,x∈one)->x∈L,⟨[],rfl,List.Pairwise.nil,(fun _ h=>nomatch h),fun x h1 h2=>by omega⟩,?_,?_⟩
  · rintro i d ds ⟨hi,rfl⟩ hl' ⟨L,rfl,h1,h2,h3⟩
    have go:∃r':List Int,L.map PyData.int++[PyData.int (0+(i:Int))]=r'.map .int/\r'.Pairwise (· < ·)/\(∀x∈r',0<=x/\x<((i+1:Nat):Int))/\∀x:Int,0<=x->x<((i+1:Nat):Int)->(∃one∈S,x∈one)->x∈r':=by
      refine⟨L++[(0+(i:Int))],by rw[cj];rfl,BG.mpr ⟨h1,DJ _ _,fun x hx y hy=>?_⟩,fun x hx=>?_,fun x x0 x1 hx=>?_⟩
      · rw[aC.mp hy];have:=h2 x hx;omega
      · rcases cE.mp hx with z|z
        · have:=h2 x z;omega
        · rw[aC.mp z];omega
      · by_cases z:x<i
        · exact gj _ (h3 x x0 z hx)
        · exact dY _ (aC.mpr (by omega))
    walk_at "dt"
    refine⟨by walk_at "wk",?_⟩
    walk_at "dt"
    intro y y0 y1
    walk_at "dt"
    by_cases c0:y=0
    · rw[if_pos (by simpa using c0)]
      walk_at "dt"
      exact go
    rw[if_neg (by simpa using c0)]
    walk_at "dt"
    refine ay.ev (ay.gJ (by decide) rfl ?_)
    walk_at "dt"
    refine fun v2=>⟨false,fun j es=>∃ls:List (List Int),es=ls.map bq/\(ls=[]->∀o∈S.take j,(0+(i:Int))∉o),⟨[],rfl,fun _ _ h=>nomatch h⟩,?_,?_⟩
    · rintro j d es hd hl2 ⟨ls,rfl,hls⟩
      obtain⟨o,ho,rfl⟩:=dP hd
      walk_at "dt"
      refine⟨by walk_at "wk",?_⟩
      refine Tv.test ?_
      refine Ev.nJ ?_
      walk_at "dt"
      refine⟨o,rfl,?_⟩
      generalize nu:decide ((0+(i:Int))∈o)=bb
      refine⟨_,rfl,?_⟩
      cases bb with
      | true =>
        rw[if_pos (by decide)]
        walk_at "dt"
        exact⟨ls++[o],by rw[cj];rfl,fun z=>by simp at z⟩
      | false =>
        rw[if_neg (by decide)]
        refine⟨ls,rfl,fun z l hl3=>?_⟩
        rw[take_snoc ho] at hl3
        rcases cE.mp hl3 with h|h
        · exact hls z l h
        · rw[aC.mp h];exact of_decide_eq_false nu
    · rintro es hl2 ⟨ls,rfl,hls⟩
      rw[LN,eV] at hls
      walk_at "dt"
      rw[k7]
      refine⟨ED ls,EB,_,rfl,?_⟩
      rw[show PyData.eqv (.list (ls.map bq)) (.list [])=decide (ls=[]) by cases ls<;>simp[PyData.eqv,PyData.eqvAll]]
      by_cases c5:ls=[]
      · rw[if_neg (by simp[c5])]
        exact⟨L,rfl,h1,fun x hx=>by have:=h2 x hx;omega,fun x x0 x1 hx=>by
          by_cases z:x<i
          · exact h3 x x0 z hx
          · obtain⟨o,ho,Rv⟩:=hx
            exact absurd (by rwa[show x=0+(i:Int) by omega] at Rv) (hls c5 o ho)⟩
      · rw[if_pos (by simp[c5])]
        walk_at "dt"
        exact go
  rintro ds hl' ⟨L,rfl,h1,h2,h3⟩
  have BB:cC n L:=⟨h1.imp fun h=>by omega,fun x hx=>by have:=h2 x hx;omega⟩
  have Lf:L.length<64:=by rw[ak] at hl';omega
  have hpl:∀prs∈cs,prs.length<=10000:=fun prs bG=>by have:=(hcs prs bG).kq n1;rw[ak] at this;omega
  walk_at "dt"
  refine Ev.fR N1 ?_
  walk_at "dt"
  refine⟨rfl,cs,L,rfl,h1,Lf,hpl,fun g hg=>?_⟩
  have Bd:g.length<=60:=by have:=(hg.ai BB).kq n1;omega
  have hsub:∀o∈S,∀x∈o,x∈g:=fun o ho x hx=>by
    have kL:=(hlo o (qR o ho)).1
    refine hg.max o (fun y hy=>h3 y (kL.rg y hy).1 (by have:=(kL.rg y hy).2;omega) ⟨o,ho,hy⟩) ?_ x hx
    unfold c8
    rw[fN]
    exact fun prs bG=>decide_eq_true (KY o (qR o ho) prs bG)
  refine Gv.name ?_
  walk_at "dt"
  refine Sv.forL ?_
  walk_at "dt"
  refine fun v=>⟨fun _ ρ=>∃x10:Sl,ρ=[.raw (.ref a), .az, .d true (.int gr), .d true (.int n), .d true (.int of), .d true (.list (bH.map bq)), .d true (gC p n cs), .d false (.list (S.map bq)), .d false (.list (L.map .int)), .d true (.list (g.map .int)),x10],⟨_,rfl⟩,?_,?_⟩
  · rintro i d ρ hd ⟨x10,rfl⟩
    obtain⟨o,ho,rfl⟩:=dP hd
    have hoS:=bZ ho
    have kL:o.length<=60:=by have:=(hlo o (qR o hoS)).1.kq n1;omega
    have S3:(o.map PyData.int).length=o.length:=ak ..
    refine Gv.pq ?_
    walk_at "dt"
    refine ay.ev (ay.gJ (by decide) rfl ?_)
    walk_at "dt"
    refine fun v2=>⟨false,fun j es=>es=[],rfl,?_,?_⟩
    · rintro j d es hd hl2 rfl
      obtain⟨x,hx,rfl⟩:=dP hd
      walk_at "dt"
      refine⟨by walk_at "wk",?_⟩
      refine Tv.test ?_
      refine Ev.nJ ?_
      walk_at "dt"
      refine⟨g,rfl,?_⟩
      rw[decide_eq_true (hsub o hoS x (bZ hx))]
      refine⟨_,rfl,?_⟩
      rw[if_neg (by decide)]
    · rintro es hl2 rfl
      walk_at "dt"
      exact⟨_,rfl⟩
  · rintro ρ ⟨x10,rfl⟩
    walk_at "dt"
    refine Ev.fR P4 ?_
    walk_at "dt"
    refine⟨rfl,cs,g,rfl,hpl,by omega,?_⟩
    rw[hg.out]
    walk_at "dt"
    refine Ev.fR FP ?_
    walk_at "dt"
    refine⟨rfl,p,n,cs,L,g,rfl,hcs.ai n0 (by omega) (by omega) ?_,BB,hpl,hg,rfl⟩
    have:=Dg (cs:=cs) (w:=60) fun prs bG=>by have:=(hcs prs bG).kq n1;rw[ak] at this;omega
    have h6:cs.length*60<=60*60:=EG _ (by omega)
    omega
end
local macro_rules| `(tactic|walk_at "bn")=> `(tactic|(intro _ _ _ _ _ _ us hl;first|(obtain⟨_,h⟩:=EJ hl;subst h;rfl)|(obtain⟨_,_,h⟩:=ln2 hl;subst h;rfl)|(obtain⟨_,_,_,h⟩:=BO hl;subst h;rfl)|(obtain⟨_,_,_,_,h⟩:=HS hl;subst h;rfl)|(obtain⟨_,_,_,_,_,h⟩:=ln5 hl;subst h;rfl)|(obtain⟨_,_,_,_,_,_,h⟩:=ln6 hl;subst h;rfl)|(obtain⟨_,_,_,_,_,_,_,h⟩:=ln7 hl;subst h;rfl)))
theorem all_mk{l:PySem.W.OpenLaw}{w:World}{K:PySem.W.Frag}{h:Heap}{mg:Str->Option Value}{fa:Addr}{f0 f1 f2 f3 f4 f5 f6 f7 f8 f9 p7 M4 Nu Jm PY Jl Pp Ie RZ Ph za:Addr}(X:K.In h)(G:h.Ns mainGlobals mg)(IJ:mg "law"=some (.ref fa))
  {J0 Gg:Option Addr} {JP:Array (Option Value)} {LV BU BL Fy z4 D6:Value}
  (d0:bD K "seats" "seats" tw f0)
  (d1:bD K "greatest" "greatest" mX f1)
  (d2:bD K "inside_of" "inside_of" sE f2)
  (d3:bD K "_law_bag" "_law_bag" rV f3)
  (d4:bD K "_law_draw" "_law_draw" wC f4)
  (d5:bD K "_law_prime_from" "_law_prime_from" uz f5)
  (d6:bD K "_law_prime" "_law_prime" Aj f6)
  (d7:bD K "_law_factor" "_law_factor" zv f7)
  (d8:bD K "_law_places" "_law_places" sf f8)
  (d9:bD K "_law_just_one" "_law_just_one" uK f9)
  (xE:bD K "_law_holds" "_law_holds" zC p7)
  (vM:bD K "_law_lot" "_law_lot" t7 M4)
  (yU:bD K "_law_with_more" "_law_with_more" ua Nu)
  (xW:bD K "_law_lots_net" "_law_lots_net" pX Jm)
  (yv:bD K "_law_peeled" "_law_peeled" sD PY)
  (zb:bD K "_law_turned" "_law_turned" vc Jl)
  (wg:bD K "_law_copy" "_law_copy" u0 Pp)
  (zD:bD K "_law_alike" "_law_alike" ud Ie)
  (ze:bD K "_law_told" "_law_told" xw RZ)
  (wD:bD K "_law_row_right" "_law_row_right" kY Ph)
  (yk:PySem.W.nsIn K mainGlobals "law"=some (some (.ref za))) (vS:K.lookup za=some ⟨LV,J0, .func (PySem.W.fnOf "law" "law" (nB jh) (lP jh) (aO jh) .none BU BL Fy Gg z4 D6),JP⟩) (zQ:PySem.W.codeIn K z4 "law"=true) (yd:PySem.W.keepIn K (.ref za)=true)
  (vj:PySem.W.nsIn K mainGlobals "abs"=some none)
  (AR:PySem.W.nsIn K mainGlobals "all"=some none)
  (vG:PySem.W.nsIn K mainGlobals "bool"=some none)
  (zx:PySem.W.nsIn K mainGlobals "dict"=some none)
  (xA:PySem.W.nsIn K mainGlobals "enumerate"=some none)
  (xr:PySem.W.nsIn K mainGlobals "int"=some none)
  (Ax:PySem.W.nsIn K mainGlobals "isinstance"=some none)
  (zS:PySem.W.nsIn K mainGlobals "len"=some none)
  (yF:PySem.W.nsIn K mainGlobals "list"=some none)
  (vf:PySem.W.nsIn K mainGlobals "range"=some none)
  (z5:PySem.W.nsIn K mainGlobals "set"=some none)
  (xj:PySem.W.nsIn K mainGlobals "sorted"=some none)
  (AH:PySem.W.nsIn K mainGlobals "str"=some none)
  (vC:PySem.W.nsIn K mainGlobals "tuple"=some none)
  :∃fd:FuncData,(∀(s:Shared) (v:Value),BindsTo s fd ⟨[v],[]⟩ [("script",v)])/\∀base:Heap,K.In base->base.Ns mainGlobals mg->cI l.prog w K mg base cP 6 fa fd ["script"] (uZ K):=by
 have e:=IJ.symm.trans (dI X G yk)
 cases e
 obtain⟨a0,_,F0⟩:=d0
 have b0:=F0.binds (ps:=["net"]) (by walk_at "bn")
 obtain⟨a1,_,F1⟩:=d1
 have b1:=F1.binds (ps:=["net","lot"]) (by walk_at "bn")
 obtain⟨a2,_,F2⟩:=d2
 have b2:=F2.binds (ps:=["pairs","inside"]) (by walk_at "bn")
 obtain⟨a3,_,F3⟩:=d3
 have b3:=F3.binds (ps:=["script"]) (by walk_at "bn")
 obtain⟨a4,_,F4⟩:=d4
 have b4:=F4.binds (ps:=["bag","many"]) (by walk_at "bn")
 obtain⟨a5,_,F5⟩:=d5
 have b5:=F5.binds (ps:=["number"]) (by walk_at "bn")
 obtain⟨a6,_,F6⟩:=d6
 have b6:=F6.binds (ps:=["bag"]) (by walk_at "bn")
 obtain⟨a7,_,F7⟩:=d7
 have b7:=F7.binds (ps:=["bag","p"]) (by walk_at "bn")
 obtain⟨a8,_,F8⟩:=d8
 have b8:=F8.binds (ps:=["bag","n","wide"]) (by walk_at "bn")
 obtain⟨a9,_,F9⟩:=d9
 have b9:=F9.binds (ps:=["pairs","lot"]) (by walk_at "bn")
 obtain⟨MJ,_,yC⟩:=xE
 have NG:=yC.binds (ps:=["checks","lot"]) (by walk_at "bn")
 obtain⟨NJ,_,wz⟩:=vM
 have P9:=wz.binds (ps:=["bag","n","most"]) (by walk_at "bn")
 obtain⟨Pk,_,AI⟩:=yU
 have Qj:=AI.binds (ps:=["bag","places","lots"]) (by walk_at "bn")
 obtain⟨NT,_,xC⟩:=xW
 have MT:=xC.binds (ps:=["bag","n","many","lots"]) (by walk_at "bn")
 obtain⟨RD,_,xK⟩:=yv
 have M7:=xK.binds (ps:=["checks","lot"]) (by walk_at "bn")
 obtain⟨Py,_,zh⟩:=zb
 have O2:=zh.binds (ps:=["bag","row"]) (by walk_at "bn")
 obtain⟨MI,_,AQ⟩:=wg
 have Lb:=AQ.binds (ps:=["net"]) (by walk_at "bn")
 obtain⟨rN,_,lT⟩:=zD
 have uc:=lT.binds (ps:=["found","due"]) (by walk_at "bn")
 obtain⟨OW,_,A9⟩:=ze
 have Il:=A9.binds (ps:=["net","lot","due"]) (by walk_at "bn")
 obtain⟨LI,_,wm⟩:=wD
 have Ou:=wm.binds (ps:=["bag"]) (by walk_at "bn")
 have RC:=Cs (st:=jh) vS zQ yd
 have yM:=ic X G vj
 have qV:=ic X G AR
 have oA:=ic X G vG
 have vz:=ic X G zx
 have nR:=ic X G xA
 have nQ:=ic X G xr
 have ie:=ic X G Ax
 have cg:=ic X G zS
 have cZ:=ic X G yF
 have bK:=ic X G vf
 have nH:=ic X G z5
 have fY:=ic X G xj
 have nZ:=ic X G AH
 have nU:=ic X G vC
 refine⟨PySem.W.fnOf "law" "law" (nB jh) (lP jh) (aO jh) .none BU BL Fy Gg z4 D6,fun s v=> .of_eq rfl,fun base _ _=>?_⟩
 have RP:=Callee.mk' F0 (Qt (P:=l.prog) (w:=w) (base:=base) F0 nR bK) b0 (dI X G a0)
 have JL:=Callee.mk' F2 (OV (P:=l.prog) (w:=w) (base:=base) F2) b2 (dI X G a2)
 have Ir:=Callee.mk' F1 (OS (P:=l.prog) (w:=w) (base:=base) F1 RP JL vz cg nR) b1 (dI X G a1)
 have PM:=Callee.mk' F3 (Iz (P:=l.prog) (w:=w) (base:=base) F3 yM) b3 (dI X G a3)
 have kO:=Callee.mk' F4 (JR (P:=l.prog) (w:=w) (base:=base) F4 cg) b4 (dI X G a4)
 have La:=Callee.mk' F5 (Kg (P:=l.prog) (w:=w) (base:=base) F5 bK) b5 (dI X G a5)
 have B3:=Callee.mk' F6 (IG (P:=l.prog) (w:=w) (base:=base) F6 kO La) b6 (dI X G a6)
 have Dd:=Callee.mk' F7 (OP (P:=l.prog) (w:=w) (base:=base) F7 kO) b7 (dI X G a7)
 have JX:=Callee.mk' F8 (Qh (P:=l.prog) (w:=w) (base:=base) F8 kO fY cZ nH bK) b8 (dI X G a8)
 have Hx:=Callee.mk' F9 (MV (P:=l.prog) (w:=w) (base:=base) F9 cg) b9 (dI X G a9)
 have RV:=Callee.mk' yC (QA (P:=l.prog) (w:=w) (base:=base) yC Hx) NG (dI X G MJ)
 have IU:=Callee.mk' wz (QW (P:=l.prog) (w:=w) (base:=base) wz kO fY nH bK) P9 (dI X G NJ)
 have JO:=Callee.mk' AI (J1 (P:=l.prog) (w:=w) (base:=base) AI kO cZ fY cg) Qj (dI X G Pk)
 have M8:=Callee.mk' xC (K8 (P:=l.prog) (w:=w) (base:=base) xC B3 kO JO JX Dd Hx bK) MT (dI X G NT)
 have L7:=Callee.mk' xK (QE (P:=l.prog) (w:=w) (base:=base) xK bK fY cg) M7 (dI X G RD)
 have Jp:=Callee.mk' zh (Lu (P:=l.prog) (w:=w) (base:=base) zh kO cZ bK cg) O2 (dI X G Py)
 have Lw:=Callee.mk' AQ (M1 (P:=l.prog) (w:=w) (base:=base) AQ cZ) Lb (dI X G MI)
 have Li:=Callee.void (P:=l.prog) (w:=w) (base:=base) (k:=0) (sp:=dh 2 (oU 0)) lT uc (dI X G rN) Nm
 have LS:=Callee.mk' lT (vN (P:=l.prog) (w:=w) (base:=base) 0 lT Li ie cZ nU qV cg oA nQ nZ bK) uc (dI X G rN)
 have OM:=Callee.mk' lT (vN (P:=l.prog) (w:=w) (base:=base) 1 lT LS ie cZ nU qV cg oA nQ nZ bK) uc (dI X G rN)
 have IZ:=Callee.mk' lT (vN (P:=l.prog) (w:=w) (base:=base) 2 lT OM ie cZ nU qV cg oA nQ nZ bK) uc (dI X G rN)
 have Rz:=IZ
 have G8:=Callee.mk' A9 (RL (P:=l.prog) (w:=w) (base:=base) A9 Ir Lw Rz cZ) Il (dI X G OW)
 have Pq:=Callee.mk' wm (Rr (P:=l.prog) (w:=w) (base:=base) wm B3 Jp G8 kO Dd bK cZ fY) Ou (dI X G LI)
 exact ID RC PM M8 L7 kO Pq IU RV G8 bK
theorem walk{l:PySem.W.OpenLaw}{q:Program}{loose:List Str}{XP:(Str->Option Value)->Heap->Prop}{YP:World->Heap->Prop}{d:DefRec}{K:Params->PySem.W.Frag}(hn:l.most=some 63)(hdf:d.params.defaults=[])
  (hY:∀(w:World) (h:Heap),YP w h->(K w.params).In h)
  (F : ∀ (w : World) (mg : Str -> Option Value) (fa : Addr) (h : Heap), (K w.params).In h -> h.Ns mainGlobals mg -> mg d.name = some (.ref fa) ->
   ∃fd:FuncData,(∀(s:Shared) (u:Value),BindsTo s fd ⟨[u],[]⟩ [("script",u)])/\∀base:Heap,(K w.params).In base->base.Ns mainGlobals mg->cI l.prog w (K w.params) mg base cP 6 fa fd ["script"] (uZ (K w.params))):
  PySem.W.WalkO q loose XP YP l.row.toRowW d [] (fun f vs=>PySem.call f vs):=
 L2.ND (n:=63) (k:=6) (x:="script") (CX:=fun _=>cP) (sp:=fun w=>uZ (K w.params)) hn (by decide) hdf ⟨rfl,by decide,by decide⟩ hY F (fun _ _ a ns hl _ hS=>⟨a,ns,rfl,hS,hl,fun _=>rfl⟩) fun _ _ _ _ _ z=>z
def view:Program:={PySem.Challenge.pw_fewchecks_k32_greatest_lots with main:={PySem.Challenge.pw_fewchecks_k32_greatest_lots.main with body:=[top 1,top 3,top 4,top 6,top 7,top 8,top 9,top 10,top 11,top 12,top 13,top 14,top 15,top 16,top 17,top 18,top 19,top 20,top 21,top 22,top 23]}}
end K32
open PySem PySem.W PyProof.Rows
local macro_rules| `(tactic|o_head $H:term)=> `(tactic|
 (refine holds_open (q:=K32.view) (loose:=[])
    (Xt:=fun s=>xlAt K32.view [] s && recOk [] s) (XP:=XL K32.view []) (Yf:=Hook.obs $H)
    (Ya:=Hook.val $H) (YP:=Hook.says $H) (N:=100000) ?hl (Hook.of $H)
    (Hook.keeps $H) (fun s e=>xl_of s (DT.mp e).1) XL.keeps
    rfl rfl rfl (fun s e=>recFacts_of (DT.mp e).2) rfl
    (by assumption) (by decide+kernel) ⟨rfl,rfl,rfl,rfl,rfl,by decide+kernel⟩ ?hw ?hc;(case hl=>exact fun w=>by kernel_rfl)))
set_option maxRecDepth 100000 in
set_option maxHeartbeats 0 in
theorem PySem.Challenge.cw_fewchecks_k32_greatest_lots_holds : PySem.Challenge.rw_fewchecks_k32_greatest_lots.Holds := by
 w_on
 refine holds_law (by decide+kernel) fun said=>?_
 k_head
 (case hw=>w_witness2)
 k_fill
 refine K32.walk (l:=PySem.Challenge.rw_fewchecks_k32_greatest_lots) rfl rfl (fun w h Y=>PySem.W.kIn_of Y) ?F
 case F=>
  intro w mg fa h KX G hmg
  refine' K32.all_mk KX G hmg ?d0 ?d1 ?d2 ?d3 ?d4 ?d5 ?d6 ?d7 ?d8 ?d9 ?xE ?vM ?yU ?xW ?yv ?zb ?wg ?zD ?ze ?wD ?yk ?vS ?zQ ?yd ?vj ?AR ?vG ?zx ?xA ?xr ?Ax ?zS ?yF ?vf ?z5 ?xj ?AH ?vC
  (case d0=>refine' L2.bD.mk ?a ?l ?c ?k;(case a=>k_is);(case l=>k_is);(case c=>k_is);(case k=>k_is))
  (case d1=>refine' L2.bD.mk ?a ?l ?c ?k;(case a=>k_is);(case l=>k_is);(case c=>k_is);(case k=>k_is))
  (case d2=>refine' L2.bD.mk ?a ?l ?c ?k;(case a=>k_is);(case l=>k_is);(case c=>k_is);(case k=>k_is))
  (case d3=>refine' L2.bD.mk ?a ?l ?c ?k;(case a=>k_is);(case l=>k_is);(case c=>k_is);(case k=>k_is))
  (case d4=>refine' L2.bD.mk ?a ?l ?c ?k;(case a=>k_is);(case l=>k_is);(case c=>k_is);(case k=>k_is))
  (case d5=>refine' L2.bD.mk ?a ?l ?c ?k;(case a=>k_is);(case l=>k_is);(case c=>k_is);(case k=>k_is))
  (case d6=>refine' L2.bD.mk ?a ?l ?c ?k;(case a=>k_is);(case l=>k_is);(case c=>k_is);(case k=>k_is))
  (case d7=>refine' L2.bD.mk ?a ?l ?c ?k;(case a=>k_is);(case l=>k_is);(case c=>k_is);(case k=>k_is))
  (case d8=>refine' L2.bD.mk ?a ?l ?c ?k;(case a=>k_is);(case l=>k_is);(case c=>k_is);(case k=>k_is))
  (case d9=>refine' L2.bD.mk ?a ?l ?c ?k;(case a=>k_is);(case l=>k_is);(case c=>k_is);(case k=>k_is))
  (case xE=>refine' L2.bD.mk ?a ?l ?c ?k;(case a=>k_is);(case l=>k_is);(case c=>k_is);(case k=>k_is))
  (case vM=>refine' L2.bD.mk ?a ?l ?c ?k;(case a=>k_is);(case l=>k_is);(case c=>k_is);(case k=>k_is))
  (case yU=>refine' L2.bD.mk ?a ?l ?c ?k;(case a=>k_is);(case l=>k_is);(case c=>k_is);(case k=>k_is))
  (case xW=>refine' L2.bD.mk ?a ?l ?c ?k;(case a=>k_is);(case l=>k_is);(case c=>k_is);(case k=>k_is))
  (case yv=>refine' L2.bD.mk ?a ?l ?c ?k;(case a=>k_is);(case l=>k_is);(case c=>k_is);(case k=>k_is))
  (case zb=>refine' L2.bD.mk ?a ?l ?c ?k;(case a=>k_is);(case l=>k_is);(case c=>k_is);(case k=>k_is))
  (case wg=>refine' L2.bD.mk ?a ?l ?c ?k;(case a=>k_is);(case l=>k_is);(case c=>k_is);(case k=>k_is))
  (case zD=>refine' L2.bD.mk ?a ?l ?c ?k;(case a=>k_is);(case l=>k_is);(case c=>k_is);(case k=>k_is))
  (case ze=>refine' L2.bD.mk ?a ?l ?c ?k;(case a=>k_is);(case l=>k_is);(case c=>k_is);(case k=>k_is))
  (case wD=>refine' L2.bD.mk ?a ?l ?c ?k;(case a=>k_is);(case l=>k_is);(case c=>k_is);(case k=>k_is))
  (case yk=>k_is)
  (case vS=>k_is)
  (case zQ=>k_is)
  (case yd=>k_is)
  (case vj=>k_is)
  (case AR=>k_is)
  (case vG=>k_is)
  (case zx=>k_is)
  (case xA=>k_is)
  (case xr=>k_is)
  (case Ax=>k_is)
  (case zS=>k_is)
  (case yF=>k_is)
  (case vf=>k_is)
  (case z5=>k_is)
  (case xj=>k_is)
  (case AH=>k_is)
  (case vC=>k_is)
