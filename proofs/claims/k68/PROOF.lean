import PyProof.Rows.All
import Wide.All
import OpenK.AllK
import Wide.FinOn
import Lean
import PyProof.EqAt
import PyProof.EqKinds
import PyProof.TupleCall
import PySem.Challenge.RW_fewchecks_k68_whole_all_true_words_are_l
set_option compiler.extract_closed false
set_option Elab.async false
set_option linter.all false
set_option maxRecDepth 100000
def aj:= @List.length_map
def aD:= @List.getElem?_eq_getElem
def aI:= @List.mem_map
def aP:= @List.mem_cons
def aS:= @Nat.le_refl
def aU:= @List.mem_singleton
def bh:= @List.map_cons
def bw:= @PySem.Heap.lt_size
def bu:= @Ne.symm
def bx:= @List.getElem?_map
def bD:= @List.mem_of_getElem?
def bJ:= @List.mem_cons_of_mem
def bI:= @List.getElem?_eq_some_iff
def bH:= @PySem.Heap.get?_push_of_some
def bN:= @List.getElem?_set_ne
def bU:= @List.getD_eq_getElem?_getD
def bV:= @Bool.false_ne_true
def ck:= @List.mem_cons_self
def cA:= @PySem.W.mg_of
def cB:= @List.not_mem_nil
def cG:= @Nat.ne_of_lt
def cN:= @List.size_toArray
def cS:= @List.map_append
def cV:= @List.getElem_mem
def dh:= @List.getElem?_set_self
def dB:= @Nat.le_trans
def dI:= @List.mem_range
def dR:= @List.lookup_cons
def eg:= @Nat.lt_of_lt_of_le
def dX:= @PySem.Heap.get?_push_size
def er:= @Bool.and_eq_true
def ez:= @List.mem_append
def eU:= @Nat.zero_le
def eV:= @List.getElem?_replicate
def eO:= @List.getElem?_eq_none
def eT:= @List.take_length
def fE:= @List.length_cons
def fF:= @List.length_append
def fP:= @Int.emod_nonneg
def fO:= @List.map_map
def fR:= @Option.some.inj
def fT:= @List.getElem?_append_left
def fX:= @List.length_set
def gk:= @List.getElem?_append_right
def fZ:= @Int.emod_lt_of_pos
def gu:= @PySem.W.mg_none_of
def gG:= @List.length_range
def ic:= @List.nodup_cons
def ig:= @List.length_take
def gR:= @Classical.byContradiction
def gZ:= @Int.mul_zero
def ie:= @PyProof.Rows.boot_list
def ia:= @PyProof.Rows.boot_isinstance
def iG:= @Nat.lt_irrefl
def iy:= @List.ext_getElem?
def iH:= @PySem.PassesOwn.never
def iY:= @List.mem_append_right
def iW:= @Bool.eq_iff_iff
def jb:= @List.length_replicate
def ja:= @Int.zero_mul
def iO:= @List.getElem?_of_mem
def jm:= @List.mem_filter
def je:= @Nat.le_of_lt
def ji:= @PySem.W.kia_one
def jv:= @Option.some_ne_none
def jw:= @List.getElem?_cons_succ
def jn:= @PySem.boot_len
def jz:= @List.all_eq_true
def jK:= @List.cons_append
def jO:= @List.mem_map_of_mem
def kh:= @List.mem_append_left
def jZ:= @Array.length_toList
def jW:= @PySem.Heap.size_push
def j8:= @List.append_nil
def kE:= @PySem.Heap.get?_update_other
def kj:= @Option.map_eq_some_iff
def j7:= @List.set_set
def j6:= @Int.mul_ediv_add_emod
def ko:= @Array.getElem?_eq_getElem
def kK:= @List.pairwise_map
def kO:= @Int.toNat_natCast
def k9:= @List.any_cons
def lB:= @List.length_singleton
def kY:= @PySem.Around.under_plainId
def lD:= @List.getElem?_zipWith
def lC:= @Nat.mul_mod
def mq:= @List.all_cons
def mj:= @Nat.mul_comm
def mJ:= @Nat.lt_trans
def mT:= @PySem.F.called_set
def mH:= @List.map_congr_left
def mQ:= @Int.le_of_dvd
def mD:= @List.find?_cons
def oA:= @Nat.ne_of_gt
def nN:= @Nat.le_of_eq
def n6:= @Nat.lt_succ_self
def oE:= @PySem.mem_of_lookup
def nD:= @Bool.or_false
def oh:= @List.replicate_succ
def oq:= @List.map_nil
def nG:= @PySem.SeqAt.canLay_of_shaped
def oj:= @Nat.lt_succ_of_lt
def oH:= @Array.getElem?_toList
def oF:= @List.length_eq_zero_iff
def nR:= @PySem.W.kia_tup
def nM:= @List.sum_cons
def nE:= @Int.emod_def
def n5:= @Int.emod_eq_of_lt
def nV:= @Int.add_zero
def pL:= @List.filterMap_cons
def pS:= @Nat.le_succ
def pX:= @List.any_eq_true
def oW:= @Nat.mul_assoc
def pU:= @Int.zero_emod
def pI:= @List.map_set
def rL:= @PySem.Value.isInt_shape
def rN:= @PyProof.Rows.callWith_type1
def ql:= @List.flatten_cons
def qL:= @List.take_add_one
def rQ:= @Bool.false_or
def qX:= @Int.one_mul
def sI:= @Int.mul_comm
def qB:= @Int.mul_assoc
def rB:= @Int.dvd_add
def qH:= @Int.dvd_mul_of_dvd_right
def qK:= @Array.getElem?_eq_some_iff
def qd:= @List.nodup_append
def rG:= @List.ext_getElem
def rR:= @List.length_zipWith
def qp:= @List.foldl_append
def rT:= @List.mem_or_eq_of_mem_set
def sF:= @List.flatMap_cons
def qm:= @Int.dvd_of_emod_eq_zero
def qh:= @List.mem_of_mem_take
def qj:= @Nat.le_of_ble_eq_true
def uH:= @Int.mul_one
def u5:= @PySem.W.kitx_dict
def ux:= @PySem.Heap.get?_update_self
def wM:= @List.append_assoc
def ue:= @Prod.mk.inj
def wK:= @List.cons.inj
def uB:= @List.sum_append
def vD:= @Int.zero_add
def uG:= @Nat.succ.inj
def t6:= @Array.size_extract
def vW:= @Nat.mod_lt
def tS:= @PySem.F.plain_list_iadd
def vQ:= @List.Nodup.length_le_of_subset
def wz:= @List.take_of_length_le
def uA:= @Int.sub_zero
def uC:= @List.drop_zero
def tQ:= @Nat.mul_one
def tP:= @Nat.zero_mul
def tM:= @Nat.pow_add
def tY:= @PySem.F.slot_list_getattribute
def uz:= @Int.emod_eq_zero_of_dvd
def uN:= @Nat.le_add_right
def tN:= @Int.dvd_mul_right
def uQ:= @List.mem_replicate
def uU:= @List.nodup_range
def tE:= @PyProof.Rows.boot_int
def ua:= @PyProof.Rows.boot_bool
def xo:= @Sum.inl.inj
def wU:= @List.mem_filterMap
def yD:= @PySem.W.plainGet_of
def zA:= @PySem.W.methodCall_KW
def BG:= @PySem.W.kitx_list
def yP:= @PySem.W.callWith_K
def zR:= @List.of_mem_zip
def Cd:= @List.getElem?_take_of_lt
def Bh:= @Nat.le_of_not_lt
def A7:= @Nat.lt_of_le_of_lt
def Am:= @Int.le_refl
def Dg:= @Int.ediv_nonneg
def CL:= @Int.sub_mul
def C8:= @Int.mul_sub
def zJ:= @Array.getD_eq_getD_getElem?
def Dp:= @Array.getElem?_eq_none
def BP:= @Nat.lt_or_eq_of_le
def Cw:= @List.pairwise_lt_range
def Dr:= @PyProof.Rows.F.plain_set_update_loop
def wX:= @Nat.lt_trichotomy
def xH:= @List.range_succ_eq_map
def BY:= @Nat.lt_of_lt_of_eq
def zv:= @List.all_map
def Dk:= @Bool.or_true
def yQ:= @Nat.sub_zero
def B8:= @Int.add_mul_emod_self_left
def ye:= @Nat.pow_succ
def zP:= @Nat.div_add_mod
def Dz:= @Nat.mod_mod
def Bk:= @Nat.pow_zero
def Cs:= @Nat.mod_mod_of_dvd
def xg:= @Nat.one_mul
def z9:= @Nat.le_of_dvd
def ya:= @List.lookup_cons_self
def Aa:= @Option.isSome_map
def Cz:= @Int.dvd_sub
def AQ:= @List.getElem?_zipIdx
def CI:= @List.getElem?_range
def zz:= @List.mem_flatMap
def wY:= @List.Pairwise.imp_of_mem
def z4:= @List.mem_reverse
def xj:= @PySem.F.plainAttrs_list
def yU:= @PySem.F.slot_list_append
def zY:= @PySem.F.type_list_append
def AS:= @PyProof.Rows.boot_all
def DC:= @Bool.eq_false_iff
def DW:= @PySem.Calls.Name_function_global
def DY:= @PySem.W.cellsFrom_some
def IB:= @Option.isSome_iff_exists
def J7:= @List.filterMap_cons_some
def Iz:= @Array.getElem?_push
def Jh:= @Array.getElem?_extract_of_lt
def IW:= @List.getElem?_toArray
def Ij:= @List.pairwise_iff_getElem
def DQ:= @List.length_eraseIdx_of_lt
def E7:= @PySem.F.entry_proto_collect
def HU:= @PySem.F.plain_proto_collect
def Ea:= @PySem.F.entry_list_iadd
def Kc:= @PySem.F.plain_extend_loop
def Eg:= @PySem.Calls.call_function_entry
def J1:= @Nat.dvd_of_mod_eq_zero
def EB:= @Int.eq_ofNat_of_zero_le
def Gf:= @Int.emod_add_mul_ediv
def Ji:= @PySem.F.slot_dict_items
def EV:= @List.length_flatMap
def DP:= @List.sum_replicate_nat
def Ig:= @List.pairwise_flatMap
def Gy:= @Nat.pow_le_pow_iff_right
def J3:= @PyProof.Rows.boot_tuple
def EW:= @PyProof.Rows.boot_str
def JA:= @List.replicate_succ'
def Ei:= @PyProof.Rows.boot_sorted
def FF:= @Bool.and_eq_true_iff
namespace L2
open PySem PySem.Spec PyProof.Rows
abbrev Key:=Sum Int Str
def pG:Key->Value->Bool
 | .inl k,v=>Value.isInt k v
 | .inr x,v=>Value.isStrOf x v
def VB(w:World):Key->Int
 | .inl k=>hashInt k
 | .inr x=>hashStr w x
theorem lu:∀{k:Key} {v:Value},pG k v=true->(∃i t,k=Sum.inl i/\v=Value.int i t)\/(∃x t,k=Sum.inr x/\v=Value.str x t)
  | .inl i, v, h => by
    obtain⟨t,e⟩:=rL (k:=i) (v:=v) h
    exact .inl ⟨i,t,rfl,e⟩
  | .inr x, v, h => by
    obtain⟨t,e⟩:=Value.isStrOf_shape (x:=x) (v:=v) h
    exact .inr ⟨x,t,rfl,e⟩
theorem UH(i:Int)(t:Tok):pG (.inl i) (.int i t)=true:=by simp[pG,Value.isInt]
theorem QF(x:Str)(t:Tok):pG (.inr x) (.str x t)=true:=by simp[pG,Value.isStrOf]
theorem Wb(a b:Int):decide ((Sum.inl a:Key)=Sum.inl b)=(a==b):=by
 by_cases e:a=b
 ·subst e;simp
 ·have h:¬(Sum.inl a:Key)=Sum.inl b:=fun q=>e (xo q)
  rw[decide_eq_false h]
  exact(beq_eq_false_iff_ne.mpr e).symm
theorem QM(a b:Str):decide ((Sum.inr a:Key)=Sum.inr b)=decide (a=b):=by
 by_cases e:a=b
 ·subst e;simp
 ·have h:¬(Sum.inr a:Key)=Sum.inr b:=fun q=>e (Sum.inr.inj q)
  rw[decide_eq_false h,decide_eq_false e]
theorem OD(a:Int)(b:Str):decide ((Sum.inl a:Key)=Sum.inr b)=false:=decide_eq_false (fun q=>nomatch q)
theorem Ot(a:Str)(b:Int):decide ((Sum.inr a:Key)=Sum.inl b)=false:=decide_eq_false (fun q=>nomatch q)
def c9(prog:Program)(w:World):PySem.KeyKind prog w Key where
 is:=pG
 hash:=VB w
 inj:=fun v a b ha hb=>by
  rcases lu ha with ⟨i,t,rfl,rfl⟩|⟨x,t,rfl,rfl⟩
  ·rcases lu hb with ⟨j,u,rfl,e⟩|⟨y,u,rfl,e⟩
   ·injection e with e1 _;rw[e1]
   ·exact nomatch e
  ·rcases lu hb with ⟨j,u,rfl,e⟩|⟨y,u,rfl,e⟩
   ·exact nomatch e
   ·injection e with e1 _;rw[e1]
 byValue:=fun k v h=>by
  rcases lu h with ⟨i,t,rfl,rfl⟩|⟨x,t,rfl,rfl⟩<;>rfl
 pyHash:=fun hv h=>by
  rcases lu hv with ⟨i,t,rfl,rfl⟩|⟨x,t,rfl,rfl⟩
  ·exact wpAny_pyHash_int h
  ·exact wpAny_pyHash_str h
 eqBool:=fun hu hv h=>by
  rcases lu hu with ⟨i,t,rfl,rfl⟩|⟨x,t,rfl,rfl⟩
  ·rcases lu hv with ⟨j,u,rfl,rfl⟩|⟨y,u,rfl,rfl⟩
   ·rw[Wb] at h;exact wpAny_eqBool_int h
   ·rw[OD] at h;exact SeqAt.EqAt.int_str i t y u _ _ _ _ h
  ·rcases lu hv with ⟨j,u,rfl,rfl⟩|⟨y,u,rfl,rfl⟩
   ·rw[Ot] at h;exact SeqAt.EqAt.str_int x t j u _ _ _ _ h
   ·rw[QM] at h;exact wpAny_eqBool_str h
 «strs» :=fun k x t v h=>by
  rcases lu h with ⟨i,u,rfl,e⟩|⟨y,u,rfl,e⟩
  ·exact nomatch e
  ·injection e with e1 _
   subst e1
   cases v<;>rfl
theorem Sh(prog:Program)(w:World)(i:Int)(t:Tok):(c9 prog w).is (.inl i) (.int i t)=true:=UH i t
theorem MP(prog:Program)(w:World)(x:Str)(t:Tok):(c9 prog w).is (.inr x) (.str x t)=true:=QF x t
inductive V where
 |aE|bl (b:Bool)|int (i:Int)|str (x:Str)|iE (b:Array UInt8)|kH (b:UInt64)|ref (a:Addr)|ty (n:String)
 deriving DecidableEq
def RelV:V->Value->Prop
 | .aE,u=>u=Value.none
 | .bl b,u=>u=Value.bool b
 | .int i,u=>∃t,u=Value.int i t
 | .str x,u=>∃t,u=Value.str x t
 | .iE b,u=>∃t,u=Value.bytes b t
 | .kH b,u=>∃t,u=Value.float b t
 | .ref a,u=>u=Value.ref a
 | .ty n,u=>u=Value.type n
abbrev Vals:List V->List Value->Prop:=Paired RelV
theorem Vals.length{xs:List V}{us:List Value}(r:Vals xs us):xs.length=us.length:=Paired.length r
theorem Vals.get:∀{xs:List V} {us:List Value} {i:Nat} {x:V},Vals xs us->xs[i]?=some x->∃u,us[i]?=some u/\RelV x u
  |_,_,_,_, .nil,e=>by simp at e
  |_,_,0,_, .cons r _,e=>by simp at e;subst e;exact⟨_,rfl,r⟩
  | _, _, i + 1, x, .cons _ t, e => by
    obtain⟨u,h1,h2⟩:=Vals.get (i:=i) (x:=x) t (by simpa using e)
    exact⟨u,by simpa using h1,h2⟩
theorem Vals.set{x:V}{u:Value}(r:RelV x u):∀{xs:List V} {us:List Value} (i:Nat),Vals xs us->Vals (xs.set i x) (us.set i u)
 |_,_,_, .nil=> .nil
 |_,_,0, .cons _ t=> .cons r t
 |_,_,i+1, .cons q t=> .cons q (Vals.set r i t)
theorem Vals.append:∀{xs ys:List V} {us ws:List Value},Vals xs us->Vals ys ws->Vals (xs++ys) (us++ws)
 |_,_,_,_, .nil,s=>s
 |_,_,_,_, .cons r t,s=> .cons r (Vals.append t s)
theorem Vals.take:∀{xs:List V} {us:List Value} (n:Nat),Vals xs us->Vals (xs.take n) (us.take n)
 |_,_,0,_=> .nil
 |_,_,_+1, .nil=> .nil
 |_,_,n+1, .cons r t=> .cons r (Vals.take n t)
theorem Vals.drop:∀{xs:List V} {us:List Value} (n:Nat),Vals xs us->Vals (xs.drop n) (us.drop n)
 |_,_,0,r=>r
 |_,_,_+1, .nil=> .nil
 |_,_,n+1, .cons _ t=>Vals.drop n t
def gV:Option V->Option Value->Prop
 |some v,some u=>RelV v u
 |none,none=>True
 |_,_=>False
def KV{κ:Type}:List (κ×V)->List (κ×Value)->Prop:=Paired fun(p:κ×V) (q:κ×Value)=>p.1=q.1/\RelV p.2 q.2
def kV:Key->V
 | .inl i=> .int i
 | .inr x=> .str x
inductive HO where
  |lst (xs:List V)
  |tup (xs:List V)
  |dK (kvs:List (Key×V))|dT (kvs:List (List Key×V))
  |set (S:Int->Bool) (n:Nat)
  |ins (C dx:Addr) (fs:List (Str×V))
  |own (x:Addr)
  |xd (fs:List (Str×V))
  |met (f x:Addr)
  |mY (lo hi:Int)
  |bG (o:Obj) (u:HO)
  |mZ (ps:Array Value)
  |ext (φ:Heap->Prop)
abbrev Hp:=Addr->Option HO
def upd(H:Hp)(a:Addr)(o:HO):Hp:=fun b=>if b=a then some o else H b
theorem aR{H:Hp}{a:Addr}{o:HO}:upd H a o a=some o:=by unfold upd;rw[if_pos rfl]
theorem aA{H:Hp}{a b:Addr}{o:HO}(h:b≠a):upd H a o b=H b:=by unfold upd;rw[if_neg h]
theorem BH{H:Hp}{a:Addr}{o u:HO}:upd (upd H a o) a u=upd H a u:=by
 funext b;unfold upd;split<;>rfl
theorem gH{H:Hp}{a b:Addr}{o:HO}(h:H a=some o)(h':H b=none):a≠b:=by
 intro e;subst e;rw[h] at h';cases h'
section
variable(P:Program)(w:World)
def bK(H:Hp)(h:Heap)(a:Addr):HO->Prop
 | .lst xs=>xs.length<=sizeLine/\∃(its:List Value) (n:Nat),Vals xs its/\h.get? a=some {cls:= .type "list",data:= .seq its.toArray n}
 | .tup xs=>xs.length<=sizeLine/\∃its:List Value,Vals xs its/\IsTup h a its.toArray
 | .dK kvs=>kvs.length<=sizeLine/\(a==sysModules)=false/\∃vs,KV kvs vs/\h.DictOf (c9 P w) a vs
 | .dT kvs => kvs.length <= sizeLine /\ (a == sysModules) = false /\ ∃ xs : List (List Key × Addr × Value),
   Paired (fun(p:List Key×V) (q:List Key×Addr×Value)=>p.1=q.1/\H q.2.1=some (.tup (p.1.map kV))/\RelV p.2 q.2.2) kvs xs/\
   ∃o es ep,h.get? a=some o/\o.ExactDict/\o.data= .dict es ep/\es.toList=xs.map (entryOfKey (tupleKind (c9 P w)))/\(xs.map (·.1)).Nodup
 | .set S n=>h.SetOf (intKind P w) a S n
 | .ins C dx fs => H dx = some (.own a) /\ fs.length <= 1000 /\ dx ≠ a /\ h.get? a = some (PySem.W.instObj C dx) /\
   ∃mA,h.Ns1 dx mA/\(∀f,gV (fs.lookup f) (mA f))/\PySem.Within mA (fs.map (·.1))
 | .own _=>∃o,h.get? a=some o
 | .xd fs=>∃mA,h.Ns1 a mA/\∀f,gV (fs.lookup f) (mA f)
 | .mY lo hi=>∃t u v,h.get? a=some {cls:= .type "range",data:= .fields #[.int lo t, .int hi u, .int 1 v]}
 | .bG o u=>h.get? a=some o/\bK H h a u
 | .mZ ps=>h.get? a=some {cls:= .none,data:= .fields ps}
 | .met f x=>h.get? a=some (PySem.W.methodObj (.ref f) (.ref x))
 | .ext φ=>φ h/\(∃o,h.get? a=some o)/\∀h1 h2:Heap,φ h1->(∀o,h1.get? a=some o->h2.get? a=some o)->φ h2
def cX(H:Hp)(h:Heap):Prop:=∀a o,H a=some o->bK P w H h a o
end
section
variable{P:Program}{w:World}{H H':Hp}{h h':Heap}{a:Addr}{o:HO}
theorem bK.lt(x:bK P w H h a o):a<h.objs.size:=by
 cases o with
 |lst xs=>obtain⟨_,_,_,_,e⟩:=x;exact bw e
 |tup xs=>obtain⟨_,_,_,p⟩:=x;exact p.lt
 |dK kvs=>obtain⟨_,_,_,_,o,_,_,e,_⟩:=x;exact bw e
 |dT kvs=>obtain⟨_,_,_,_,o,_,_,e,_⟩:=x;exact bw e
 |set S n=>obtain⟨o,_,_,_,e,_⟩:=x;exact bw e
 |ins C dx fs=>obtain⟨_,_,_,e,_⟩:=x;exact bw e
 |own y=>obtain⟨_,e⟩:=x;exact bw e
 |xd fs=>obtain⟨_,⟨_,_,_,e,_⟩,_⟩:=x;exact bw e
 |mY lo hi=>obtain⟨_,_,_,e⟩:=x;exact bw e
 |bG ob u=>obtain⟨e,_⟩:=x;exact bw e
 |mZ ps=>exact bw (show h.get? a=some _ from x)
 |met f y=>exact bw (show h.get? a=some _ from x)
 |ext φ=>obtain⟨_,⟨_,e⟩,_⟩:=x;exact bw e
theorem Paired.Km{α β:Type}{F G:α->β->Prop}:∀{l₁:List α} {l₂:List β},Paired F l₁ l₂->(∀a b,F a b->G a b)->Paired G l₁ l₂
 |_,_, .nil,_=> .nil
 |_,_, .cons r t,f=> .cons (f _ _ r) (Paired.Km t f)
theorem bK.stay(x:bK P w H h a o)(k:∀b u,(b=a\/H b=some (.own a))->h.get? b=some u->h'.get? b=some u)
    (ho:∀b,H b=some (.own a)->H' b=some (.own a)) (ht:∀b xs,H b=some (.tup xs)->H' b=some (.tup xs)):bK P w H' h' a o:=by
  induction o with
  |lst xs=>obtain⟨z,its,n,r,e⟩:=x;exact⟨z,its,n,r,k _ _ (.inl rfl) e⟩
  |tup xs=>obtain⟨z,its,r,ob,e,c⟩:=x;exact⟨z,its,r,ob,k _ _ (.inl rfl) e,c⟩
  |dK kvs=>obtain⟨z,y,vs,r,ob,es,ep,e,c⟩:=x;exact⟨z,y,vs,r,ob,es,ep,k _ _ (.inl rfl) e,c⟩
  | dT kvs =>
    obtain⟨z,y,xs,r,ob,es,ep,e,c⟩:=x
    exact⟨z,y,xs,Paired.Km r fun p q z=>⟨z.1,ht _ _ z.2.1,z.2.2⟩,ob,es,ep,k _ _ (.inl rfl) e,c⟩
  |set S n=>obtain⟨ob,es,ep,t,e,c⟩:=x;exact⟨ob,es,ep,t,k _ _ (.inl rfl) e,c⟩
  | ins C dx fs =>
    obtain⟨d,z,ne,e,mA,⟨od,es,ep,e2,c⟩,r⟩:=x
    exact⟨ho _ d,z,ne,k _ _ (.inl rfl) e,mA,⟨od,es,ep,k _ _ (.inr d) e2,c⟩,r⟩
  |own y=>obtain⟨ob,e⟩:=x;exact⟨ob,k _ _ (.inl rfl) e⟩
  |xd fs=>obtain⟨mA,⟨od,es,ep,e,c⟩,r⟩:=x;exact⟨mA,⟨od,es,ep,k _ _ (.inl rfl) e,c⟩,r⟩
  |mY lo hi=>obtain⟨t,u,v,e⟩:=x;exact⟨t,u,v,k _ _ (.inl rfl) e⟩
  |bG ob u ih=>obtain⟨e,q⟩:=x;exact⟨k _ _ (.inl rfl) e,ih q⟩
  | mZ ps =>
    have e:h.get? a=some {cls:= .none,data:= .fields ps}:=x
    show h'.get? a=some {cls:= .none,data:= .fields ps}
    exact k a _ (.inl rfl) e
  | met f y =>
    have e:h.get? a=some (PySem.W.methodObj (.ref f) (.ref y)):=x
    show h'.get? a=some (PySem.W.methodObj (.ref f) (.ref y))
    exact k a _ (.inl rfl) e
  |ext φ=>obtain⟨p,⟨o,e⟩,st⟩:=x;exact⟨st _ _ p fun o q=>k _ _ (.inl rfl) q,⟨o,k _ _ (.inl rfl) e⟩,st⟩
theorem cX.lt(x:cX P w H h)(e:H a=some o):a<h.objs.size:=(x a o e).lt
theorem cX.fresh(x:cX P w H h)(e:h.objs.size<=a):H a=none:=by
 cases q:H a with
 |none=>rfl
 |some u=>exact absurd (eg (x.lt q) e) (iG _)
theorem cX.kept(x:cX P w H h)(k:∀b u,h.get? b=some u->h'.get? b=some u):cX P w H h':=fun a o e=>
 (x a o e).stay (fun b u _ q=>k b u q) (fun _ q=>q) fun _ _ q=>q
theorem cX.laid(x:cX P w H h)(k:∀b u,h.get? b=some u->h'.get? b=some u)(hp:h.objs.size<=a)(new:bK P w (upd H a o) h' a o):cX P w (upd H a o) h':=fun b u e=>by
 have hn:=x.fresh hp
 by_cases hb:b=a
 ·subst hb;rw[aR] at e;cases e;exact new
 ·rw[aA hb] at e
  exact(x b u e).stay (fun c v _ q=>k c v q) (fun c q=>by rw[aA (gH q hn)];exact q) fun c xs q=>by rw[aA (gH q hn)];exact q
end
def Rd(H:Hp)(a:Addr)(u:HO):Prop:=H a=some u\/∃o,H a=some (.bG o u)
theorem Rd.ok{P:Program}{w:World}{H:Hp}{h:Heap}{a:Addr}{u:HO}(r:Rd H a u)(x:cX P w H h):bK P w H h a u:=by
 rcases r with r|⟨o,r⟩
 ·exact x a u r
 ·obtain⟨_,q⟩:=x a _ r
  exact q
def qE:Option HO->Prop
 |some (.lst _)=>True
 |some (.dK _)=>True
 |some (.dT _)=>True
 |some (.set _ _)=>True
 |some (.ins _ _ _)=>True
 |some (.ext _)=>True
 |_=>False
section
variable{P:Program}{w:World}{H:Hp}{h h':Heap}{x e:Addr}{o':HO}
theorem cX.write(ok:cX P w H h)(mu:qE (H x))(he:e=x\/H e=some (.own x))(k:∀b u,b≠e->h.get? b=some u->h'.get? b=some u)(pA:∃u,h'.get? e=some u)
  (new:bK P w (upd H x o') h' x o'):cX P w (upd H x o') h':=fun b u q=>by
 have HS:∀c y,H c=some (.own y)->c≠x:=fun c y r z=>by subst z;rw[r] at mu;exact mu
 have N3:∀c xs,H c=some (.tup xs)->c≠x:=fun c xs r z=>by subst z;rw[r] at mu;exact mu
 by_cases hb:b=x
 ·subst hb;rw[aR] at q;cases q;exact new
 ·rw[aA hb] at q
  by_cases nJ:b=e
  ·have q':H b=some (.own x):=by
    rcases he with z|z
    ·exact absurd (nJ.trans z) hb
    ·rw[nJ];exact z
   rw[q] at q';cases q'
   obtain⟨v,hv⟩:=pA
   exact⟨v,by rw[nJ];exact hv⟩
  ·refine(ok b u q).stay (fun c v hc r=>k c v ?_ r) (fun c r=>by rw[aA (HS c b r)];exact r) fun c xs r=>by rw[aA (N3 c xs r)];exact r
   rcases hc with rfl|hc
   ·exact nJ
   ·rintro rfl
    rcases he with z|z
    ·exact HS c b hc z
    ·rw[hc] at z;cases z;exact hb rfl
end
structure Un(fs ex:List Addr)(H H':Hp)(h h':Heap):Prop where
 keep:∀b o,h.get? b=some o->H b=none->b∉fs->b∉ex->h'.get? b=some o
 slot:∀b o,h.get? b=some o->H b=none->b∈fs->b∉ex->∃sl,h'.get? b=some {o with slots:=sl}
 free:∀b o,h.get? b=some o->H b=none->b∉ex->H' b=none
 there:∀b o,h.get? b=some o->b∉ex->∃o',h'.get? b=some o'
 tups:∀b xs,H b=some (.tup xs)->H' b=some (.tup xs)
 jI:∀b o u,H b=some (.bG o u)->H' b=some (.bG o u)
 k6:∀b ps,H b=some (.mZ ps)->∃more,H' b=some (.mZ (ps++more))
section
variable{fs fs' ex ex':List Addr}{H H1 H2:Hp}{h h1 h2 h':Heap}{a x e:Addr}{o:HO}
theorem Un.any(u:Un fs ex H H1 h h1){b:Addr}{ob:Obj}(q:h.get? b=some ob)(n:H b=none)(hx:b∉ex):∃sl,h1.get? b=some {ob with slots:=sl}:=by
 by_cases hb:b∈fs
 ·exact u.slot b ob q n hb hx
 ·exact⟨ob.slots,u.keep b ob q n hb hx⟩
theorem Un.kept(k:∀b u,h.get? b=some u->h'.get? b=some u):Un fs ex H H h h':=
 ⟨fun b ob q _ _ _=>k b ob q,fun b ob q _ _ _=>⟨ob.slots,k b ob q⟩,fun _ _ _ n _=>n,fun b ob q _=>⟨ob,k b ob q⟩,fun _ _ q=>q,fun _ _ _ q=>q,fun _ ps q=>⟨#[],by rw[q];simp⟩⟩
theorem Un.refl:Un fs ex H H h h:=Un.kept fun _ _ q=>q
theorem Un.laid(k:∀b u,h.get? b=some u->h'.get? b=some u)(hp:h.objs.size<=a)(hn:H a=none):Un fs ex H (upd H a o) h h' where
 keep:=fun b u q _ _ _=>k b u q
 slot:=fun b u q _ _ _=>⟨u.slots,k b u q⟩
 free:=fun b u q n _=>by rw[aA (cG (eg (bw q) hp))];exact n
 there:=fun b u q _=>⟨u,k b u q⟩
 tups:=fun b xs q=>by rw[aA (gH q hn)];exact q
 jI:=fun b u xs q=>by rw[aA (gH q hn)];exact q
 k6:=fun b ps q=>⟨#[],by rw[aA (gH q hn),q];simp⟩
theorem Un.write(mu:qE (H x))(he:e=x\/H e=some (.own x))(k:∀b u,b≠e->h.get? b=some u->h'.get? b=some u)(pA:∃u,h'.get? e=some u):Un fs ex H (upd H x o) h h':=by
 have hx:∀b,H b=none->b≠x:=fun b n z=>by subst z;rw[n] at mu;exact mu
 have hb:∀b,H b=none->b≠e:=fun b n z=>by
  subst z
  rcases he with r|r
  ·exact hx b n r
  ·rw[n] at r;cases r
 have hm:∀b u,H b=some u->¬qE (some u)->b≠x:=fun b u q nm z=>by subst z;rw[q] at mu;exact nm mu
 refine⟨fun b u q n _ _=>k b u (hb b n) q,fun b u q n _ _=>⟨u.slots,k b u (hb b n) q⟩,fun b u q n _=>by rw[aA (hx b n)];exact n,fun b u q _=>?_,
  fun b xs q=>by rw[aA (hm b _ q fun z=>z)];exact q,fun b u xs q=>by rw[aA (hm b _ q fun z=>z)];exact q,fun b ps q=>⟨#[],by rw[aA (hm b _ q fun z=>z),q];simp⟩⟩
 by_cases nJ:b=e
 ·subst nJ;exact pA
 ·exact⟨u,k b u nJ q⟩
end
def v5(h:Heap)(H:Hp):List Addr:=(List.range h.objs.size).filter fun a=>(H a).isSome
def k8(h:Heap)(H:Hp):Heap:=PySem.W.hideAll h (v5 h H)
theorem WW(h:Heap)(H:Hp):(k8 h H).objs.size=h.objs.size:=PySem.W.hideAll_size _ _
theorem Vz{h:Heap}{H:Hp}{b:Addr}{o:Obj}(e:h.get? b=some o)(n:H b=none):(k8 h H).get? b=some o:=
 PySem.W.hideAll_get _ e fun hm=>by
  have q:(H b).isSome=true:=(jm.mp hm).2
  rw[n] at q;simp at q
theorem NL{h:Heap}{H:Hp}{b:Addr}{o:Obj}(e:(k8 h H).get? b=some o):h.get? b=some o/\H b=none:=by
  have e':h.get? b=some o:=PySem.W.of_hideAll (v5 h H) e
  refine⟨e',?_⟩
  cases q:H b with
  |none=>rfl
  | some x =>
    have hm:b∈v5 h H:=jm.mpr ⟨dI.mpr (bw e'),by simp[q]⟩
    have z:(k8 h H).get? b=none:=PySem.W.hideAll_none (v5 h H) hm
    rw[z] at e;cases e
def Rx(g h:Heap)(L:Addr):List (Addr×Obj):=(List.range h.objs.size).filterMap fun a=>if a=L\/(g.get? a).isSome=true then none else(h.get? a).map fun o=>(a,o)
def rest(g h:Heap)(L d:Addr):List (Addr×Obj):=(Rx g h L).filter fun p=>decide (p.1≠d)
structure Mod(K:PySem.W.Frag)(mg:Str->Option Value)(base:Heap):Prop where
 qS:K.In base
 glob:base.Ns mainGlobals mg
 blt:∃mb,base.Ns builtinsNs mb/\∀x:Str,x≠"__name__" ->mb x=bootBuiltins x
 nolimit:base.NoLimit
structure Cx where
 prog:Program
 w:World
 K:PySem.W.Frag
 mg:Str->Option Value
 base:Heap
 A:Around
 N:List Str
 s₀:Shared
 H₀:Hp
 env:Env
 outer:List Env
 stack:List Env
 ex:List Addr
 fn:Str->Bool
 calm:Bool
 pn:List (Addr×Obj)
 xe:Value->Shared->Prop
def frs(l:List Env):List Addr:=l.filterMap (·.frame)
abbrev Cx.fs(X:Cx):List Addr:=frs X.outer
def yh(sc:Scope)(x:Str):Prop:=sc.names.lookup x=some .local\/sc.names.lookup x=some .cell\/sc.names.lookup x=some .free
def Loc(sc:Scope)(x:Str):Prop:=sc.names.lookup x=some .local\/sc.names.lookup x=some .cell
def Look(env:Env)(h:Heap)(m:Str->Option Value)(x:Str)(u:Value):Prop:=
 (env.kindOf x=some .local/\m x=some u)\/((env.kindOf x=some .cell\/env.kindOf x=some .free)/\∃c,env.cells.lookup x=some c/\h.IsCell c (some u))
structure Cx.Ok(X:Cx):Prop where
 mod:Mod X.K X.mg X.base
 kind:X.env.scope.kind= .function
 glob:X.env.globals=mainGlobals
 blt:X.env.builtins=builtinsNs
 above:X.s₀.heap.objs.size<=X.env.locals
 inj:∀x y c,X.env.cells.lookup x=some c->X.env.cells.lookup y=some c->x=y
 has:∀x,(X.env.kindOf x=some .cell\/X.env.kindOf x=some .free)->∃c,X.env.cells.lookup x=some c
 rM:∀x c,X.fn x=true->X.env.cells.lookup x=some c->X.s₀.heap.objs.size<=c
 hd:X.calm=true->X.A.handled=none
 frames:X.A.frames=some X.stack
 stk:X.stack=X.outer\/(X.stack=X.env::X.outer/\X.env.frame=some X.env.locals)
 wm:∀b∈X.ex,b≠X.env.locals/\∀x c,X.env.cells.lookup x=some c->c≠b
 bs:∀b o,X.base.get? b=some o->X.s₀.heap.get? b=some o/\X.H₀ b=none
 lV:X.base.objs.size<=X.s₀.heap.objs.size
 sf:∀b o,X.base.get? b=some o->b∉X.ex
 sD:∀b∈X.ex,b∉X.fs
 jk:X.s₀.heap.FunFrames X.base X.outer
 m9:∀b∈X.fs,X.H₀ b=none
structure Inv(X:Cx)(pins:List (Addr×Obj))(σ:List (Option V))(H:Hp)(s:Shared):Prop where
 ok:X.Ok
 os:s.os=X.s₀.os
 bare:AllBare s.gens
 base:Un X.fs X.ex X.H₀ H X.s₀.heap s.heap
 loc:∃m,s.heap.Ns X.env.locals m/\∀(i:Nat) (x:Str) (v:V),X.N[i]?=some x->σ[i]?=some (some v)->yh X.env.scope x->∃u,RelV v u/\Look X.env s.heap m x u
 cell:∀x c,X.env.cells.lookup x=some c->∃v,s.heap.IsCell c v
 free:H X.env.locals=none
 i8:∀x c,X.env.cells.lookup x=some c->H c=none
 pin:∀p∈X.pn++pins,s.heap.get? p.1=some p.2/\H p.1=none/\p.1≠X.env.locals/\p.1∉X.fs/\∀v,p.2.data≠ .cell v
 hok:cX X.prog X.w H s.heap
 len:σ.length=X.N.length
section
variable{X:Cx}{pins:List (Addr×Obj)}{σ:List (Option V)}{H H':Hp}{s:Shared}{h':Heap}
theorem Cx.Ok.NC(ok:X.Ok){b:Addr}{o:Obj}(e:X.base.get? b=some o):b∉X.fs:=fun hb=>by
 have:=(ok.jk.mem hb).1
 rw[e] at this;cases this
theorem Inv.bs(I:Inv X pins σ H s):∀b o,X.base.get? b=some o->s.heap.get? b=some o/\H b=none:=fun b o e=>
 ⟨I.base.keep b o (I.ok.bs b o e).1 (I.ok.bs b o e).2 (I.ok.NC e) (I.ok.sf b o e),I.base.free b o (I.ok.bs b o e).1 (I.ok.bs b o e).2 (I.ok.sf b o e)⟩
theorem Inv.bk(I:Inv X pins σ H s):∀b o,X.base.get? b=some o->s.heap.get? b=some o:=fun b o e=>(I.bs b o e).1
theorem Inv.mod(I:Inv X pins σ H s):Mod X.K X.mg X.base:=I.ok.mod
theorem Inv.cK(I:Inv X pins σ H s):X.K.In s.heap:=I.ok.mod.qS.keeps I.bk
theorem Inv.lt(I:Inv X pins σ H s):X.env.locals<s.heap.objs.size:=let ⟨_,hn,_⟩:=I.loc;hn.lt
theorem Inv.sz(I:Inv X pins σ H s):X.s₀.heap.objs.size<=s.heap.objs.size:=dB I.ok.above (je I.lt)
theorem Inv.Qa(I:Inv X pins σ H s){a:Addr}(h:s.heap.objs.size<=a):a∉X.fs:=fun hb=>by
 obtain⟨_,o,ho,_⟩:=I.ok.jk.mem hb
 exact absurd (eg (bw ho) (dB I.sz h)) (iG _)
theorem Inv.nK(I:Inv X pins σ H s):∀x c,X.env.cells.lookup x=some c->c≠X.env.locals:=fun x c e z=>by
 obtain⟨v,o,ho,hd⟩:=I.cell x c e
 obtain⟨m,⟨o',es,ep,ho',hd',_⟩,_⟩:=I.loc
 rw[z,ho'] at ho;cases ho;rw[hd'] at hd;cases hd
theorem Inv.jk(I:Inv X pins σ H s):s.heap.FunFrames X.base X.outer:=by
  have all:∀(l:List Env),(∀b∈frs l,b∈X.fs)->X.s₀.heap.FunFrames X.base l->s.heap.FunFrames X.base l:=by
    intro l
    induction l with
    |nil=>intro _ _;trivial
    | cons env r ih =>
      intro hs hl
      obtain⟨hk,⟨L,o,hf,hn,ho,hd⟩,hr⟩:=hl
      have hL:L∈X.fs:=hs L (by unfold frs;rw[pL,hf];exact ck)
      obtain⟨sl,e⟩:=I.base.slot L o ho (I.ok.m9 L hL) hL fun z=>I.ok.sD L z hL
      exact⟨hk,⟨L,_,hf,hn,e,hd⟩,ih (fun b hb=>hs b (by unfold frs;rw[pL,hf];exact bJ _ hb)) hr⟩
  exact all X.outer (fun _ hb=>hb) I.ok.jk
theorem Inv.stack(I:Inv X pins σ H s):s.heap.FunFrames X.base X.stack:=by
 rcases I.ok.stk with e|⟨e,hf⟩
 ·rw[e];exact I.jk
 ·rw[e]
  obtain⟨m,hn,_⟩:=I.loc
  refine .cons (by rw[I.ok.kind];decide) hf hn ?_ I.jk
  exact Heap.get?_none_of_le (dB I.ok.lV I.ok.above)
theorem Inv.Br(I:Inv X pins σ H s):∀b∈frs X.stack,b∈X.env.locals::X.fs:=fun b hb=>by
 rcases I.ok.stk with e|⟨e,hf⟩
 ·rw[e] at hb;exact bJ _ hb
 ·rw[e] at hb
  unfold frs at hb
  rw[pL,hf] at hb
  exact hb
theorem Inv.Hz(I:Inv X pins σ H s):∀b∈frs X.stack,H b=none:=fun b hb=>by
 rcases aP.mp (I.Br b hb) with e|hb
 ·rw[e];exact I.free
 ·obtain⟨_,o,ho,_⟩:=I.ok.jk.mem hb
  exact I.base.free b o ho (I.ok.m9 b hb) fun z=>I.ok.sD b z hb
theorem Inv.step{g':Array GenState}{t':Nat}{d':Drawn}{ch:List Addr}(I:Inv X pins σ H s)
  (hch:∀b∈ch,(b∈X.ex\/X.s₀.heap.objs.size<=b)/\b≠X.env.locals/\(∀x c,X.env.cells.lookup x=some c->c≠b)/\∀p∈X.pn++pins,p.1≠b)
  (keep:∀b o,b≠X.env.locals->b∉X.fs->b∉ch->s.heap.get? b=some o->H b=none->h'.get? b=some o)
  (slot:∀b o,b≠X.env.locals->b∈X.fs->b∉ch->s.heap.get? b=some o->H b=none->∃sl,h'.get? b=some {o with slots:=sl}) (free:∀b o,b∉ch->s.heap.get? b=some o->H b=none->H' b=none)
  (there:∀b o,b∉ch->s.heap.get? b=some o->∃o',h'.get? b=some o')
  (tups:∀b xs,H b=some (.tup xs)->H' b=some (.tup xs)) (jI:∀b o u,H b=some (.bG o u)->H' b=some (.bG o u)) (k6:∀b ps,H b=some (.mZ ps)->∃more,H' b=some (.mZ (ps++more)))
  (ns:∀m,s.heap.Ns X.env.locals m->h'.Ns X.env.locals m) (hok:cX X.prog X.w H' h') (hg:AllBare g'):
  Inv X pins σ H' {s with heap:=h',gens:=g',drawn:=d',toks:=t'}:=by
 have JH:∀b o,X.s₀.heap.get? b=some o->b≠X.env.locals:=fun b o e=>cG (eg (bw e) I.ok.above)
 have t9:∀b o,X.s₀.heap.get? b=some o->b∉X.ex->b∉ch:=fun b o e hx hb=>by
  rcases(hch b hb).1 with z|z
  ·exact hx z
  ·exact absurd (eg (bw e) z) (iG _)
 have cellK:∀x c,X.env.cells.lookup x=some c->∀v,s.heap.IsCell c v->h'.IsCell c v:=fun x c e v ⟨o,ho,hd⟩=>by
  have sC:c∉ch:=fun z=>(hch c z).2.2.1 x c e rfl
  by_cases hc:c∈X.fs
  ·obtain⟨sl,q⟩:=slot c o (I.nK x c e) hc sC ho (I.i8 x c e)
   exact⟨_,q,hd⟩
  ·exact⟨o,keep c o (I.nK x c e) hc sC ho (I.i8 x c e),hd⟩
 refine⟨I.ok,I.os,hg,⟨fun b o e n hb hx=>?_,fun b o e n hb hx=>?_,fun b o e n hx=>?_,fun b o e hx=>?_,fun b xs e=>tups b xs (I.base.tups b xs e),fun b o xs e=>jI b o xs (I.base.jI b o xs e),fun b ps e=>?_⟩,?_,fun x c e=>?_,?_,fun x c e=>?_,fun p hp=>?_,hok,I.len⟩
 ·exact keep b o (JH b o e) hb (t9 b o e hx) (I.base.keep b o e n hb hx) (I.base.free b o e n hx)
 ·obtain⟨sl,e1⟩:=I.base.slot b o e n hb hx
  obtain⟨WD,e2⟩:=slot b _ (JH b o e) hb (t9 b o e hx) e1 (I.base.free b o e n hx)
  exact⟨WD,e2⟩
 ·obtain⟨o',e1⟩:=I.base.there b o e hx
  exact free b o' (t9 b o e hx) e1 (I.base.free b o e n hx)
 ·obtain⟨o',e1⟩:=I.base.there b o e hx
  exact there b o' (t9 b o e hx) e1
 ·obtain⟨m1,e1⟩:=I.base.k6 b ps e
  obtain⟨m2,e2⟩:=k6 b _ e1
  exact⟨m1++m2,by rw[e2,Array.append_assoc]⟩
 ·obtain⟨m,hn,hl⟩:=I.loc
  refine⟨m,ns m hn,fun i x v e1 e2 e3=>?_⟩
  obtain⟨u,r,l⟩:=hl i x v e1 e2 e3
  refine⟨u,r,?_⟩
  rcases l with l|⟨k,c,e,z⟩
  ·exact .inl l
  ·exact .inr ⟨k,c,e,cellK x c e _ z⟩
 ·obtain⟨v,z⟩:=I.cell x c e
  exact⟨v,cellK x c e v z⟩
 ·obtain⟨m,⟨o,_,_,ho,_⟩,_⟩:=I.loc
  exact free _ o (fun z=>(hch _ z).2.1 rfl) ho I.free
 ·obtain⟨v,o,ho,hd⟩:=I.cell x c e
  exact free c o (fun z=>(hch c z).2.2.1 x c e rfl) ho (I.i8 x c e)
 ·obtain⟨e,n,ne,nf,d⟩:=I.pin p hp
  have sC:p.1∉ch:=fun z=>(hch p.1 z).2.2.2 p hp rfl
  exact⟨keep p.1 p.2 ne nf sC e n,free p.1 p.2 sC e n,ne,nf,d⟩
theorem Inv.un{t':Nat}(I:Inv X pins σ H s)(u:Un X.fs [] H H' s.heap h')(hok:cX X.prog X.w H' h'):Inv X pins σ H' {s with heap:=h',toks:=t'}:=by
 obtain⟨m,⟨o,es,ep,ho,r⟩,_⟩:=id I.loc
 obtain⟨sl,hL⟩:=u.any ho I.free (by simp)
 exact I.step (g':=s.gens) (d':=s.drawn) (ch:=[]) (fun _ z=>nomatch z) (fun b o _ hb _ e n=>u.keep b o e n hb (by simp)) (fun b o _ hb _ e n=>u.slot b o e n hb (by simp)) (fun b o _ e n=>u.free b o e n (by simp)) (fun b o _ e=>u.there b o e (by simp)) u.tups u.jI u.k6 (fun m' hm=>by
  obtain⟨o',es',wC,ho',r'⟩:=hm
  rw[ho] at ho';cases ho'
  exact⟨_,es',wC,hL,r'⟩) hok I.bare
theorem Inv.call{g':Array GenState}{t':Nat}{d':Drawn}{ch:List Addr}(I:Inv X pins σ H s)(u:Un (frs X.stack) ch H H' s.heap h')(hok:cX X.prog X.w H' h')(hg:AllBare g')
  (hch:∀b∈ch,(b∈X.ex\/X.s₀.heap.objs.size<=b)/\b≠X.env.locals/\(∀x c,X.env.cells.lookup x=some c->c≠b)/\∀p∈X.pn++pins,p.1≠b):
  Inv X pins σ H' {s with heap:=h',gens:=g',drawn:=d',toks:=t'}:=by
 obtain⟨m,⟨o,es,ep,ho,r⟩,_⟩:=id I.loc
 obtain⟨sl,hL⟩:=u.any ho I.free fun z=>(hch _ z).2.1 rfl
 exact I.step (ch:=ch) hch (fun b o hL hb hc e n=>u.keep b o e n (fun z=>(aP.mp (I.Br b z)).elim hL hb) hc) (fun b o _ _ hc e n=>u.any e n hc) (fun b o hc e n=>u.free b o e n hc) (fun b o hc e=>u.there b o e hc) u.tups u.jI u.k6 (fun m' hm=>by
  obtain⟨o',es',wC,ho',r'⟩:=hm
  rw[ho] at ho';cases ho'
  exact⟨_,es',wC,hL,r'⟩) hok hg
theorem Inv.turned{t':Nat}{it:Addr}(I:Inv X pins σ H s)(k:∀b o,b≠it->s.heap.get? b=some o->h'.get? b=some o)(hn:H it=none)(hL:it≠X.env.locals)
  (h1:it∈X.ex\/X.s₀.heap.objs.size<=it) (h2:∀x c,X.env.cells.lookup x=some c->c≠it) (h3:∀p∈X.pn++pins,p.1≠it):Inv X pins σ H {s with heap:=h',toks:=t'}:=by
 have HY:∀b u,H b=some u->b≠it:=fun b u e z=>by rw[z,hn] at e;cases e
 refine I.step (g':=s.gens) (d':=s.drawn) (ch:=[it]) (fun b hb=>?_) (fun b o _ _ hc e _=>k b o (fun z=>hc (by simp[z])) e) (fun b o _ _ hc e _=>⟨o.slots,k b o (fun z=>hc (by simp[z])) e⟩) (fun _ _ _ _ n=>n)
  (fun b o hc e=>⟨o,k b o (fun z=>hc (by simp[z])) e⟩) (fun _ _ e=>e) (fun _ _ _ e=>e) (fun b ps e=>⟨#[],by rw[e];simp⟩) (fun m hm=>?_) (fun b u e=>?_) I.bare
 ·have e:b=it:=by simpa using hb
  subst e
  exact⟨h1,hL,h2,h3⟩
 ·obtain⟨o,es,ep,ho,r⟩:=hm
  exact⟨o,es,ep,k _ o (bu hL) ho,r⟩
 ·refine(I.hok b u e).stay (fun c v hc q=>k c v ?_ q) (fun _ q=>q) fun _ _ q=>q
  rcases hc with z|z
  ·rw[z];exact HY b u e
  ·exact HY c _ z
theorem Inv.tok(I:Inv X pins σ H s)(t:Nat):Inv X pins σ H {s with toks:=t}:=I.un (h':=s.heap) (t':=t) Un.refl I.hok
theorem Inv.kept{t':Nat}(I:Inv X pins σ H s)(k:∀b u,s.heap.get? b=some u->h'.get? b=some u):Inv X pins σ H {s with heap:=h',toks:=t'}:=I.un (Un.kept k) (I.hok.kept k)
theorem Inv.laid{a:Addr}{o:HO}{t':Nat}(I:Inv X pins σ H s)(k:∀b u,s.heap.get? b=some u->h'.get? b=some u)(hp:s.heap.objs.size<=a)(new:bK X.prog X.w (upd H a o) h' a o):
  Inv X pins σ (upd H a o) {s with heap:=h',toks:=t'}:=I.un (Un.laid k hp (I.hok.fresh hp)) (I.hok.laid k hp new)
theorem Inv.write{x e:Addr}{o:HO}{t':Nat}(I:Inv X pins σ H s)(mu:qE (H x))(he:e=x\/H e=some (.own x))(k:∀b u,b≠e->s.heap.get? b=some u->h'.get? b=some u)(pA:∃u,h'.get? e=some u)
  (new:bK X.prog X.w (upd H x o) h' x o):Inv X pins σ (upd H x o) {s with heap:=h',toks:=t'}:=I.un (Un.write mu he k pA) (I.hok.write mu he k pA new)
theorem Inv.JV{Es:List (Addr×Obj)}(I:Inv X pins σ H s)(h:∀p∈Es,s.heap.get? p.1=some p.2/\H p.1=none/\p.1≠X.env.locals/\p.1∉X.fs/\∀v,p.2.data≠ .cell v):Inv X Es σ H s:=
 ⟨I.ok,I.os,I.bare,I.base,I.loc,I.cell,I.free,I.i8,fun p hp=>(ez.mp hp).elim (fun z=>I.pin p (kh _ z)) (h p),I.hok,I.len⟩
theorem JP{N:List Str}(hN:N.Nodup){i j:Nat}{x:Str}(a:N[i]?=some x)(b:N[j]?=some x):i=j:=by
 obtain⟨h1,e1⟩:=bI.mp a
 obtain⟨h2,e2⟩:=bI.mp b
 exact(List.getElem_inj hN).mp (e1.trans e2.symm)
theorem GW{M:Model}{A:Around}{E:Value->Shared->Prop}{i:Nat}{x:Str}{v:V}{u:Value}{Q:Unit->Shared->Prop}(I:Inv X pins σ H s)(hN:X.N.Nodup)(hi:X.N[i]?=some x)(hx:Loc X.env.scope x)(r:RelV v u)
  (h:∀s',Inv X pins (σ.set i (some v)) H s'->(∃a,Heap.SameBut a s.heap s'.heap/\(a=X.env.locals\/X.env.cells.lookup x=some a))->Q () s') (hf:X.fn x=true\/X.env.scope.names.lookup x=some .local:=by first|exact .inl rfl|exact .inr rfl|assumption):wpAny M A (storeName X.env x u) Q E s:=by
 obtain⟨m,hn,hl⟩:=id I.loc
 have hcls:(X.env.scope.kind== .class||(X.env.scope.kind== .module && X.env.locals !=X.env.globals))=false:=by rw[I.ok.kind];rfl
 have Kl:i<σ.length:=by rw[I.len];exact(bI.mp hi).1
 have nK:=I.nK
 have tracked:∀{a:Addr} {h':Heap},(∃o,s.heap.get? a=some o/\H a=none)->Heap.SameBut a s.heap h'->cX X.prog X.w H h':=fun{a h'} ha hs b ob e=>by
  obtain⟨_,_,hfree⟩:=ha
  refine(I.hok b ob e).stay (fun c w' hc q=>(hs.2 c ?_).trans q) (fun _ q=>q) fun _ _ q=>q
  rintro rfl
  rcases hc with rfl|hc
  ·rw[hfree] at e;cases e
  ·rw[hfree] at hc;cases hc
 rcases hx with hk|hk
 ·refine wpAny_storeName_local hk hn (fun h' hn' hs=>?_) hcls
  obtain⟨oL,_,_,WM,_⟩:=id hn
  refine h _ ⟨I.ok,I.os,I.bare,⟨fun b o e n hb hx=>?_,fun b o e n hb hx=>?_,I.base.free,fun b o e hx=>?_,I.base.tups,I.base.jI,I.base.k6⟩,⟨_,hn',fun j y v' e1 e2 e3=>?_⟩,fun y c e=>?_,I.free,I.i8,fun p hp=>?_,tracked ⟨oL,WM,I.free⟩ hs,by simpa using I.len⟩ ⟨_,hs, .inl rfl⟩
  ·exact(hs.2 b (cG (eg (bw e) I.ok.above))).trans (I.base.keep b o e n hb hx)
  ·obtain⟨sl,e1⟩:=I.base.slot b o e n hb hx
   exact⟨sl,(hs.2 b (cG (eg (bw e) I.ok.above))).trans e1⟩
  ·obtain⟨o',e1⟩:=I.base.there b o e hx
   exact⟨o',(hs.2 b (cG (eg (bw e) I.ok.above))).trans e1⟩
  ·by_cases hj:j=i
   ·subst hj
    rw[hi] at e1;cases e1
    rw[dh Kl] at e2
    cases e2
    exact⟨u,r, .inl ⟨hk,by simp⟩⟩
   ·rw[bN (bu hj)] at e2
    obtain⟨u',r',q⟩:=hl j y v' e1 e2 e3
    refine⟨u',r',?_⟩
    rcases q with ⟨k,e⟩|⟨k,c,e,z⟩
    ·refine .inl ⟨k,?_⟩
     have:y≠x:=fun e=>hj (JP hN e1 (e▸hi))
     simp[this,e]
    ·exact .inr ⟨k,c,e,z.sameBut hs (nK y c e)⟩
  ·obtain⟨w',z⟩:=I.cell y c e
   exact⟨w',z.sameBut hs (nK y c e)⟩
  ·obtain⟨e,n,ne,nf,d⟩:=I.pin p hp
   exact⟨(hs.2 p.1 ne).trans e,n,ne,nf,d⟩
 ·have hfn:X.fn x=true:=by
   rcases hf with z|z
   ·exact z
   ·rw[z] at hk;cases hk
  obtain⟨c,hc⟩:=I.ok.has x (.inl hk)
  obtain⟨w',z⟩:=I.cell x c hc
  refine wpAny_storeName_cell I.ok.kind hk hc z (fun h' hc' hs=>?_)
  obtain⟨oc,hoc,VU⟩:=id z
  refine h {s with heap:=h'} ⟨I.ok,I.os,I.bare,⟨fun b o e n hb hx=>?_,fun b o e n hb hx=>?_,I.base.free,fun b o e hx=>?_,I.base.tups,I.base.jI,I.base.k6⟩,⟨m,hn.sameBut hs (bu (nK x c hc)),fun j y v' e1 e2 e3=>?_⟩,fun y c' e=>?_,I.free,I.i8,fun p hp=>?_,tracked ⟨oc,hoc,I.i8 x c hc⟩ hs,by simpa using I.len⟩ ⟨c,hs, .inr hc⟩
  ·exact(hs.2 b (cG (eg (bw e) (I.ok.rM x c hfn hc)))).trans (I.base.keep b o e n hb hx)
  ·obtain⟨sl,e1⟩:=I.base.slot b o e n hb hx
   exact⟨sl,(hs.2 b (cG (eg (bw e) (I.ok.rM x c hfn hc)))).trans e1⟩
  ·obtain⟨o',e1⟩:=I.base.there b o e hx
   exact⟨o',(hs.2 b (cG (eg (bw e) (I.ok.rM x c hfn hc)))).trans e1⟩
  ·by_cases hj:j=i
   ·subst hj
    rw[hi] at e1;cases e1
    rw[dh Kl] at e2
    cases e2
    exact⟨u,r, .inr ⟨.inl hk,c,hc,hc'⟩⟩
   ·rw[bN (bu hj)] at e2
    obtain⟨u',r',q⟩:=hl j y v' e1 e2 e3
    refine⟨u',r',?_⟩
    rcases q with q|⟨k,c',e,z'⟩
    ·exact .inl q
    ·refine .inr ⟨k,c',e,z'.sameBut hs ?_⟩
     rintro rfl
     exact hj (JP hN e1 (I.ok.inj _ _ _ e hc▸hi))
  ·by_cases hcc:c'=c
   ·subst hcc;exact⟨_,hc'⟩
   ·obtain⟨w2,z2⟩:=I.cell y c' e
    exact⟨w2,z2.sameBut hs hcc⟩
  ·obtain⟨e,n,ne,nf,d⟩:=I.pin p hp
   refine⟨(hs.2 p.1 ?_).trans e,n,ne,nf,d⟩
   intro q
   rw[q,hoc] at e
   have q':oc=p.2:=fR e
   exact d w' (by rw[<-q'];exact VU)
theorem Fz{M:Model}{A:Around}{E:Value->Shared->Prop}{i:Nat}{x:Str}{v:V}{u:Value}{Q:Unit->Shared->Prop}(I:Inv X pins σ H s)(hN:X.N.Nodup)(hi:X.N[i]?=some x)(hx:Loc X.env.scope x)(r:RelV v u)
  (h:∀s',Inv X pins (σ.set i (some v)) H s'->Q () s') (hf:X.fn x=true\/X.env.scope.names.lookup x=some .local:=by first|exact .inl rfl|exact .inr rfl|assumption):wpAny M A (storeName X.env x u) Q E s:=
 GW I hN hi hx r (fun s' I' _=>h s' I') hf
theorem Inv.Lp{s':Shared}{ch:List Addr}(I:Inv X pins σ H s)(ho:s'.os=s.os)(u:Un (frs X.stack) ch H H' s.heap s'.heap)(hok:cX X.prog X.w H' s'.heap)(hg:AllBare s'.gens)
  (hch:∀b∈ch,(b∈X.ex\/X.s₀.heap.objs.size<=b)/\b≠X.env.locals/\(∀x c,X.env.cells.lookup x=some c->c≠b)/\∀p∈X.pn++pins,p.1≠b):Inv X pins σ H' s':=by
 obtain⟨h',g',d',t',o'⟩:=s'
 have e:o'=s.os:=ho
 subst e
 exact I.call (g':=g') (t':=t') (d':=d') u hok hg hch
end
abbrev XK:=Value->Option Addr->Hp->Prop
abbrev St:=List (Option V)
abbrev VK:=V->Hp->Prop
abbrev TE:=St->Hp->VK->Prop
abbrev TT:=St->Hp->(Bool->Hp->Prop)->Prop
abbrev TA:=St->Hp->(List V->Hp->Prop)->Prop
structure Ends where
 nx:St->Hp->Prop
 rt:VK
 bk:St->Hp->Prop:=fun _ _=>False
 ct:St->Hp->Prop:=fun _ _=>False
abbrev TS:=Ends->St->Hp->Prop
def EP(X:Cx)(pins:List (Addr×Obj))(σ:St)(Q:VK)(u:Value)(s':Shared):Prop:=∃v H',Inv X pins σ H' s'/\RelV v u/\Q v H'
def TP(X:Cx)(pins:List (Addr×Obj))(σ:St)(Q:Bool->Hp->Prop)(b:Bool)(s':Shared):Prop:=∃H',Inv X pins σ H' s'/\Q b H'
def AP(X:Cx)(pins:List (Addr×Obj))(σ:St)(Q:List V->Hp->Prop)(us:List Value)(s':Shared):Prop:=∃vs H',Inv X pins σ H' s'/\Vals vs us/\Q vs H'
def SP(X:Cx)(pins:List (Addr×Obj))(D:Ends)(f:Flow)(s':Shared):Prop:=
 match f with
 | .next=>∃σ' H',Inv X pins σ' H' s'/\D.nx σ' H'
 | .brk=>∃σ' H',Inv X pins σ' H' s'/\D.bk σ' H'
 | .cont=>∃σ' H',Inv X pins σ' H' s'/\D.ct σ' H'
 | .ret u=>∃v σ' H',Inv X pins σ' H' s'/\RelV v u/\D.rt v H'
def PE(X:Cx)(e:Expr)(t:TE):Prop:=
 ∀(pins:List (Addr×Obj)) (s:Shared) (σ:St) (H:Hp) (Q:VK),Inv X pins σ H s->t σ H Q->wpAny (model X.prog X.w) X.A (eval e X.env) (EP X pins σ Q) X.xe s
def PT(X:Cx)(e:Expr)(t:TT):Prop:=
 ∀(pins:List (Addr×Obj)) (s:Shared) (σ:St) (H:Hp) (Q:Bool->Hp->Prop),Inv X pins σ H s->t σ H Q->wpAny (model X.prog X.w) X.A (isTrue e X.env (eval e X.env)) (TP X pins σ Q) X.xe s
def PW(X:Cx)(e:Expr)(t:TT):Prop:=
 ∀(whole:Sem Value) (pins:List (Addr×Obj)) (s:Shared) (σ:St) (H:Hp) (Q:Bool->Hp->Prop),Inv X pins σ H s->t σ H Q->wpAny (model X.prog X.w) X.A (isTrue e X.env whole) (TP X pins σ Q) X.xe s
theorem PW.pt{X:Cx}{e:Expr}{t:TT}(h:PW X e t):PT X e t:=h _
def PA(X:Cx)(es:List Expr)(t:TA):Prop:=
 ∀(pos:Pos) (pins:List (Addr×Obj)) (s:Shared) (σ:St) (H:Hp) (Q:List V->Hp->Prop),Inv X pins σ H s->t σ H Q->wpAny (model X.prog X.w) X.A (spliced (backTo pos (starEach es X.env))) (AP X pins σ Q) X.xe s
def PS(X:Cx)(st:Stmt)(t:TS):Prop:=
 ∀(pins:List (Addr×Obj)) (s:Shared) (σ:St) (H:Hp) (D:Ends),Inv X pins σ H s->t D σ H->wpAny (model X.prog X.w) X.A (exec st X.env) (SP X pins D) X.xe s
def jd(X:Cx)(st:List Stmt)(t:TS):Prop:=
 ∀(pins:List (Addr×Obj)) (s:Shared) (σ:St) (H:Hp) (D:Ends),Inv X pins σ H s->t D σ H->wpAny (model X.prog X.w) X.A (execs st X.env) (SP X pins D) X.xe s
theorem aK{α:Type}{t:Sem α}{Q Q':α->Shared->Prop}{M:Model}{A:Around}{E:Value->Shared->Prop}{s:Shared}(h:wpAny M A t Q E s)(hQ:∀a s,Q a s->Q' a s):wpAny M A t Q' E s:=wpAny_mono h hQ fun _ _ x=>x
section
variable{X:Cx}
theorem bin{a b:Expr}{ta tb:TE}(ha:PE X a ta)(hb:PE X b tb){pins:List (Addr×Obj)}{s:Shared}{σ:St}{H:Hp}{R:V->V->Hp->Prop}(I:Inv X pins σ H s)(h:ta σ H fun x H1=>tb σ H1 fun y H2=>R x y H2)
  {α:Type} {Q:α->Shared->Prop} {f:Value->Value->Sem α}
  (hf:∀v u s2 x y H2,Inv X pins σ H2 s2->RelV x v->RelV y u->R x y H2->wpAny (model X.prog X.w) X.A (f v u) Q X.xe s2):
  wpAny (model X.prog X.w) X.A (eval a X.env) (fun v s₁=>wpAny (model X.prog X.w) X.A (eval b X.env) (fun u s₂=>wpAny (model X.prog X.w) X.A (f v u) Q X.xe s₂) X.xe s₁) X.xe s:=by
 refine aK (ha pins s σ H _ I h) fun v s1 ⟨x,H1,I1,r1,q1⟩=>?_
 refine aK (hb pins s1 σ H1 _ I1 q1) fun u s2 ⟨y,H2,I2,r2,q2⟩=>?_
 exact hf v u s2 x y H2 I2 r1 r2 q2
def fq(i:Nat):TE:=fun σ H Q=>∃v,σ[i]?=some (some v)/\Q v H
def tC(v:V):TE:=fun _ H Q=>Q v H
theorem Me{i:Nat}{x:Str}{pos:Pos}(hN:X.N[i]?=some x)(hv:yh X.env.scope x)(hd:(x==("__debug__":Str))=false:=by decide)(hcd:(x==("__classdict__":Str))=false:=by decide):PE X (.Name x pos) (fq i):=by
 intro pins s σ H Q I h
 obtain⟨v,e,h⟩:=h
 obtain⟨m,hn,hl⟩:=I.loc
 obtain⟨u,r,l⟩:=hl i x v hN e hv
 have fin:EP X pins σ Q u s:=⟨v,H,I,r,h⟩
 rcases l with ⟨hk,hm⟩|⟨hk,c,hc,hcell⟩
 ·exact wpAny_Name (wpAny_loadName_local I.ok.kind hk hn hm fin) hd
 ·rcases hk with hk|hk
  ·exact wpAny_Name (wpAny_loadName_cell I.ok.kind hk hc hcell fin) hd
  ·exact wpAny_Name (wpAny_loadName_free I.ok.kind hk hc hcell fin hcd) hd
theorem ao{i j pos}:PE X (.Constant (.int i) j pos) (tC (.int i)):=fun _ _ _ H _ I h=>wpAny_Constant_int ⟨.int i,H,I.tok _,⟨_,rfl⟩,h⟩
theorem j4{b j pos}:PE X (.Constant (.bool b) j pos) (tC (.bl b)):=fun _ _ _ H _ I h=>Constant_bool ⟨.bl b,H,I,rfl,h⟩
theorem pD{j pos}:PE X (.Constant .none j pos) (tC .aE):=fun _ _ _ H _ I h=>Constant_none ⟨.aE,H,I,rfl,h⟩
def Gl(X:Cx)(x:Str):Prop:=X.env.kindOf x=some .globalImplicit
theorem Kd{E:Value->Shared->Prop}{pins:List (Addr×Obj)}{s:Shared}{σ:St}{H:Hp}{x:Str}{u:Value}{pos:Pos}{Q:Value->Shared->Prop}(I:Inv X pins σ H s)(hg:Gl X x)(hm:X.mg x=some u)(h:Q u s)
  (hd:(x==("__debug__":Str))=false:=by decide):wpAny (model X.prog X.w) X.A (eval (.Name x pos) X.env) Q E s:=
 DW I.ok.kind hg (Calls.loadGlobal_global (by rw[I.ok.glob];exact I.mod.glob.keeps I.bk) hm h) hd
theorem nq{E:Value->Shared->Prop}{pins:List (Addr×Obj)}{s:Shared}{σ:St}{H:Hp}{x:Str}{u:Value}{pos:Pos}{Q:Value->Shared->Prop}(I:Inv X pins σ H s)(hg:Gl X x)(hm:X.mg x=none)(hv:bootBuiltins x=some u)(h:Q u s)
  (hn:x≠"__name__":=by decide) (hd:(x==("__debug__":Str))=false:=by decide):wpAny (model X.prog X.w) X.A (eval (.Name x pos) X.env) Q E s:=by
 obtain⟨mb,h1,h2⟩:=I.mod.blt
 exact DW I.ok.kind hg (Calls.loadGlobal_builtin (by rw[I.ok.glob];exact I.mod.glob.keeps I.bk) hm (by rw[I.ok.blt];exact h1.keeps I.bk) ((h2 x hn).trans hv) h) hd
theorem gv{x:Str}{v:V}{u:Value}{pos:Pos}(hg:Gl X x)(hm:X.mg x=none)(hv:bootBuiltins x=some u)(r:RelV v u)(hn:x≠"__name__":=by decide)(hd:(x==("__debug__":Str))=false:=by decide):PE X (.Name x pos) (tC v):=
 fun _ _ _ H _ I h=>nq I hg hm hv ⟨v,H,I,r,h⟩ hn hd
variable{a b:Expr}{ta tb:TE}{pos:Pos}
def PC(X:Cx)(op:CmpOp)(a b:Expr)(t:TE):Prop:=
 ∀(pins:List (Addr×Obj)) (s:Shared) (σ:St) (H:Hp) (Q:VK),Inv X pins σ H s->t σ H Q->
  wpAny (model X.prog X.w) X.A (eval a X.env) (fun v s₁=>wpAny (model X.prog X.w) X.A (eval b X.env) (fun u s₂=>wpAny (model X.prog X.w) X.A (compareOp op v u) (EP X pins σ Q) X.xe s₂) X.xe s₁) X.xe s
variable{tA wN:TT}{rest:List Expr}
def A0(t u:TT):TT:=fun σ H Q=>t σ H fun c H1=>if c=true then u σ H1 Q else Q false H1
def G3(t u:TT):TT:=fun σ H Q=>t σ H fun c H1=>if c=true then Q true H1 else u σ H1 Q
def IL(t:TT):TT:=fun σ H Q=>t σ H fun c H1=>Q (!c) H1
theorem Dl(ha:PT X a tA):PW X (.BoolOp .And [a] pos) tA:=by
 intro wh pins s σ H Q I h
 refine isTrue_and (aK (ha pins s σ H Q I h) fun c s1 e=>?_)
 cases c with
 |true=>exact isTrue_and_nil e
 |false=>exact e
theorem mV(ha:PT X a tA):PW X (.BoolOp .Or [a] pos) tA:=by
 intro wh pins s σ H Q I h
 refine isTrue_or (aK (ha pins s σ H Q I h) fun c s1 e=>?_)
 cases c with
 |false=>exact isTrue_or_nil e
 |true=>exact e
theorem xZ(ha:PT X a tA)(hb:PW X (.BoolOp .And (b::rest) pos) wN):PW X (.BoolOp .And (a::b::rest) pos) (A0 tA wN):=by
 intro wh pins s σ H Q I h
 refine isTrue_and (aK (ha pins s σ H _ I h) fun c s1 ⟨H1,I1,q1⟩=>?_)
 cases c with
 |true=>exact hb wh pins s1 σ H1 Q I1 q1
 |false=>exact⟨H1,I1,q1⟩
theorem kQ(ha:PT X a tA)(hb:PW X (.BoolOp .Or (b::rest) pos) wN):PW X (.BoolOp .Or (a::b::rest) pos) (G3 tA wN):=by
 intro wh pins s σ H Q I h
 refine isTrue_or (aK (ha pins s σ H _ I h) fun c s1 ⟨H1,I1,q1⟩=>?_)
 cases c with
 |true=>exact⟨H1,I1,q1⟩
 |false=>exact hb wh pins s1 σ H1 Q I1 q1
theorem nu(ha:PT X a tA):PT X (.UnaryOp .Not a pos) (IL tA):=by
 intro pins s σ H Q I h
 exact isTrue_not (ha pins s σ H (fun c H1=>Q (!c) H1) I h)
def An(ta tb:TE):TE:=fun σ H Q=>ta σ H fun x H1=>∃c,x= .bl c/\if c=true then tb σ H1 Q else Q (.bl false) H1
def GX(ta:TE):TE:=fun σ H Q=>ta σ H fun x H1=>∃c,x= .bl c/\Q (.bl (!c)) H1
theorem Jg{op}{t:TE}(h:PE X a t):PE X (.BoolOp op [a] pos) t:=fun pins s σ H Q I hw=>BoolOp_one (h pins s σ H Q I hw)
theorem DV(ha:PE X a ta)(hb:PE X (.BoolOp .And (b::rest) pos) tb):PE X (.BoolOp .And (a::b::rest) pos) (An ta tb):=by
 intro pins s σ H Q I h
 refine BoolOp_and (aK (ha pins s σ H _ I h) fun v s1 ⟨x,H1,I1,r1,q1⟩=>?_)
 obtain⟨c,rfl,q1⟩:=q1
 cases r1
 refine wpAny_truthy_bool ?_
 cases c with
 |true=>exact hb pins s1 σ H1 Q I1 q1
 |false=>exact⟨.bl false,H1,I1,rfl,q1⟩
theorem Mz(ha:PE X a ta):PE X (.UnaryOp .Not a pos) (GX ta):=by
 intro pins s σ H Q I h
 refine UnaryOp_ (aK (ha pins s σ H _ I h) fun v s1 ⟨x,H1,I1,r1,q1⟩=>?_)
 obtain⟨c,rfl,q1⟩:=q1
 cases r1
 exact not_of (wpAny_truthy_bool ⟨.bl (!c),H1,I1,rfl,q1⟩)
def Kn(t:TT)(ta tb:TE):TE:=fun σ H Q=>t σ H fun c H1=>if c=true then ta σ H1 Q else tb σ H1 Q
theorem Hq{c:Expr}(hc:PT X c tA)(ha:PE X a ta)(hb:PE X b tb):PE X (.IfExp c a b pos) (Kn tA ta tb):=by
 intro pins s σ H Q I h
 refine wpAny_IfExp (aK (hc pins s σ H _ I h) fun d s1 ⟨H1,I1,q1⟩=>?_)
 cases d with
 |true=>exact ha pins s1 σ H1 Q I1 q1
 |false=>exact hb pins s1 σ H1 Q I1 q1
end
def aQ(K:PySem.W.Frag)(H:Hp)(a:Addr)(xs:List V):Prop:=
 Rd H a (.lst xs)\/
  ∃(o:Obj) (its:Array Value) (n:Nat),K.lookup a=some o/\o.cls= .type "list" /\o.dict=none/\o.data= .seq its n/\its.size<=sizeLine/\Vals xs its.toList
def fQ(K:PySem.W.Frag)(H:Hp)(a:Addr)(xs:List V):Prop:=
 Rd H a (.tup xs)\/
  ∃(o:Obj) (its:Array Value) (n:Nat),K.lookup a=some o/\o.cls= .type "tuple" /\o.data= .seq its n/\its.size<=sizeLine/\Vals xs its.toList
def L3:Value->Option V
 | .none=>some .aE
 | .bool b=>some (.bl b)
 | .int i _=>some (.int i)
 | .str x _=>some (.str x)
 | .bytes b _=>some (.iE b)
 | .float b _=>some (.kH b)
 | .ref a=>some (.ref a)
 | .type n=>some (.ty n)
 |_=>none
theorem RelV.abs{x:V}{u:Value}(r:RelV x u):L3 u=some x:=by
 cases x with
 |aE=>cases r;rfl
 |bl _=>cases r;rfl
 |int _=>obtain⟨t,rfl⟩:=r;rfl
 |str _=>obtain⟨t,rfl⟩:=r;rfl
 |iE _=>obtain⟨t,rfl⟩:=r;rfl
 |kH _=>obtain⟨t,rfl⟩:=r;rfl
 |ref _=>cases r;rfl
 |ty _=>cases r;rfl
theorem RelV.inj{x y:V}{u:Value}(r:RelV x u)(q:RelV y u):x=y:=fR (r.abs.symm.trans q.abs)
theorem Vals.inj{xs ys:List V}{us:List Value}(h:Vals xs us)(k:Vals ys us):xs=ys:=by
 induction h generalizing ys with
 |nil=>cases k;rfl
 |cons r t ih=>cases k with|cons r' t'=>rw[r.inj r',ih t']
section
variable{X:Cx}{pins:List (Addr×Obj)}{σ:St}{H:Hp}{s:Shared}{a:Addr}{xs ys:List V}
theorem aQ.of{K:PySem.W.Frag}(h:H a=some (.lst xs)):aQ K H a xs:= .inl (.inl h)
theorem fQ.of{K:PySem.W.Frag}(h:H a=some (.tup xs)):fQ K H a xs:= .inl (.inl h)
theorem Inv.list(I:Inv X pins σ H s)(h:aQ X.K H a xs):∃its:List Value,Vals xs its/\PlainL s.heap a its.toArray/\xs.length<=sizeLine:=by
 rcases h with h|⟨o,its,n,hk,hc,hd,hs,hz,r⟩
 ·obtain⟨z,its,n,r,e⟩:=h.ok I.hok
  exact⟨its,r,⟨_,n,e,rfl,rfl,rfl⟩,z⟩
 ·refine⟨its.toList,r,⟨o,n,I.cK a o hk,hc,hd,by simpa using hs⟩,?_⟩
  have e:=r.length
  simp only[jZ] at e
  omega
theorem Inv.tuple(I:Inv X pins σ H s)(h:fQ X.K H a xs):∃its:List Value,Vals xs its/\IsTup s.heap a its.toArray/\xs.length<=sizeLine:=by
 rcases h with h|⟨o,its,n,hk,hc,hs,hz,r⟩
 ·obtain⟨z,its,r,p⟩:=h.ok I.hok
  exact⟨its,r,p,z⟩
 ·refine⟨its.toList,r,⟨o,I.cK a o hk,hc,n,by simpa using hs⟩,?_⟩
  have e:=r.length
  simp only[jZ] at e
  omega
theorem Inv.uO(I:Inv X pins σ H s)(h:aQ X.K H a xs)(h':aQ X.K H a ys):xs=ys:=by
 obtain⟨its,r,⟨o,n,e,_,_,d⟩,_⟩:=I.list h
 obtain⟨its',r',⟨o',n',e',_,_,d'⟩,_⟩:=I.list h'
 rw[e] at e';cases e'
 rw[d] at d'
 injection d' with d1 _
 have:its=its':=by simpa using congrArg Array.toList d1
 subst this
 exact r.inj r'
end
abbrev Cx.j5(X:Cx)(E:Value->Shared->Prop):Cx:={X with xe:=E}
abbrev Cx.vm(X:Cx):Cx:=X.j5 fun _ _=>False
theorem Cx.Ok.j5{X:Cx}(ok:X.Ok)(E:Value->Shared->Prop):(X.j5 E).Ok:=
 ⟨ok.mod,ok.kind,ok.glob,ok.blt,ok.above,ok.inj,ok.has,ok.rM,ok.hd,ok.frames,ok.stk,ok.wm,ok.bs,ok.lV,ok.sf,ok.sD,ok.jk,ok.m9⟩
theorem Cx.Ok.lR{X:Cx}{E:Value->Shared->Prop}(ok:(X.j5 E).Ok):X.Ok:=
 ⟨ok.mod,ok.kind,ok.glob,ok.blt,ok.above,ok.inj,ok.has,ok.rM,ok.hd,ok.frames,ok.stk,ok.wm,ok.bs,ok.lV,ok.sf,ok.sD,ok.jk,ok.m9⟩
section
variable{X:Cx}{pins:List (Addr×Obj)}{σ:St}{H:Hp}{s:Shared}{E:Value->Shared->Prop}
theorem Inv.j5(I:Inv X pins σ H s)(E:Value->Shared->Prop):Inv (X.j5 E) pins σ H s:=⟨I.ok.j5 E,I.os,I.bare,I.base,I.loc,I.cell,I.free,I.i8,I.pin,I.hok,I.len⟩
theorem Inv.lR(I:Inv (X.j5 E) pins σ H s):Inv X pins σ H s:=⟨I.ok.lR,I.os,I.bare,I.base,I.loc,I.cell,I.free,I.i8,I.pin,I.hok,I.len⟩
theorem SP.lR{D:Ends}{f:Flow}{s':Shared}(h:SP (X.j5 E) pins D f s'):SP X pins D f s':=by
 cases f with
 |next=>obtain⟨σ',H',I,q⟩:=h;exact⟨σ',H',I.lR,q⟩
 |brk=>obtain⟨σ',H',I,q⟩:=h;exact⟨σ',H',I.lR,q⟩
 |cont=>obtain⟨σ',H',I,q⟩:=h;exact⟨σ',H',I.lR,q⟩
 |ret u=>obtain⟨v,σ',H',I,r,q⟩:=h;exact⟨v,σ',H',I.lR,r,q⟩
theorem jd.vm{st:List Stmt}{t:TS}(h:jd X.vm st t):jd X st t:=fun pins s σ H D I hw=>
 wpAny_mono (h pins s σ H D (I.j5 _) hw) (fun _ _ q=>q.lR) fun _ _ z=>False.elim z
end
section
variable{X:Cx}{st:Stmt}{rest:List Stmt}{t u:TS}{e:Expr}{te:TE}{pos:Pos}
def CC:TS:=fun D σ H=>D.nx σ H
def qa(t u:TS):TS:=fun D σ H=>t {D with nx:=u D} σ H
theorem fJ:jd X [] CC:=fun _ _ σ H _ I h=>wpAny_execs_nil ⟨σ,H,I,h⟩
theorem aC(h1:PS X st t)(h2:jd X rest u):jd X (st::rest) (qa t u):=by
  intro pins s σ H D I h
  refine wpAny_execs_cons (aK (h1 pins s σ H {D with nx:=u D} I h) fun f s1 q=>?_)
  cases f with
  | next =>
    obtain⟨σ',H',I',q⟩:=q
    exact h2 pins s1 σ' H' D I' q
  |ret v=>exact q
  |brk=>exact q
  |cont=>exact q
theorem aO(h1:PS X st t):jd X [st] t:=by
 intro pins s σ H D I h
 refine wpAny_execs_cons (aK (h1 pins s σ H D I h) fun f s1 q=>?_)
 cases f with
 |next=>exact wpAny_execs_nil q
 |ret v=>exact q
 |brk=>exact q
 |cont=>exact q
def OU:TS:=fun D σ H=>D.bk σ H
def RL:TS:=fun D σ H=>D.ct σ H
theorem Inv.quiet{pins:List (Addr×Obj)}{σ:St}{H:Hp}{s:Shared}(I:Inv X pins σ H s):interactive X.env=false:=by simp[interactive,I.ok.kind]
def Ka(te:TE):TS:=fun D σ H=>te σ H fun _ H1=>D.nx σ H1
theorem CQ(he:PE X e te)(hs:swapsWith e none pos.line X.env=pure false:=by rfl):PS X (.Expr e pos) (Ka te):=by
 intro pins s σ H D I h
 exact wpAny_Expr_any (aK (he pins s σ H _ I h) fun v s1 ⟨x,H1,I1,r1,q1⟩=>⟨σ,H1,I1,q1⟩) I.quiet hs
def v7(te:TE):TS:=fun D σ H=>te σ H D.rt
theorem bz(he:PE X e te):PS X (.Return (some e) pos) (v7 te):=by
 intro pins s σ H D I h
 exact wpAny_Return_some (aK (he pins s σ H _ I h) fun v s1 ⟨x,H1,I1,r1,q1⟩=>⟨x,σ,H1,I1,r1,q1⟩)
def AV(c:TT)(t u:TS):TS:=fun D σ H=>c σ H fun b H1=>if b=true then t D σ H1 else u D σ H1
theorem ff{c:Expr}{a b:List Stmt}{tc:TT}(hc:PT X c tc)(ha:jd X a t)(hb:jd X b u):PS X (.If c a b pos) (AV tc t u):=by
 intro pins s σ H D I h
 refine wpAny_If (aK (hc pins s σ H _ I h) fun d s1 ⟨H1,I1,q1⟩=>?_)
 cases d with
 |true=>exact ha pins s1 σ H1 D I1 q1
 |false=>exact hb pins s1 σ H1 D I1 q1
end
abbrev TG:=V->St->Hp->(St->Hp->Prop)->Prop
abbrev gU:=List V->St->Hp->(St->Hp->Prop)->Prop
def PG(X:Cx)(target:Expr)(t:TG):Prop:=
 ∀(pins:List (Addr×Obj)) (s:Shared) (σ:St) (H:Hp) (v:V) (u:Value) (Q:St->Hp->Prop),Inv X pins σ H s->RelV v u->t v σ H Q->
  wpAny (model X.prog X.w) X.A (assign target X.env u) (fun _ s'=>∃σ' H',Inv X pins σ' H' s'/\Q σ' H') X.xe s
def qU(X:Cx)(ts:List Expr)(t:gU):Prop:=
 ∀(pins:List (Addr×Obj)) (s:Shared) (σ:St) (H:Hp) (vs:List V) (us:List Value) (Q:St->Hp->Prop),Inv X pins σ H s->Vals vs us->t vs σ H Q->
  wpAny (model X.prog X.w) X.A (assignInOrder ((assignEach ts X.env).map (·.2)) us) (fun _ s'=>∃σ' H',Inv X pins σ' H' s'/\Q σ' H') X.xe s
abbrev ud:=V->V->V->Hp->(Hp->Prop)->Prop
def C3(X:Cx)(t:ud):Prop:=
 ∀(pins:List (Addr×Obj)) (s:Shared) (σ:St) (H:Hp) (o i v:V) (ov iv u:Value) (Q:Hp->Prop),Inv X pins σ H s->RelV o ov->RelV i iv->RelV v u->t o i v H Q->
  wpAny (model X.prog X.w) X.A (setItem ov iv u) (fun _ s'=>∃H',Inv X pins σ H' s'/\Q H') X.xe s
section
variable{X:Cx}{pos:Pos}
def ir(i:Nat):TG:=fun v σ H Q=>Q (σ.set i (some v)) H
theorem br{i:Nat}{x:Str}(hN:X.N.Nodup)(hi:X.N[i]?=some x)(hx:Loc X.env.scope x)(hf:X.fn x=true\/X.env.scope.names.lookup x=some .local:=by first|exact .inl rfl|exact .inr rfl|assumption):PG X (.Name x pos) (ir i):=by
 intro pins s σ H v u Q I r h
 exact wpAny_assign_Name (Fz I hN hi hx r (fun s' I'=>⟨_,H,I',h⟩) hf)
def yL:gU:=fun vs σ H Q=>vs=[]/\Q σ H
def xO(t:TG)(u:gU):gU:=fun vs σ H Q=>∃v r,vs=v::r/\t v σ H fun σ' H'=>u r σ' H' Q
theorem jP:qU X [] yL:=by
 intro pins s σ H vs us Q I r h
 obtain⟨e,h⟩:=h
 subst e
 cases r
 exact assignInOrder_nil ⟨σ,H,I,h⟩
theorem eY{e:Expr}{es:List Expr}{t:TG}{u:gU}(h1:PG X e t)(h2:qU X es u)
    (hs:(assignEach (e::es) X.env).map (·.2)=assign e X.env::(assignEach es X.env).map (·.2):=by rfl):qU X (e::es) (xO t u):=by
  intro pins s σ H vs us Q I r h
  obtain⟨v,vr,e1,h⟩:=h
  subst e1
  cases r with
  | cons r rr =>
    rw[hs]
    refine assignInOrder_cons (aK (h1 pins s σ H _ _ _ I r h) fun _ s1 ⟨σ1,H1,I1,q1⟩=>?_)
    exact h2 pins s1 σ1 H1 _ _ Q I1 rr q1
def vI(K:PySem.W.Frag)(n:Nat)(t:gU):TG:=fun v σ H Q=>∃a xs,v= .ref a/\fQ K H a xs/\xs.length=n/\t xs σ H Q
theorem Je{es:List Expr}{k:Nat}{t:gU}{n:Nat}(hc:X.calm=true)(h:qU X es t)
  (hn:(assignEach es X.env).length=n:=by rfl) (hst:(assignEach es X.env).findIdx? (·.1)=none:=by rfl):PG X (.Tuple es k pos) (vI X.K n t):=by
 intro pins s σ H v u Q I r hw
 obtain⟨a,xs,e1,hq,hl,hw⟩:=hw
 subst e1
 cases r
 obtain⟨its,rv,ht,hz⟩:=I.tuple hq
 refine assign_Tuple_tuple (I.ok.hd hc) ht (by simp[hn,<-hl,rv.length]) hst fun h' hx=>?_
 have I1:Inv X pins σ H {s with heap:=h'}:=I.kept (t':=s.toks) fun b o e=>hx b o (cG (bw e)) e
 exact h pins _ σ H xs _ Q I1 (by simpa using rv) hw
def rq(to ti:TE)(t:ud):TG:=fun v σ H Q=>to σ H fun o H1=>ti σ H1 fun i H2=>t o i v H2 fun H3=>Q σ H3
theorem jg{o i:Expr}{to ti:TE}{t:ud}(ho:PE X o to)(hi:PE X i ti)(hs:C3 X t)
  (ha : ∀ v, assign (.Subscript o i pos) X.env v = (do
   let ov<-holding [v] (eval o X.env)
   let iv<-holding [v,ov] (eval i X.env)
   standAt pos
   holding [v,ov,iv] (setItem ov iv v)
   release [v,ov,iv] []):=by intro _;rfl):PG X (.Subscript o i pos) (rq to ti t):=by
 intro pins s σ H v u Q I r h
 rw[ha]
 refine wpAny_bind (wpAny_holding (aK (ho pins s σ H _ I h) fun ov s1 ⟨x,H1,I1,r1,q1⟩=>?_))
 refine wpAny_bind (wpAny_holding (aK (hi pins s1 σ H1 _ I1 q1) fun iv s2 ⟨y,H2,I2,r2,q2⟩=>?_))
 refine wpAny_bind (wpAny_standAt (wpAny_bind (wpAny_holding (aK (hs pins s2 σ H2 x y v ov iv u _ I2 r1 r2 r q2) fun _ s3 ⟨H3,I3,q3⟩=>?_))))
 exact wpAny_release ⟨σ,H3,I3,q3⟩
def i6(te:TE)(g:TG):TS:=fun D σ H=>te σ H fun x H1=>g x σ H1 D.nx
theorem jq{tg e:Expr}{te:TE}{g:TG}(he:PE X e te)(hg:PG X tg g)(hs:swapsWithSole [tg] e pos.line X.env=pure false:=by rfl)(hw:swappedStores [tg] e X.env=pure none:=by rfl)
  (h1:(assignEach [tg] X.env).map (·.2)=[assign tg X.env]:=by rfl):PS X (.Assign [tg] e pos) (i6 te g):=by
 intro pins s σ H D I h
 refine wpAny_Assign_stores (aK (he pins s σ H _ I h) fun v s1 ⟨x,H1,I1,r1,q1⟩=>?_) hs hw
 rw[h1]
 exact aK (hg pins s1 σ H1 x v _ I1 r1 q1) fun _ s2 q=>q
theorem aV{i:Nat}{x:Str}{e:Expr}{te:TE}{pos':Pos}(hN:X.N.Nodup)(hi:X.N[i]?=some x)(hx:Loc X.env.scope x)(he:PE X e te)(hs:swapsWith e (some (.Name x pos')) pos.line X.env=pure false:=by rfl)(hf:X.fn x=true\/X.env.scope.names.lookup x=some .local:=by first|exact .inl rfl|exact .inr rfl|assumption):
  PS X (.Assign [.Name x pos'] e pos) (i6 te (ir i)):=by
 intro pins s σ H D I h
 refine wpAny_Assign_Name (aK (he pins s σ H _ I h) fun v s1 ⟨y,H1,I1,r1,q1⟩=>?_) hs
 exact Fz I1 hN hi hx r1 (fun s2 I2=>⟨_,H1,I2,q1⟩) hf
end
section
variable{X:Cx}{pos:Pos}
def IF(c:TT)(tb:TS):TS:=fun D σ H=>∃W:Nat->St->Hp->Prop,(∃m,W m σ H)/\∀m σ H,W m σ H->
 c σ H fun b H1=>if b=true then∃N:St->Hp->Prop,(∀σ' H',N σ' H'->∃m',m'<m/\W m' σ' H')/\tb {D with nx:=N,ct:=N,bk:=D.nx} σ H1 else D.nx σ H1
theorem WA{c:Expr}{body:List Stmt}{tc:TT}{tb:TS}(hp:PassesOwn (model X.prog X.w) X.A X.env X.xe)(hc:PT X c tc)(hb:jd X body tb):PS X (.While c body [] pos) (IF tc tb):=by
  intro pins s σ H D I h
  obtain⟨W,⟨m0,w0⟩,turn⟩:=h
  refine wpAny_While (codeAny_whileLoop (fun n s'=>∃σ' H',Inv X pins σ' H' s'/\W n σ' H') ?_ m0 ⟨σ,H,I,w0⟩)
  rintro n s1 ⟨σ1,H1,I1,w1⟩
  refine wpAny_passesOwn hp (aK (hc pins s1 σ1 H1 _ I1 (turn n σ1 H1 w1)) fun b s2 ⟨H2,I2,q2⟩=>?_)
  cases b with
  | true =>
    obtain⟨N,hN,q2⟩:=q2
    rw[if_pos rfl]
    refine wpAny_passesOwn hp (aK (hb pins s2 σ1 H2 _ I2 q2) fun f s3 q3=>?_)
    cases f with
    | next =>
      obtain⟨σ3,H3,I3,n3⟩:=q3
      obtain⟨m',hm,w3⟩:=hN σ3 H3 n3
      exact⟨m',hm,σ3,H3,I3,w3⟩
    | cont =>
      obtain⟨σ3,H3,I3,n3⟩:=q3
      obtain⟨m',hm,w3⟩:=hN σ3 H3 n3
      exact⟨m',hm,σ3,H3,I3,w3⟩
    |brk=>exact q3
    |ret v=>exact q3
  | false =>
    rw[if_neg bV]
    exact wpAny_execs_nil ⟨σ1,H2,I2,q2⟩
end
structure It where
 go:Nat->Hp->Prop
 k7:Nat->Hp->V->Hp->Prop
 stop:Nat->Hp->Prop
def gF(X:Cx)(pins:List (Addr×Obj))(H:Hp)(b:Addr):Prop:=
 H b=none/\b≠X.env.locals/\b∉X.fs/\(b∈X.ex\/X.s₀.heap.objs.size<=b)/\(∀x c,X.env.cells.lookup x=some c->c≠b)/\∀p∈X.pn++pins,p.1≠b
theorem Inv.nO{X:Cx}{pins:List (Addr×Obj)}{σ:St}{H H':Hp}{s:Shared}{b:Addr}(I:Inv X pins σ H s)(hb:s.heap.objs.size<=b)(hn:H' b=none):gF X pins H' b:=by
 refine⟨hn,oA (eg I.lt hb),I.Qa hb, .inr (dB I.sz hb),fun x c e z=>?_,fun p hp z=>?_⟩
 ·obtain⟨v,q⟩:=I.cell x c e
  exact absurd (eg q.lt (by rw[z];exact hb)) (iG _)
 ·exact absurd (eg (bw (I.pin p hp).1) (by rw[z];exact hb)) (iG _)
structure Turn(P:Program)(w:World)(K:PySem.W.Frag)(tg:Expr)(J:It)(fp:List Addr)(it:Addr)(tn:Nat->Heap->Prop):Prop where
 mem:it∈fp
 obj:∀i h,tn i h->∀b∈fp,∃o,h.get? b=some o/\∀v,o.data≠ .cell v
 keep:∀i h h',tn i h->(∀b∈fp,∀o,h.get? b=some o->h'.get? b=some o)->tn i h'
 item:∀(X:Cx),X.prog=P->X.w=w->X.K=K->X.calm=true->∀(i:Nat) (pins:List (Addr×Obj)) (s:Shared) (σ:St) (H:Hp) (E:Value->Shared->Prop),Inv X pins σ H s->(∀b∈fp,gF X pins H b)->tn i s.heap->J.go i H->
  wpAny (model P w) X.A (pyNext (.ref it)) (fun r s1=>∃u,r=some u/\
   wpAny (model P w) X.A (letOwnedTupleGo tg (.ref it) u) (fun _ s2=>∃x H',Inv X pins σ H' s2/\RelV x u/\J.k7 i H x H'/\tn (i+1) s2.heap/\∀b∈fp,H' b=none) E s1) E s
 done:∀(X:Cx),X.prog=P->X.w=w->X.K=K->X.calm=true->∀(i:Nat) (pins:List (Addr×Obj)) (s:Shared) (σ:St) (H:Hp) (E:Value->Shared->Prop),Inv X pins σ H s->(∀b∈fp,gF X pins H b)->tn i s.heap->J.stop i H->
  wpAny (model P w) X.A (pyNext (.ref it)) (fun r s1=>r=none/\Inv X pins σ H s1) E s
 self:∀(A:Around) (i:Nat) (s:Shared) (Q:Value->Shared->Prop) (E:Value->Shared->Prop),tn i s.heap->Q (.ref it) s->wpAny (model P w) A (pyIter (.ref it)) Q E s
abbrev TI:=St->Hp->(It->Hp->Prop)->Prop
def J5(X:Cx)(pins:List (Addr×Obj))(σ:St)(tg:Expr)(R:It->Hp->Prop)(itv:Value)(s2:Shared):Prop:=
 ∃(it:Addr) (fp:List Addr) (tn:Nat->Heap->Prop) (J:It) (H':Hp),itv= .ref it/\Inv X pins σ H' s2/\Turn X.prog X.w X.K tg J fp it tn/\tn 0 s2.heap/\(∀b∈fp,gF X pins H' b)/\R J H'
def PI(X:Cx)(tg iter:Expr)(wi:TI):Prop:=
 ∀(pins:List (Addr×Obj)) (s:Shared) (σ:St) (H:Hp) (R:It->Hp->Prop),Inv X pins σ H s->wi σ H R->
  wpAny (model X.prog X.w) X.A (eval iter X.env) (fun v s1=>wpAny (model X.prog X.w) X.A (pyIter v) (J5 X pins σ tg R) X.xe s1) X.xe s
theorem Kf{M:Model}{A:Around}{E:Value->Shared->Prop}{s:Shared}{tg:Expr}{it:Addr}{u:Value}{o:Obj}{n:String}{vs:Array Value}{Q:Unit->Shared->Prop}(ho:s.heap.get? it=some o)(hc:o.cls= .type n)(hd:o.data= .fields vs)
    (hn:["enumerate","zip","dict_itemiterator","dict_reverseitemiterator","odict_iterator","itertools.zip_longest","itertools.pairwise"].contains n=false) (hQ:Q () s):wpAny M A (letOwnedTupleGo tg (.ref it) u) Q E s:=by
  unfold letOwnedTupleGo
  cases tg<;>first
    |exact wpAny_pure hQ
    |(cases u<;>first
        |exact wpAny_pure hQ
        | (refine wpAny_bind (wpAny_load ho ?_)
           rw[hc,hd]
           show wpAny M A (if(["enumerate","zip","dict_itemiterator","dict_reverseitemiterator","odict_iterator","itertools.zip_longest","itertools.pairwise"].contains n && vs[0]?==some (rawInt _))=true then _ else _) Q E s
           rw[if_neg (by intro h;rw[hn,Bool.false_and] at h;cases h)]
           exact wpAny_pure hQ))
def nv(K:PySem.W.Frag)(a:Addr):It:=
 ⟨fun i H=>∃xs x,aQ K H a xs/\xs[i]?=some x,fun i H x H'=>H'=H/\∀xs,aQ K H a xs->xs[i]?=some x,fun i H=>∃xs,aQ K H a xs/\xs.length<=i⟩
def iC(lo:Int)(n:Nat):It:=⟨fun i _=>i<n,fun i H x H'=>H'=H/\x= .int (lo+i),fun i _=>n<=i⟩
theorem Xd{P:Program}{w:World}{K:PySem.W.Frag}{tg:Expr}(a it:Addr):Turn P w K tg (nv K a) [it] it (fun i h=>h.IsListIter it a i) where
 mem:=by simp
 obj:=fun i h st b hb=>by
  have e:b=it:=by simpa using hb
  subst e
  obtain⟨o,e,c,d⟩:=st
  exact⟨o,e,fun v z=>by rw[d] at z;cases z⟩
 keep:=fun i h h' st k=>st.at fun o e=>k it (by simp) o e
 item:=by
  intro X hP hw hK hc i pins s σ H E I hf st hg
  subst hP hw hK
  obtain⟨xs,x,hq,hx⟩:=hg
  obtain⟨its,rv,p,hz⟩:=I.list hq
  obtain⟨u,hu,ru⟩:=rv.get hx
  obtain⟨f0,f1,f2,f3,f4,f5⟩:=hf it (by simp)
  refine wpAny_pyNext_list_item st p.isList (x:=u) (by simpa using hu) fun h' st' sb=>?_
  have I1:Inv X pins σ H {s with heap:=h'}:=I.turned (t':=s.toks) (fun b o hb e=>(sb.2 b hb).trans e) f0 f1 f3 f4 f5
  obtain⟨o,e,c,d⟩:=id st'
  exact⟨u,rfl,Kf (s:={s with heap:=h'}) e c d (by decide) ⟨x,H,I1,ru,⟨rfl,fun ys hy=>by rw[I.uO hy hq];exact hx⟩,st',fun b hb=>(hf b hb).1⟩⟩
 done:=by
  intro X hP hw hK hc i pins s σ H E I hf st hg
  subst hP hw hK
  obtain⟨xs,hq,hx⟩:=hg
  obtain⟨its,rv,p,hz⟩:=I.list hq
  obtain⟨f0,f1,f2,f3,f4,f5⟩:=hf it (by simp)
  have hl:=rv.length
  exact wpAny_pyNext_list_end (I.ok.hd hc) st p.isList (by simp;omega) fun h' eb=>⟨rfl,I.turned (t':=s.toks) (fun b o hb e=>eb b o hb e) f0 f1 f3 f4 f5⟩
 self:=fun _ _ _ _ _ st h=>wpAny_pyIter_listiter st h
theorem PB{P:Program}{w:World}{K:PySem.W.Frag}{tg:Expr}(it:Addr)(lo:Int)(n:Nat):Turn P w K tg (iC lo n) [it] it (fun i h=>IsRangeIter h it (lo+(i:Nat)*1) ((n:Int)-(i:Nat)) 1) where
 mem:=by simp
 obj:=fun i h st b hb=>by
  have e:b=it:=by simpa using hb
  subst e
  exact⟨_,st,fun v z=>by
   have z':Data.fields _=Data.cell v:=z
   cases z'⟩
 keep:=fun i h h' st k=>k it (by simp) _ st
 item:=by
  intro X hP hw hK hc i pins s σ H E I hf st hg
  subst hP hw hK
  obtain⟨f0,f1,f2,f3,f4,f5⟩:=hf it (by simp)
  have W:=Walks.range (prog:=X.prog) (w:=X.w) (I.ok.hd hc) it lo 1 n
  refine W.item i s _ _ hg st fun v h' tk hv st' kk=>?_
  obtain⟨t,rfl⟩:=hv
  have I1:Inv X pins σ H {s with heap:=h',toks:=tk}:=I.turned (fun b o hb e=>kk b o (by simpa using hb) e) f0 f1 f3 f4 f5
  refine⟨_,rfl,Kf (s:={s with heap:=h',toks:=tk}) (n:="range_iterator") st' rfl rfl (by decide) ⟨.int (lo+i),H,I1,⟨t,?_⟩,⟨rfl,rfl⟩,st',fun b hb=>(hf b hb).1⟩⟩
  rw[uH]
 done:=by
  intro X hP hw hK hc i pins s σ H E I hf st hg
  subst hP hw hK
  obtain⟨f0,f1,f2,f3,f4,f5⟩:=hf it (by simp)
  exact wpAny_pyNext_range_end (I.ok.hd hc) st (by have:n<=i:=hg;omega) fun h' eb=>⟨rfl,I.turned (t':=s.toks) (fun b o hb e=>eb b o hb e) f0 f1 f3 f4 f5⟩
 self:=fun _ _ _ _ _ st h=>wpAny_pyIter_rangeiter st h
section
variable{X:Cx}{tg:Expr}
def rS(K:PySem.W.Frag)(tl:TE):TI:=fun σ H R=>tl σ H fun x H1=>∃a,x= .ref a/\(∃xs,aQ K H1 a xs)/\R (nv K a) H1
theorem UW{l:Expr}{tl:TE}(hl:PE X l tl):PI X tg l (rS X.K tl):=by
 intro pins s σ H R I h
 refine aK (hl pins s σ H _ I h) fun v s1 ⟨x,H1,I1,r1,q1⟩=>?_
 obtain⟨a,e,⟨xs,hq⟩,q⟩:=q1
 subst e
 cases r1
 obtain⟨its,rv,p,hz⟩:=I1.list hq
 refine wpAny_pyIter_list p.isList ?_
 refine⟨s1.heap.objs.size,[s1.heap.objs.size],_,_,H1,rfl,I1.kept (t':=s1.toks) fun b o e=>bH _ e,Xd a _,⟨_,dX _ rfl,rfl,rfl⟩,fun b hb=>?_,q⟩
 have e:b=s1.heap.objs.size:=by simpa using hb
 subst e
 exact I1.nO (aS _) (I1.hok.fresh (aS _))
theorem D4{pins:List (Addr×Obj)}{σ:St}{H:Hp}{s:Shared}{R:It->Hp->Prop}{E:Value->Shared->Prop}{lo hi:Int}{t u v:Tok}{tk:Nat}(I:Inv X pins σ H s)(h1: -(2^62)<=lo)(h2:lo<2^62)(h3: -(2^62)<=hi)(h4:hi<2^62)
  (q:R (iC lo (hi-lo).toNat) H):wpAny (model X.prog X.w) X.A (pyIter (.ref s.heap.objs.size)) (J5 X pins σ tg R) E {s with heap:=s.heap.push {cls:= .type "range",data:= .fields #[.int lo t, .int hi u, .int 1 v]},toks:=tk}:=by
 refine wpAny_pyIter_range (IsRange.new ..) (small_one h1 h2 h3 h4) ?_
 have I1:Inv X pins σ H {s with heap:=s.heap.push {cls:= .type "range",data:= .fields #[.int lo t, .int hi u, .int 1 v]},toks:=tk}:=I.kept fun b o e=>bH _ e
 refine⟨(s.heap.push {cls:= .type "range",data:= .fields #[.int lo t, .int hi u, .int 1 v]}).objs.size,[(s.heap.push {cls:= .type "range",data:= .fields #[.int lo t, .int hi u, .int 1 v]}).objs.size],_,_,H,rfl,
  I1.kept (t':=tk) fun b o e=>bH _ e,PB _ lo (hi-lo).toNat,?_,fun b hb=>?_,q⟩
 ·have e1:lo+((0:Nat):Int)*1=lo:=by simp
  have e2:(((hi-lo).toNat:Nat):Int)-((0:Nat):Int)=Builtin.Range.rangeSize lo hi 1:=by rw[rangeSize_one];split<;>omega
  show IsRangeIter _ _ (lo+((0:Nat):Int)*1) ((((hi-lo).toNat:Nat):Int)-((0:Nat):Int)) 1
  rw[e1,e2]
  exact dX _ rfl
 ·have e:b=(s.heap.push {cls:= .type "range",data:= .fields #[.int lo t, .int hi u, .int 1 v]}).objs.size:=by simpa using hb
  subst e
  exact I1.nO (aS _) (I1.hok.fresh (aS _))
def tL(ta:TA):TI:=fun σ H R=>ta σ H fun vs H1=>∃j:Int,vs=[.int j]/\ -(2^62)<=j/\j<2^62/\R (iC 0 j.toNat) H1
def IU(ta:TA):TI:=fun σ H R=>ta σ H fun vs H1=>∃i j:Int,vs=[.int i, .int j]/\(-(2^62)<=i/\i<2^62/\ -(2^62)<=j/\j<2^62)/\R (iC i (j-i).toNat) H1
theorem lg{a:Expr}{ta:TA}{p pos:Pos}(hg:Gl X "range")(hm:X.mg "range"=none)(ha:PA X [a] ta)(hs:starEach [a] X.env=[(false,eval a X.env)]:=by rfl):PI X tg (.Call (.Name "range" p) [a] [] pos) (tL ta):=by
  intro pins s σ H R I h
  refine Call_ (nq I hg hm boot_range (rN (aK (ha pos pins s σ H _ I h) fun us s1 ⟨vs,H1,I1,r1,q1⟩=>?_) hs rfl))
  obtain⟨j,e,q1,q2,q⟩:=q1
  subst e
  cases r1 with
  | cons r rr =>
    cases rr
    obtain⟨t,rfl⟩:=r
    exact call_range_1 (D4 I1 (by omega) (by omega) q1 q2 (by simpa using q))
theorem Gp{a b:Expr}{ta:TA}{p pos:Pos}(hg:Gl X "range")(hm:X.mg "range"=none)(ha:PA X [a,b] ta)(hs:starEach [a,b] X.env=[(false,eval a X.env),(false,eval b X.env)]:=by rfl)(hs2:starEach [b] X.env=[(false,eval b X.env)]:=by rfl):
    PI X tg (.Call (.Name "range" p) [a,b] [] pos) (IU ta):=by
  intro pins s σ H R I h
  refine Call_ (nq I hg hm boot_range (rN (aK (ha pos pins s σ H _ I h) fun us s1 ⟨vs,H1,I1,r1,q1⟩=>?_) (by rw[hs,hs2]) (by rw[hs2];rfl)))
  obtain⟨i,j,e,⟨q1,q2,q3,q4⟩,q⟩:=q1
  subst e
  cases r1 with
  | cons r rr =>
    cases rr with
    | cons r' rr =>
      cases rr
      obtain⟨t,rfl⟩:=r
      obtain⟨t',rfl⟩:=r'
      exact call_range_2 (D4 I1 q1 q2 q3 q4 q)
def oS(wi:TI)(g:TG)(tb:TS):TS:=fun D σ H=>wi σ H fun J H1=>∃W:Nat->Nat->St->Hp->Prop,(∃m,W 0 m σ H1)/\∀i m σ H,W i m σ H->
 (J.stop i H/\D.nx σ H)\/(J.go i H/\∃N:St->Hp->Prop,(∀σ' H',N σ' H'->∃m',m'<m/\W (i+1) m' σ' H')/\∀x H',J.k7 i H x H'->g x σ H' fun σ2 H2=>tb {D with nx:=N,ct:=N,bk:=D.nx} σ2 H2)
def qg(fp:List Addr)(h:Heap):List (Addr×Obj):=fp.filterMap fun b=>(h.get? b).map fun o=>(b,o)
theorem t8{fp:List Addr}{h:Heap}{b:Addr}{o:Obj}(hb:b∈fp)(e:h.get? b=some o):(b,o)∈qg fp h:=wU.mpr ⟨b,hb,by rw[e];rfl⟩
theorem TY{fp:List Addr}{h:Heap}{p:Addr×Obj}(hp:p∈qg fp h):p.1∈fp/\h.get? p.1=some p.2:=by
  obtain⟨b,hb,e⟩:=wU.mp hp
  cases q:h.get? b with
  |none=>rw[q] at e;cases e
  | some o =>
    rw[q] at e
    have e':(b,o)=p:=fR e
    subst e'
    exact⟨hb,q⟩
theorem Inv.pinned{pins:List (Addr×Obj)}{σ:St}{H:Hp}{s:Shared}{fp:List Addr}(I:Inv X pins σ H s)(hf:∀b∈fp,gF X pins H b)(ho:∀b∈fp,∃o,s.heap.get? b=some o/\∀v,o.data≠ .cell v):Inv X (pins++qg fp s.heap) σ H s:=
 I.JV fun p hp=>(ez.mp hp).elim (fun z=>I.pin p (iY _ z)) fun z=>by
  obtain⟨hb,e⟩:=TY z
  obtain⟨f0,f1,f2,_⟩:=hf p.1 hb
  obtain⟨o,e',d⟩:=ho p.1 hb
  rw[e] at e';cases e'
  exact⟨e,f0,f1,f2,d⟩
theorem Inv.vM{pins pl:List (Addr×Obj)}{σ:St}{H:Hp}{s:Shared}(I:Inv X (pins++pl) σ H s):Inv X pins σ H s:=I.JV fun p hp=>I.pin p (iY _ (kh _ hp))
theorem iS{iter:Expr}{body:List Stmt}{wi:TI}{g:TG}{tb:TS}{pos:Pos}(hp:PassesOwn (model X.prog X.w) X.A X.env X.xe)(hc:X.calm=true)(hi:PI X tg iter wi)(hg:PG X tg g)(hb:jd X body tb)
  (hs:∀x,foldedSetIterable iter X.env x=pure x:=by intro _;rfl):PS X (.For tg iter body [] pos) (oS wi g tb):=by
 intro pins s σ H D I h
 refine wpAny_For (aK (hi pins s σ H _ I h) fun v s1 h1=>aK h1 fun itv s2 h2=>?_) hs
 obtain⟨it,fp,tn,J,H2,e,I2,T,st2,f2,W,⟨m0,w0⟩,turn⟩:=h2
 subst e
 have mG:∀{H':Hp},(∀b∈fp,H' b=none)->∀b∈fp,gF X pins H' b:=fun hn b hb=>⟨hn b hb,(f2 b hb).2⟩
 refine codeAny_forLoop_any (fun n s'=>∃i σ' H',Inv X pins σ' H' s'/\tn i s'.heap/\(∀b∈fp,H' b=none)/\W i n σ' H') ?_ m0 ⟨0,σ,H2,I2,st2,fun b hb=>(f2 b hb).1,w0⟩
 rintro n s3 ⟨i,σ3,H3,I3,st3,fr3,w3⟩
 rcases turn i n σ3 H3 w3 with ⟨stop,qn⟩|⟨go,N,hN,step⟩
 ·refine wpAny_passesOwn hp (aK (T.done X rfl rfl rfl hc i pins s3 σ3 H3 X.xe I3 (mG fr3) st3 stop) fun r s4 ⟨hr,I4⟩=>?_)
  subst hr
  exact wpAny_execs_nil ⟨σ3,H3,I4,qn⟩
 ·refine wpAny_passesOwn hp (aK (T.item X rfl rfl rfl hc i pins s3 σ3 H3 X.xe I3 (mG fr3) st3 go) fun r s4 ⟨u,hr,h4⟩=>?_)
  subst hr
  refine wpAny_passesOwn hp (aK h4 fun _ s5 ⟨x,H5,I5,r5,y5,kT,CU⟩=>?_)
  have yV:=I5.pinned (mG CU) (T.obj _ _ kT)
  refine wpAny_passesOwn hp (aK (hg _ s5 σ3 H5 x u _ yV r5 (step x H5 y5)) fun _ s6 ⟨rJ,H6,I6,q6⟩=>?_)
  refine wpAny_passesOwn hp (aK (hb _ s6 rJ H6 _ I6 q6) fun f s7 q7=>?_)
  have again:∀{jF:St} {H7:Hp},Inv X (pins++qg fp s5.heap) jF H7 s7->N jF H7->∃m,m<n/\∃i σ' H',Inv X pins σ' H' s7/\tn i s7.heap/\(∀b∈fp,H' b=none)/\W i m σ' H':=fun{jF H7} I7 n7=>by
   obtain⟨m',hm,w7⟩:=hN jF H7 n7
   refine⟨m',hm,i+1,jF,H7,I7.vM,T.keep _ _ _ kT fun b hb o e=>(I7.pin (b,o) (iY _ (iY _ (t8 hb e)))).1,fun b hb=>?_,w7⟩
   obtain⟨o,e,d⟩:=T.obj _ _ kT b hb
   exact(I7.pin (b,o) (iY _ (iY _ (t8 hb e)))).2.1
  cases f with
  |next=>obtain⟨jF,H7,I7,n7⟩:=q7;exact again I7 n7
  |cont=>obtain⟨jF,H7,I7,n7⟩:=q7;exact again I7 n7
  |brk=>obtain⟨jF,H7,I7,q7⟩:=q7;exact⟨jF,H7,I7.vM,q7⟩
  |ret v=>obtain⟨x7,jF,H7,I7,r7,q7⟩:=q7;exact⟨x7,jF,H7,I7.vM,r7,q7⟩
end
theorem EX{K:PySem.W.Frag}{a:Addr}{xs:List V}{g:TG}{tb:TS}{D:Ends}{σ:St}{H:Hp}(Pv:Nat->St->Hp->Prop)(h0:Pv 0 σ H)(hl:∀i σ H,i<=xs.length->Pv i σ H->aQ K H a xs)
  (hs:∀i x σ H,xs[i]?=some x->Pv i σ H->g x σ H fun σ2 H2=>tb {D with nx:=Pv (i+1),ct:=Pv (i+1),bk:=D.nx} σ2 H2) (hd:∀σ H,Pv xs.length σ H->D.nx σ H):
  ∃W:Nat->Nat->St->Hp->Prop,(∃m,W 0 m σ H)/\∀i m σ H,W i m σ H->
   ((nv K a).stop i H/\D.nx σ H)\/((nv K a).go i H/\∃N:St->Hp->Prop,(∀σ' H',N σ' H'->∃m',m'<m/\W (i+1) m' σ' H')/\∀x H',(nv K a).k7 i H x H'->g x σ H' fun σ2 H2=>tb {D with nx:=N,ct:=N,bk:=D.nx} σ2 H2):=by
 refine⟨fun i m σ H=>m=xs.length-i/\i<=xs.length/\Pv i σ H,⟨xs.length,by simp,eU _,h0⟩,?_⟩
 rintro i m σ H ⟨rfl,hi,p⟩
 have q:=hl i σ H hi p
 by_cases hlt:i<xs.length
 ·refine .inr ⟨⟨xs,xs[i],q,by simp[hlt]⟩,Pv (i+1),fun σ' H' p'=>⟨xs.length-(i+1),by omega,rfl,hlt,p'⟩,fun x H' y=>?_⟩
  obtain⟨e,y⟩:=y
  subst e
  exact hs i x σ _ (y xs q) p
 ·have e:i=xs.length:=by omega
  subst e
  exact .inl ⟨⟨xs,q,aS _⟩,hd σ H p⟩
theorem BS{lo:Int}{n:Nat}{g:TG}{tb:TS}{D:Ends}{σ:St}{H:Hp}(Pv:Nat->St->Hp->Prop)(h0:Pv 0 σ H)
  (hs:∀i σ H,i<n->Pv i σ H->g (.int (lo+i)) σ H fun σ2 H2=>tb {D with nx:=Pv (i+1),ct:=Pv (i+1),bk:=D.nx} σ2 H2) (hd:∀σ H,Pv n σ H->D.nx σ H):
  ∃W:Nat->Nat->St->Hp->Prop,(∃m,W 0 m σ H)/\∀i m σ H,W i m σ H->
   ((iC lo n).stop i H/\D.nx σ H)\/((iC lo n).go i H/\∃N:St->Hp->Prop,(∀σ' H',N σ' H'->∃m',m'<m/\W (i+1) m' σ' H')/\∀x H',(iC lo n).k7 i H x H'->g x σ H' fun σ2 H2=>tb {D with nx:=N,ct:=N,bk:=D.nx} σ2 H2):=by
 refine⟨fun i m σ H=>m=n-i/\i<=n/\Pv i σ H,⟨n,by simp,eU _,h0⟩,?_⟩
 rintro i m σ H ⟨rfl,hi,p⟩
 by_cases hlt:i<n
 ·refine .inr ⟨hlt,Pv (i+1),fun σ' H' p'=>⟨n-(i+1),by omega,rfl,hlt,p'⟩,fun x H' y=>?_⟩
  obtain⟨e,y⟩:=y
  subst e y
  exact hs i σ _ hlt p
 ·have e:i=n:=by omega
  subst e
  exact .inl ⟨aS _,hd σ H p⟩
theorem RV{c:TT}{tb:TS}{D:Ends}{σ:St}{H:Hp}(Pv:St->Hp->Prop)(μ:St->Hp->Nat)(h0:Pv σ H)
  (hs:∀σ H,Pv σ H->c σ H fun b H1=>if b=true then tb {D with nx:=fun σ' H'=>Pv σ' H'/\μ σ' H'<μ σ H,ct:=fun σ' H'=>Pv σ' H'/\μ σ' H'<μ σ H,bk:=D.nx} σ H1 else D.nx σ H1)
  (mono:∀σ H Q Q',(∀b H1,Q b H1->Q' b H1)->c σ H Q->c σ H Q'):IF c tb D σ H:=by
 refine⟨fun m σ H=>m=μ σ H/\Pv σ H,⟨_,rfl,h0⟩,?_⟩
 rintro m σ H ⟨rfl,p⟩
 refine mono σ H _ _ (fun b H1 q=>?_) (hs σ H p)
 cases b with
 |true=>exact⟨_,fun σ' H' ⟨p',l⟩=>⟨_,l,rfl,p'⟩,q⟩
 |false=>exact q
abbrev R2:=V->V->Hp->VK->Prop
def cU(X:Cx)(f:Value->Value->Sem Value)(r:R2):Prop:=
 ∀(pins:List (Addr×Obj)) (s:Shared) (σ:St) (H:Hp) (x y:V) (v u:Value) (Q:VK),Inv X pins σ H s->RelV x v->RelV y u->r x y H Q->
  wpAny (model X.prog X.w) X.A (f v u) (EP X pins σ Q) X.xe s
def w9(X:Cx)(f:Value->Sem Value)(r:V->Hp->VK->Prop):Prop:=
 ∀(pins:List (Addr×Obj)) (s:Shared) (σ:St) (H:Hp) (x:V) (v:Value) (Q:VK),Inv X pins σ H s->RelV x v->r x H Q->
  wpAny (model X.prog X.w) X.A (f v) (EP X pins σ Q) X.xe s
def eS(X:Cx)(f:Value)(r:List V->Hp->VK->Prop):Prop:=
 ∀(pins:List (Addr×Obj)) (s:Shared) (σ:St) (H:Hp) (xs:List V) (us:List Value) (Q:VK),Inv X pins σ H s->Vals xs us->r xs H Q->
  wpAny (model X.prog X.w) X.A (call f us) (EP X pins σ Q) X.xe s
def Px(X:Cx)(r:V->Hp->(Bool->Hp->Prop)->Prop):Prop:=
 ∀(pins:List (Addr×Obj)) (s:Shared) (σ:St) (H:Hp) (x:V) (v:Value) (Q:Bool->Hp->Prop),Inv X pins σ H s->RelV x v->r x H Q->
  wpAny (model X.prog X.w) X.A (truthy v) (TP X pins σ Q) X.xe s
def cZ(r:R2)(ta tb:TE):TE:=fun σ H Q=>ta σ H fun x H1=>tb σ H1 fun y H2=>r x y H2 Q
def Bx(r:V->Hp->VK->Prop)(ta:TE):TE:=fun σ H Q=>ta σ H fun x H1=>r x H1 Q
def rI(C:Int->Int->Prop)(g:Int->Int->V):R2:=fun x y H Q=>∃i j,x= .int i/\y= .int j/\C i j/\Q (g i j) H
def gP(g:Int->Int->V):R2:=fun x y H Q=>∃i j,x= .int i/\y= .int j/\Q (g i j) H
def rU(g:Int->V):V->Hp->VK->Prop:=fun x H Q=>∃i,x= .int i/\Q (g i) H
section
variable{X:Cx}{a b c:Expr}{ta tb tc:TE}{pos:Pos}
theorem zy(ha:PE X a ta)(hb:PE X b tb){pins:List (Addr×Obj)}{s:Shared}{σ:St}{H:Hp}{R:V->V->Hp->Prop}(I:Inv X pins σ H s)
  (h:ta σ H fun x H1=>tb σ H1 fun y H2=>R x y H2) {Q:Value->Shared->Prop} {f:Value->Value->Sem Value}
  (hf:∀v u s2 x y H2,Inv X pins σ H2 s2->RelV x v->RelV y u->R x y H2->wpAny (model X.prog X.w) X.A (f v u) Q X.xe s2):
  wpAny (model X.prog X.w) X.A (eval a X.env) (fun v s₁=>wpAny (model X.prog X.w) X.A (eval b X.env) (fun u s₂=>wpAny (model X.prog X.w) X.A (f v u) Q X.xe s₂) X.xe s₁) X.xe s:=by
 refine aK (ha pins s σ H _ I h) fun v s1 ⟨x,H1,I1,r1,q1⟩=>?_
 refine aK (hb pins s1 σ H1 _ I1 q1) fun u s2 ⟨y,H2,I2,r2,q2⟩=>?_
 exact hf v u s2 x y H2 I2 r1 r2 q2
theorem aM{op:Operator}{r:R2}(ho:cU X (binaryOp op) r)(ha:PE X a ta)(hb:PE X b tb):PE X (.BinOp a op b pos) (cZ r ta tb):=by
 intro pins s σ H Q I h
 exact wpAny_BinOp (zy ha hb I h fun v u s2 x y H2 I2 rx ry q=>ho pins s2 σ H2 x y v u Q I2 rx ry q)
theorem xW{op:UnaryOp}{r:V->Hp->VK->Prop}(ho:w9 X (unaryOp op) r)(ha:PE X a ta):PE X (.UnaryOp op a pos) (Bx r ta):=by
 intro pins s σ H Q I h
 exact UnaryOp_ (aK (ha pins s σ H _ I h) fun v s1 ⟨x,H1,I1,r1,q1⟩=>ho pins s1 σ H1 x v Q I1 r1 q1)
theorem vO{f:Value->Value->Sem Value}{C:Int->Int->Prop}{g:Int->Int->Int}
  (rule:∀(i j:Int) (t u:Tok) (s:Shared) (Q:Value->Shared->Prop) (E:Value->Shared->Prop),C i j->Q (.int (g i j) s.toks) {s with toks:=s.toks+1}->wpAny (model X.prog X.w) X.A (f (.int i t) (.int j u)) Q E s):
  cU X f (rI C fun i j=> .int (g i j)):=by
 intro pins s σ H x y v u Q I rx ry h
 obtain⟨i,j,rfl,rfl,hc,q⟩:=h
 obtain⟨t,rfl⟩:=rx
 obtain⟨t',rfl⟩:=ry
 exact rule i j t t' s _ _ hc ⟨.int (g i j),H,I.tok _,⟨_,rfl⟩,q⟩
theorem Ie{f:Value->Value->Sem Value}{g:Int->Int->Int}
  (rule:∀(i j:Int) (t u:Tok) (s:Shared) (Q:Value->Shared->Prop) (E:Value->Shared->Prop),Q (.int (g i j) s.toks) {s with toks:=s.toks+1}->wpAny (model X.prog X.w) X.A (f (.int i t) (.int j u)) Q E s):
  cU X f (gP fun i j=> .int (g i j)):=by
 intro pins s σ H x y v u Q I rx ry h
 obtain⟨i,j,rfl,rfl,q⟩:=h
 obtain⟨t,rfl⟩:=rx
 obtain⟨t',rfl⟩:=ry
 exact rule i j t t' s _ _ ⟨.int (g i j),H,I.tok _,⟨_,rfl⟩,q⟩
theorem u9{f:Value->Value->Sem Value}{g:Int->Int->Bool}
  (rule:∀(i j:Int) (t u:Tok) (s:Shared) (Q:Value->Shared->Prop) (E:Value->Shared->Prop),Q (.bool (g i j)) s->wpAny (model X.prog X.w) X.A (f (.int i t) (.int j u)) Q E s):
  cU X f (gP fun i j=> .bl (g i j)):=by
 intro pins s σ H x y v u Q I rx ry h
 obtain⟨i,j,rfl,rfl,q⟩:=h
 obtain⟨t,rfl⟩:=rx
 obtain⟨t',rfl⟩:=ry
 exact rule i j t t' s _ _ ⟨.bl (g i j),H,I,rfl,q⟩
def Di(i j:Int):Prop:=0<=j/\j<=1000000/\i.natAbs<2^64
def tK(i j:Int):Prop:=(-(2^64)<i/\i<2^64)\/(-(2^64)<j/\j<2^64)
theorem tK.ok{i j:Int}(h:tK i j):IntMulOk i j:=by
 rcases h with ⟨h1,h2⟩|⟨h1,h2⟩
 ·exact .of_left (intBits_le_64 h1 h2)
 ·exact .of_right (intBits_le_64 h1 h2)
theorem fB:cU X (binaryOp .Add) (gP fun i j=> .int (i+j)):=Ie fun _ _ _ _ _ _ _ q=>add_int q
theorem m8:cU X (binaryOp .Sub) (gP fun i j=> .int (i-j)):=Ie fun _ _ _ _ _ _ _ q=>sub_int q
theorem gM:cU X (binaryOp .Mod) (rI (fun _ j=>0<j) fun i j=> .int (i%j)):=vO fun i j _ _ _ _ _ hc q=>by
 have h1:(0:Int)<j:=hc
 exact mod_int' (by omega) (by rw[Int.fmod_eq_emod_of_nonneg i (by omega)];exact q)
theorem Gj:cU X (binaryOp .Pow) (rI Di fun i j=> .int (i^j.toNat)):=vO fun _ _ _ _ _ _ _ hc q=>pow_int_small hc.1 hc.2.1 hc.2.2 q
theorem LB{f:Value->Sem Value}{g:Int->Int}
  (rule:∀(i:Int) (t:Tok) (s:Shared) (Q:Value->Shared->Prop) (E:Value->Shared->Prop),Q (.int (g i) s.toks) {s with toks:=s.toks+1}->wpAny (model X.prog X.w) X.A (f (.int i t)) Q E s):
  w9 X f (rU fun i=> .int (g i)):=by
 intro pins s σ H x v Q I rx h
 obtain⟨i,rfl,q⟩:=h
 obtain⟨t,rfl⟩:=rx
 exact rule i t s _ _ ⟨.int (g i),H,I.tok _,⟨_,rfl⟩,q⟩
theorem AI:w9 X (unaryOp .USub) (rU fun i=> .int (-i)):=LB fun _ _ _ _ _ q=>neg_int q
end
def yM:V->V->Bool
 | .aE, .aE=>true| .aE, .int _=>true| .int _, .aE=>true| .aE, .bl _=>true| .bl _, .aE=>true| .aE, .str _=>true| .str _, .aE=>true
 | .int _, .int _=>true| .bl _, .bl _=>true| .str _, .str _=>true| .iE _, .iE _=>true
 | .int _, .str _=>true| .str _, .int _=>true| .bl _, .str _=>true| .str _, .bl _=>true
 |_,_=>false
def zw:R2:=fun x y H Q=>yM x y=true/\Q (.bl (decide (x=y))) H
def zH:R2:=fun x y H Q=>yM x y=true/\Q (.bl (!decide (x=y))) H
theorem Fb{i j:Int}:decide (V.int i=V.int j)=(i==j):=by
 rw[iW]
 simp
theorem IJ{i j:Bool}:decide (V.bl i=V.bl j)=(i==j):=by
 rw[iW]
 simp
theorem FU{i j:Str}:decide (V.str i=V.str j)=(i==j):=by
 rw[iW]
 simp
theorem D8{i j:Array UInt8}:decide (V.iE i=V.iE j)=(i.toList==j.toList):=by
 rw[iW]
 cases i
 cases j
 simp
section
variable{X:Cx}{a b c:Expr}{ta tb tc:TE}{pos:Pos}
theorem cM{pins:List (Addr×Obj)}{σ:St}{H:Hp}{s:Shared}{Q:VK}{k k':Bool}(I:Inv X pins σ H s)(q:Q (.bl k) H)(e:k=k'):EP X pins σ Q (.bool k') s:=by
 subst e
 exact⟨.bl k,H,I,rfl,q⟩
theorem kI:cU X (compareOp .Eq) zw:=by
  intro pins s σ H x y v u Q I rx ry h
  obtain⟨hs,q⟩:=h
  cases x with
  | aE =>
    cases rx
    cases y with
    |aE=>cases ry;exact PySem.EqNone.eq_none_none (cM I q (by simp))
    |bl j=>cases ry;exact PySem.EqNone.eq_none_bool (cM I q (by simp))
    |int j=>obtain⟨t',rfl⟩:=ry;exact PySem.EqNone.eq_none_int (cM I q (by simp))
    |str j=>obtain⟨t',rfl⟩:=ry;exact PySem.EqNone.eq_none_str (cM I q (by simp))
    |_=>exact absurd (show false=true from hs) bV
  | bl i =>
    cases rx
    cases y with
    |aE=>cases ry;exact PySem.EqNone.eq_bool_none (cM I q (by simp))
    |bl j=>cases ry;exact eq_bool (cM I q IJ)
    |str j=>obtain⟨t',rfl⟩:=ry;exact PySem.EqMixed.eq_bool_str (cM I q (by simp))
    |_=>exact absurd (show false=true from hs) bV
  | int i =>
    obtain⟨t,rfl⟩:=rx
    cases y with
    |aE=>cases ry;exact PySem.EqNone.eq_int_none (cM I q (by simp))
    |int j=>obtain⟨t',rfl⟩:=ry;exact eq_int (cM I q Fb)
    |str j=>obtain⟨t',rfl⟩:=ry;exact PySem.EqMixed.eq_int_str (cM I q (by simp))
    |_=>exact absurd (show false=true from hs) bV
  | str i =>
    obtain⟨t,rfl⟩:=rx
    cases y with
    |aE=>cases ry;exact PySem.EqNone.eq_str_none (cM I q (by simp))
    |bl j=>cases ry;exact PySem.EqMixed.eq_str_bool (cM I q (by simp))
    |int j=>obtain⟨t',rfl⟩:=ry;exact PySem.EqMixed.eq_str_int (cM I q (by simp))
    |str j=>obtain⟨t',rfl⟩:=ry;exact eq_str (cM I q FU)
    |_=>exact absurd (show false=true from hs) bV
  | iE i =>
    obtain⟨t,rfl⟩:=rx
    cases y with
    |iE j=>obtain⟨t',rfl⟩:=ry;exact PySem.W.eq_bytes (cM I q D8)
    |_=>exact absurd (show false=true from hs) bV
  |_=>cases y<;>exact absurd (show false=true from hs) bV
theorem jB:cU X (compareOp .NotEq) zH:=by
  intro pins s σ H x y v u Q I rx ry h
  obtain⟨hs,q⟩:=h
  cases x with
  | aE =>
    cases rx
    cases y with
    |aE=>cases ry;exact PySem.EqNone.ne_none_none (cM I q (by simp))
    |bl j=>cases ry;exact PySem.EqNone.ne_none_bool (cM I q (by simp))
    |int j=>obtain⟨t',rfl⟩:=ry;exact PySem.EqNone.ne_none_int (cM I q (by simp))
    |str j=>obtain⟨t',rfl⟩:=ry;exact PySem.EqNone.ne_none_str (cM I q (by simp))
    |_=>exact absurd (show false=true from hs) bV
  | bl i =>
    cases rx
    cases y with
    |aE=>cases ry;exact PySem.EqNone.ne_bool_none (cM I q (by simp))
    |bl j=>cases ry;exact ne_bool (cM I q (congrArg not IJ))
    |str j=>obtain⟨t',rfl⟩:=ry;exact PySem.EqMixed.ne_bool_str (cM I q (by simp))
    |_=>exact absurd (show false=true from hs) bV
  | int i =>
    obtain⟨t,rfl⟩:=rx
    cases y with
    |aE=>cases ry;exact PySem.EqNone.ne_int_none (cM I q (by simp))
    |int j=>obtain⟨t',rfl⟩:=ry;exact ne_int (cM I q (congrArg not Fb))
    |str j=>obtain⟨t',rfl⟩:=ry;exact PySem.EqMixed.ne_int_str (cM I q (by simp))
    |_=>exact absurd (show false=true from hs) bV
  | str i =>
    obtain⟨t,rfl⟩:=rx
    cases y with
    |aE=>cases ry;exact PySem.EqNone.ne_str_none (cM I q (by simp))
    |bl j=>cases ry;exact PySem.EqMixed.ne_str_bool (cM I q (by simp))
    |int j=>obtain⟨t',rfl⟩:=ry;exact PySem.EqMixed.ne_str_int (cM I q (by simp))
    |str j=>obtain⟨t',rfl⟩:=ry;exact ne_str (cM I q (congrArg not FU))
    |_=>exact absurd (show false=true from hs) bV
  | iE i =>
    obtain⟨t,rfl⟩:=rx
    cases y with
    |iE j=>obtain⟨t',rfl⟩:=ry;exact PySem.W.ne_bytes (cM I q (congrArg not D8))
    |_=>exact absurd (show false=true from hs) bV
  |_=>cases y<;>exact absurd (show false=true from hs) bV
theorem CM:cU X (compareOp .Lt) (gP fun i j=> .bl (decide (i<j))):=u9 fun _ _ _ _ _ _ _ q=>lt_int q
theorem U4:cU X (compareOp .LtE) (gP fun i j=> .bl (decide (i<=j))):=u9 fun _ _ _ _ _ _ _ q=>le_int q
theorem G6:cU X (compareOp .Gt) (gP fun i j=> .bl (decide (j<i))):=u9 fun _ _ _ _ _ _ _ q=>gt_int q
theorem QV:cU X (compareOp .GtE) (gP fun i j=> .bl (decide (j<=i))):=u9 fun _ _ _ _ _ _ _ q=>ge_int q
theorem UK:cU X (compareOp .Is) (fun x y H Q=>y= .aE/\Q (.bl (decide (x= .aE))) H):=by
 intro pins s σ H x y v u Q I rx ry h
 obtain⟨rfl,q⟩:=h
 cases ry
 refine is_none_gen (cM I q ?_)
 cases x<;>first
  |(cases rx;rfl)
  |(obtain⟨t,rfl⟩:=rx;rfl)
theorem S3:cU X (compareOp .IsNot) (fun x y H Q=>y= .aE/\Q (.bl (!decide (x= .aE))) H):=by
 intro pins s σ H x y v u Q I rx ry h
 obtain⟨rfl,q⟩:=h
 cases ry
 refine isnot_none_gen (cM I q ?_)
 cases x<;>first
  |(cases rx;rfl)
  |(obtain⟨t,rfl⟩:=rx;rfl)
theorem bW(b:Expr){op:CmpOp}(h:op≠ .In:=by decide)(h2:op≠ .NotIn:=by decide):behindInMarks op b=false:=by
 have e1:(op==CmpOp.In)=false:=by cases op<;>first|rfl|exact absurd rfl h
 have e2:(op==CmpOp.NotIn)=false:=by cases op<;>first|rfl|exact absurd rfl h2
 cases b<;>simp[behindInMarks,e1,e2]
theorem nk{op:CmpOp}{r:R2}(ho:cU X (compareOp op) r)(ha:PE X a ta)(hb:PE X b tb)(hm:behindInMarks op b=false):PE X (.Compare a [op] [b] pos) (cZ r ta tb):=by
 intro pins s σ H Q I h
 exact wpAny_Compare1 (zy ha hb I h fun v u s2 x y H2 I2 rx ry q=>ho pins s2 σ H2 x y v u Q I2 rx ry q) hm
def AD(t:TE):TT:=fun σ H Q=>t σ H fun x H'=>∃k,x= .bl k/\Q k H'
theorem cC{op:CmpOp}{r:R2}(ho:cU X (compareOp op) r)(ha:PE X a ta)(hb:PE X b tb)(hm:behindInMarks op b=false):PT X (.Compare a [op] [b] pos) (AD (cZ r ta tb)):=by
 intro pins s σ H Q I h
 refine wpAny_isTrue_Compare1 (aK (ha pins s σ H _ I h) fun v s1 ⟨x,H1,I1,r1,q1⟩=>aK (hb pins s1 σ H1 _ I1 q1) fun u s2 ⟨y,H2,I2,r2,q2⟩=>
  aK (ho pins s2 σ H2 x y v u _ I2 r1 r2 q2) fun c s3 ⟨z,H3,I3,r3,k,e,q3⟩=>?_) hm
 subst e
 cases r3
 exact wpAny_truthy_bool ⟨H3,I3,q3⟩
def Bb(K:PySem.W.Frag)(x:V)(H:Hp)(k:Bool):Prop:=
 match x with
 | .aE=>k=false
 | .bl b=>k=b
 | .int i=>k=(i !=0)
 | .str y=>y.length<=sizeLine/\k=((y.length:Int) !=0)
 | .iE y=>y.size<=sizeLine/\k=((y.size:Int) !=0)
 | .ref p=>(∃xs,aQ K H p xs/\k=!xs.isEmpty)\/(∃xs,fQ K H p xs/\k=!xs.isEmpty)\/∃kvs,H p=some (.dK kvs)/\k=!kvs.isEmpty
 |_=>False
theorem Rt{κ:Type}{kvs:List (κ×V)}{vs:List (κ×Value)}(r:KV kvs vs):(!vs.isEmpty)=!kvs.isEmpty:=by
 cases r<;>rfl
theorem GA{xs:List V}{its:List Value}(r:Vals xs its):(!its.toArray.isEmpty)=!xs.isEmpty:=by
 cases r<;>simp
theorem pF:(sizeLine:Nat)<2^63:=by rw[sizeLine_eq];decide
theorem Lj:Px X (fun x H Q=>∃k,Bb X.K x H k/\Q k H):=by
  intro pins s σ H x v Q I rx h
  obtain⟨k,e,q⟩:=h
  have hl:=pF
  have hs:sizeLine=16777216:=sizeLine_eq
  cases x with
  | aE =>
    cases rx
    have e':k=false:=e
    subst e'
    exact truthy_none ⟨H,I,q⟩
  | bl b =>
    cases rx
    have e':k=b:=e
    subst e'
    exact wpAny_truthy_bool ⟨H,I,q⟩
  | int i =>
    obtain⟨t,rfl⟩:=rx
    have e':k=(i !=0):=e
    subst e'
    exact PySem.P.truthy_int ⟨H,I,q⟩
  | str y =>
    obtain⟨t,rfl⟩:=rx
    obtain⟨hy,e'⟩:y.length<=sizeLine/\k=((y.length:Int) !=0):=e
    subst e'
    exact PySem.P.truthy_str (by omega) ⟨H,I.tok _,q⟩
  | iE y =>
    obtain⟨t,rfl⟩:=rx
    obtain⟨hy,e'⟩:y.size<=sizeLine/\k=((y.size:Int) !=0):=e
    subst e'
    exact PySem.W.truthy_bytes (by omega) ⟨H,I.tok _,q⟩
  | ref p =>
    cases rx
    have e':(∃xs,aQ X.K H p xs/\k=!xs.isEmpty)\/(∃xs,fQ X.K H p xs/\k=!xs.isEmpty)\/∃kvs,H p=some (.dK kvs)/\k=!kvs.isEmpty:=e
    rcases e' with ⟨xs,hx,e'⟩|⟨xs,hx,e'⟩|⟨kvs,hx,e'⟩
    · subst e'
      obtain⟨its,r,pl,hz⟩:=I.list hx
      have hlen:=r.length
      exact wpAny_truthy_list pl.isList (by simp only[cN];omega) ⟨H,I.tok _,by rw[GA r];exact q⟩
    · subst e'
      obtain⟨its,r,pl,hz⟩:=I.tuple hx
      have hlen:=r.length
      exact truthy_tuple pl (by simp only[cN];omega) ⟨H,I.tok _,by rw[GA r];exact q⟩
    · subst e'
      obtain⟨hz,hS,vs,r,m⟩:kvs.length<=sizeLine/\(p==sysModules)=false/\∃vs,KV kvs vs/\s.heap.DictOf (c9 X.prog X.w) p vs:=I.hok p _ hx
      have hlen:kvs.length=vs.length:=Paired.length r
      exact wpAny_truthy_dict hS m (by omega) ⟨H,I.tok _,by rw[Rt r];exact q⟩
  |_=>exact(show False from e).elim
theorem O2(ha:PE X a ta)(he:∀whole,isTrue a X.env whole=(do let v<-whole;standAt a.pos;holding [v] (truthy v))):
  PT X a (fun σ H Q=>ta σ H fun x H'=>∃k,Bb X.K x H' k/\Q k H'):=by
 intro pins s σ H Q I h
 exact isTrue_plain (aK (ha pins s σ H _ I h) fun v s1 ⟨x,H1,I1,r1,q1⟩=>Lj pins s1 σ H1 x v Q I1 r1 q1) (he _)
theorem vals1{x:V}{us:List Value}(r:Vals [x] us):∃u,us=[u]/\RelV x u:=by
 cases r with
 |cons r1 r2=>cases r2;exact⟨_,rfl,r1⟩
theorem vals2{x y:V}{us:List Value}(r:Vals [x,y] us):∃u w',us=[u,w']/\RelV x u/\RelV y w':=by
  cases r with
  | cons r1 r2 =>
    cases r2 with
    |cons r3 r4=>cases r4;exact⟨_,_,rfl,r1,r3⟩
theorem Lu:eS X (.builtin "abs") (fun xs H Q=>∃i,xs=[.int i]/\Q (.int (if i<0 then-i else i)) H):=by
 intro pins s σ H xs us Q I r h
 obtain⟨i,rfl,q⟩:=h
 obtain⟨u,rfl,t,rfl⟩:=vals1 r
 exact call_abs_int fun u tk=>⟨.int (if i<0 then-i else i),H,I.tok _,⟨_,rfl⟩,q⟩
theorem WH(hc:X.calm=true):eS X (.builtin "min") (fun xs H Q=>∃i j,xs=[.int i, .int j]/\Q (.int (if j<i then j else i)) H):=by
 intro pins s σ H xs us Q I r h
 obtain⟨i,j,rfl,q⟩:=h
 obtain⟨u,w',rfl,⟨t,rfl⟩,⟨t',rfl⟩⟩:=vals2 r
 refine min_two_ints (I.ok.hd hc) fun h' tk k=>⟨_,H,I.kept k,?_,q⟩
 by_cases hj:j<i
 ·rw[if_pos hj,if_pos hj];exact⟨_,rfl⟩
 ·rw[if_neg hj,if_neg hj];exact⟨_,rfl⟩
theorem Li:eS X (.type "int") (fun xs H Q=>(∃i,xs=[.int i]/\Q (.int i) H)\/∃k,xs=[.bl k]/\Q (.int (if k then 1 else 0)) H):=by
 intro pins s σ H xs us Q I r h
 rcases h with ⟨i,rfl,q⟩|⟨k,rfl,q⟩
 ·obtain⟨u,rfl,t,rfl⟩:=vals1 r
  exact call_int_int ⟨.int i,H,I,⟨_,rfl⟩,q⟩
 ·obtain⟨u,rfl,r1⟩:=vals1 r
  cases r1
  exact call_int_bool ⟨.int (if k then 1 else 0),H,I.tok _,⟨_,rfl⟩,q⟩
end
structure oz(h:Heap)(x dx C:Addr)(mA:Str->Option Value):Prop where
 obj:h.get? x=some (PySem.W.instObj C dx)
 ns:h.Ns1 dx mA
 ne:dx≠x
theorem Sy{h:Heap}{dx:Addr}{mA:Str->Option Value}(n:h.Ns1 dx mA):∃od,h.get? dx=some od/\∀name,PySem.W.lookIn name od=some (mA name):=by
 obtain⟨o,es,ep,ho,hd,hk,_,hm⟩:=n
 refine⟨o,ho,fun name=>?_⟩
 have e:=hm name
 unfold nsFind findBy at e
 rw[<-Array.find?_toList] at e
 unfold PySem.W.lookIn
 rw[hd]
 dsimp only
 split
 ·rename_i y q
  rw[q] at e
  exact congrArg some e
 ·rename_i q
  rw[q] at e
  have a:es.toList.any (·.refKey)=false:=by
   rw[List.any_eq_false]
   intro y hy
   obtain⟨z,t,hkey⟩:=hk y (Array.mem_toList_iff.mp hy)
   simp[DictEntry.refKey,hkey]
  have a':¬es.toList.any (·.refKey)=true:=by rw[a];exact bV
  rw[if_neg a']
  exact congrArg some e
theorem oz.look{h:Heap}{x dx C:Addr}{mA:Str->Option Value}(I:oz h x dx C mA):∃od,PySem.W.InstAt h x (PySem.W.instObj C dx) C (some od)/\∀name,PySem.W.lookIn name od=some (mA name):=
 let ⟨od,ho,hl⟩:=Sy I.ns
 ⟨od,⟨I.obj,rfl,rfl,ho⟩,hl⟩
section
variable{prog:Program}{w:World}{A:Around}{E:Value->Shared->Prop}{s:Shared}{K:PySem.W.Frag}{x dx C f:Addr}{mA:Str->Option Value}{name:Str}{v:Value}
theorem get_map{expr:Bool}{Q:Value->Shared->Prop}(X:K.In s.heap)(I:oz s.heap x dx C mA)(hg:PySem.W.plainGet K C name=true)(hh:PySem.W.hasDictIn K C=true)
  (ha:PySem.W.findIn K (.ref C) name=some none) (hv:mA name=some v) (hv':PySem.W.handedIn v=true) (h:Q v {s with toks:=s.toks+1}):
  wpAny (model prog w) A (getAttr (.ref x) name expr) Q E s:=by
 obtain⟨od,J,hl⟩:=I.look
 exact PySem.W.get_value X J (yD hg).1 (PySem.W.findObj_own hh ha rfl (by rw[hl,hv])) hv' h
theorem Vb{pl:Sem Bool}{Q:Value×List Value->Shared->Prop}(X:K.In s.heap)(I:oz s.heap x dx C mA)(hg:PySem.W.plainGet K C name=true)
  (hf:PySem.W.findIn K (.ref C) name=some (some (.ref f))) (ht:PySem.W.isFn K (.ref f)=true) (hv:mA name=none) (h:Q (.ref f,[.ref x]) s):
  wpAny (model prog w) A (getMethod (.ref x) name pl) Q E s:=by
 obtain⟨od,J,hl⟩:=I.look
 exact PySem.W.method_fn X J (yD hg).1 (yD hg).2 hf (beq_iff_eq.mp ht) (by show(PySem.W.lookIn name od).map (·.isSome)=some false;rw[hl,hv];rfl) h
theorem QD{ns:List Str}{Q:Unit->Shared->Prop}(X:K.In s.heap)(I:oz s.heap x dx C mA)
  (hs:PySem.W.findIn K (.ref C) "__setattr__"=some (some (.builtin "object.__setattr__"))) (hp:PySem.W.plainOver K C=true) (ht:PySem.W.takerIn K C name=some none) (hh:PySem.W.hasDictIn K C=true)
  (hw:PySem.Within mA ns) (hsz:ns.length<=sizeLine)
  (h:∀h',oz h' x dx C (fun y=>if y=name then some v else mA y)->Heap.SameBut dx s.heap h'->Q () {s with heap:=h',toks:=s.toks+2}):
  wpAny (model prog w) A (setAttr (.ref x) name v) Q E s:=by
 obtain⟨od,J,hl⟩:=I.look
 refine PySem.W.set_plain X J hs (PySem.W.osa_open (s:={s with toks:=s.toks+1}) (r:=none) X J hp ht fun b=>?_)
 obtain⟨cd,hc,hd'⟩:=PySem.W.any_some hh
 have hx:s.heap.get? x=some ⟨.ref C,some dx, .plain,#[]⟩:=I.obj
 refine wpAny_bind (wpAny_pure (wpAny_bind (wpAny_bind (wpAny_loadPart hx (wpAny_bind (PySem.W.Looks.here (s:={s with toks:=s.toks+1}) (PySem.W.looks_clsIn X hc) ?_))))))
 rw[hd']
 refine wpAny_pure (a:=some dx) (wpAny_bind (wpAny_pure (wpAny_bind ?_)))
 refine wpAny_nsSet1 (s:={s with toks:=s.toks+1}) I.ns fun h' hn2 hs2=>?_
 obtain⟨oD,esD,Xv,OC,Ol,OG⟩:=hn2.count (PySem.Within.cons name v hw)
 refine wpAny_bind (wpAny_lookBehind OC (by rw[Ol];exact pastItsLine_dict (dB OG (by rw[fE];omega))) ?_)
 exact wpAny_pure (h _ ⟨(hs2.2 _ (bu I.ne)).trans I.obj,hn2,I.ne⟩ hs2)
theorem VJ{R:Result->Shared->Prop}{vs:List Value}{kw:List (Str×Value)}(X:K.In s.heap)(hm:PySem.W.makesIn K C=true)
  (hi:PySem.W.findIn K (.ref C) "__init__"=some (some (.ref f))) (hf:PySem.W.typeIn K (.ref f)=some (.type "function"))
  (h : codeAny (model prog w) (A.under (.builtin "type.__call__" ⟨.ref C :: vs, kw⟩)) (.call (.ref f) ⟨.ref (s.heap.objs.size + 1) :: vs, kw⟩) (PySem.W.InitBack (s.heap.objs.size + 1) R)
   {s with heap:=(s.heap.push PySem.W.emptyDict).push (PySem.W.instObj C s.heap.objs.size)}):
  codeAny (model prog w) A (.call (.ref C) ⟨vs,kw⟩) R s:=by
 obtain⟨hh,g,d,t,os⟩:=s
 exact PySem.W.make_core (PySem.W.makes_of X hm) (PySem.W.looks_findIn X hi) (fun self=>PySem.W.bind_fn X self hf) (.inl rfl) h
end
def fU(f:Str)(v:V):List (Str×V)->List (Str×V)
 |[]=>[(f,v)]
 |(g,x)::r=>if g=f then(g,v)::r else(g,x)::fU f v r
theorem Fw(f g:Str)(v:V):∀fs:List (Str×V),(fU f v fs).lookup g=if g=f then some v else fs.lookup g
  | [] => by
    show List.lookup g [(f,v)]=_
    by_cases h:g=f
    · have hb:(g==f)=true:=beq_iff_eq.mpr h
      simp only[List.lookup,hb,if_pos h]
    · have hb:(g==f)=false:=beq_eq_false_iff_ne.mpr h
      simp only[List.lookup,hb,if_neg h]
  | (k, x) :: r => by
    have ih:=Fw f g v r
    rw[show fU f v ((k,x)::r)=(if k=f then(k,v)::r else(k,x)::fU f v r) from rfl]
    by_cases hk:k=f
    · rw[if_pos hk]
      by_cases h:g=k
      · have hb:(g==k)=true:=beq_iff_eq.mpr h
        simp only[List.lookup,hb,if_pos (h.trans hk)]
      · have hb:(g==k)=false:=beq_eq_false_iff_ne.mpr h
        simp only[List.lookup,hb,if_neg (fun e:g=f=>h (e.trans hk.symm))]
    · rw[if_neg hk]
      by_cases h:g=k
      · have hb:(g==k)=true:=beq_iff_eq.mpr h
        simp only[List.lookup,hb,if_neg (fun e:g=f=>hk (h.symm.trans e))]
      · have hb:(g==k)=false:=beq_eq_false_iff_ne.mpr h
        simp only[List.lookup,hb]
        exact ih
theorem zM(f:Str)(v:V):∀fs:List (Str×V),f∈(fU f v fs).map (·.1)/\∀g,g∈fs.map (·.1)->g∈(fU f v fs).map (·.1)
  |[]=>⟨by simp[fU],fun g h=>by simp at h⟩
  | (k, x) :: r => by
    obtain⟨i1,i2⟩:=zM f v r
    rw[show fU f v ((k,x)::r)=(if k=f then(k,v)::r else(k,x)::fU f v r) from rfl]
    by_cases hk:k=f
    · rw[if_pos hk]
      subst hk
      exact⟨by simp,fun g h=>by simpa using h⟩
    · rw[if_neg hk]
      refine⟨?_,fun g h=>?_⟩
      · rw[bh]
        exact bJ _ i1
      · rw[bh] at h⊢
        rcases aP.mp h with e|e
        · exact aP.mpr (.inl e)
        · exact bJ _ (i2 g e)
theorem El(f:Str)(v:V):∀fs:List (Str×V),(fU f v fs).length<=fs.length+1
  |[]=>by simp[fU]
  | (k, x) :: r => by
    have ih:=El f v r
    rw[show fU f v ((k,x)::r)=(if k=f then(k,v)::r else(k,x)::fU f v r) from rfl]
    by_cases hk:k=f
    · rw[if_pos hk,fE,fE];omega
    · rw[if_neg hk,fE,fE];omega
theorem gV.some_of{v:V}{o:Option Value}(r:gV (some v) o):∃u,o=some u/\RelV v u:=by
 cases o with
 |none=>exact(show False from r).elim
 |some u=>exact⟨u,rfl,r⟩
theorem gV.none_of{o:Option Value}(r:gV none o):o=none:=by
 cases o with
 |none=>rfl
 |some u=>exact(show False from r).elim
theorem QL{v:V}{u:Value}(r:RelV v u):PySem.W.handedIn u=true:=by
 cases v with
 |aE=>cases (show u=Value.none from r);rfl
 |bl b=>cases (show u=Value.bool b from r);rfl
 |int i=>obtain⟨t,e⟩:=(show∃t,u=Value.int i t from r);cases e;rfl
 |str x=>obtain⟨t,e⟩:=(show∃t,u=Value.str x t from r);cases e;rfl
 |iE b=>obtain⟨t,e⟩:=(show∃t,u=Value.bytes b t from r);cases e;rfl
 |kH b=>obtain⟨t,e⟩:=(show∃t,u=Value.float b t from r);cases e;rfl
 |ref a=>cases (show u=Value.ref a from r);rfl
 |ty n=>cases (show u=Value.type n from r);rfl
section
variable{P:Program}{w:World}{H H':Hp}{h h':Heap}{a C dx:Addr}{fs fs':List (Str×V)}
theorem uh(hok:cX P w H h)(e:H a=some (.ins C dx fs)):∃mA,oz h a dx C mA/\(∀f,gV (fs.lookup f) (mA f))/\PySem.Within mA (fs.map (·.1))/\fs.length<=1000/\H dx=some (.own a):=by
 obtain⟨d,z,ne,ob,mA,n,r,q⟩:=(show bK P w H h a (.ins C dx fs) from hok a _ e)
 exact⟨mA,⟨ob,n,ne⟩,r,q,z,d⟩
end
structure fS(K:PySem.W.Frag)(C:Addr):Prop where
 pg:PySem.W.plainGet K C Str.empty=true
 hd:PySem.W.hasDictIn K C=true
 po:PySem.W.plainOver K C=true
 sa:PySem.W.findIn K (.ref C) "__setattr__"=some (some (.builtin "object.__setattr__"))
theorem fS.get{K:PySem.W.Frag}{C:Addr}(c:fS K C)(f:Str):PySem.W.plainGet K C f=true:=c.pg
def gf(K:PySem.W.Frag)(C:Addr)(f:Str):Prop:=PySem.W.findIn K (.ref C) f=some none
theorem gf.SM{K:PySem.W.Frag}{C:Addr}{f:Str}(n:gf K C f):PySem.W.takerIn K C f=some none:=by
 unfold PySem.W.takerIn
 rw[show PySem.W.findIn K (.ref C) f=some none from n]
 rfl
structure Meth(K:PySem.W.Frag)(C:Addr)(m:Str)(f:Addr):Prop where
 at_:PySem.W.findIn K (.ref C) m=some (some (.ref f))
 fn:PySem.W.isFn K (.ref f)=true
 kp:PySem.W.keepIn K (.ref f)=true
section
variable{X:Cx}{pins:List (Addr×Obj)}{σ:St}{H:Hp}{s:Shared}{a C dx:Addr}{fs:List (Str×V)}{f:Str}{v:V}{A:Around}{E:Value->Shared->Prop}
theorem VI{b:Bool}{Q:Value->Shared->Prop}(I:Inv X pins σ H s)(e:H a=some (.ins C dx fs))(c:fS X.K C)(n:gf X.K C f)(l:fs.lookup f=some v)
  (h:∀u s',Inv X pins σ H s'->RelV v u->Q u s'):wpAny (model X.prog X.w) A (getAttr (.ref a) f b) Q E s:=by
 obtain⟨mA,O,r,_,_,_⟩:=uh I.hok e
 obtain⟨u,hu,ru⟩:=gV.some_of (v:=v) (o:=mA f) (by rw[<-l];exact r f)
 exact get_map I.cK O (c.get f) c.hd n hu (QL ru) (h u _ (I.tok _) ru)
theorem BE{m:Str}{g:Addr}{pl:Sem Bool}{Q:Value×List Value->Shared->Prop}(I:Inv X pins σ H s)(e:H a=some (.ins C dx fs))(c:fS X.K C)(k:Meth X.K C m g)(l:fs.lookup m=none)
  (h:Q (.ref g,[.ref a]) s):wpAny (model X.prog X.w) A (getMethod (.ref a) m pl) Q E s:=by
 obtain⟨mA,O,r,_,_,_⟩:=uh I.hok e
 have hn:mA m=none:=gV.none_of (by rw[<-l];exact r m)
 exact Vb I.cK O (c.get m) k.at_ k.fn hn h
theorem Wt{y:V}{u:Value}{Q:Unit->Shared->Prop}(I:Inv X pins σ H s)(e:H a=some (.ins C dx fs))(c:fS X.K C)(n:gf X.K C f)(hl:fs.length<1000)(ry:RelV y u)
  (h:∀s',Inv X pins σ (upd H a (.ins C dx (fU f y fs))) s'->Q () s'):wpAny (model X.prog X.w) A (setAttr (.ref a) f u) Q E s:=by
 obtain⟨mA,O,r,wi,_,ho⟩:=uh I.hok e
 have hz:(fs.map (·.1)).length<=sizeLine:=by rw[aj,sizeLine_eq];omega
 refine QD I.cK O c.sa c.po n.SM c.hd wi hz fun h' O' sb=>h _ ?_
 have hd:∃o,h'.get? dx=some o:=let ⟨o,_,_,e',_⟩:=O'.ns;⟨o,e'⟩
 refine I.write (x:=a) (e:=dx) (by rw[e];exact True.intro) (.inr ho) (fun b q hb z=>(sb.2 b hb).trans z) hd ?_
 refine⟨by rw[aA O.ne];exact ho,?_,O.ne,O'.obj,_,O'.ns,fun g=>?_,fun g hg=>?_⟩
 ·have:=El f y fs;omega
 ·show gV ((fU f y fs).lookup g) (if g=f then some u else mA g)
  rw[Fw]
  by_cases q:g=f
  ·rw[if_pos q,if_pos q];exact ry
  ·rw[if_neg q,if_neg q];exact r g
 ·by_cases q:g=f
  ·rw[q];exact(zM f y fs).1
  ·refine(zM f y fs).2 g (wi g fun z=>hg ?_)
   show(if g=f then some u else mA g)=none
   rw[if_neg q];exact z
theorem Inv.made(I:Inv X pins σ H s):Inv X pins σ (upd (upd H s.heap.objs.size (.own (s.heap.objs.size+1))) (s.heap.objs.size+1) (.ins C s.heap.objs.size []))
  {s with heap:=(s.heap.push PySem.W.emptyDict).push (PySem.W.instObj C s.heap.objs.size)}:=by
 have e1:(s.heap.push PySem.W.emptyDict).get? s.heap.objs.size=some PySem.W.emptyDict:=dX s.heap rfl
 have e2:((s.heap.push PySem.W.emptyDict).push (PySem.W.instObj C s.heap.objs.size)).get? (s.heap.objs.size+1)=some (PySem.W.instObj C s.heap.objs.size):=by
  have:=dX (s.heap.push PySem.W.emptyDict) (o:=PySem.W.instObj C s.heap.objs.size) rfl
  rwa[jW] at this
 have e3:(s.heap.push PySem.W.emptyDict).Ns s.heap.objs.size (fun _=>none):=⟨PySem.W.emptyDict,#[],_,e1,rfl,(fun e he=>absurd he (by simp)),fun _=>rfl⟩
 have I1:=I.laid (a:=s.heap.objs.size) (o:= .own (s.heap.objs.size+1)) (h':=s.heap.push PySem.W.emptyDict) (t':=s.toks) (fun b u q=>bH _ q) (aS _) ⟨_,e1⟩
 refine I1.laid (a:=s.heap.objs.size+1) (o:= .ins C s.heap.objs.size []) (t':=s.toks) (fun b u q=>bH _ q) (nN (jW _ _)) ?_
 have ne:s.heap.objs.size≠s.heap.objs.size+1:=cG (n6 _)
 refine⟨by rw[aA ne,aR],eU _,ne,e2,fun _=>none,(Heap.Ns1.of_empty e3).at fun o q=>bH _ q,fun _=>True.intro,fun y hy=>absurd rfl hy⟩
theorem VL{prog:Program}{w:World}{env:Env}{e:Expr}{f:Str}{pos:Pos}{s:Shared}{Q:Value->Shared->Prop}(hb:attributeBase e f env (eval e env)=eval e env)
  (h:wpAny (model prog w) A (eval e env) (fun o s₁=>wpAny (model prog w) A (getAttr o f true) Q E s₁) E s):wpAny (model prog w) A (eval (.Attribute e f pos) env) Q E s:=
 Attribute_any_ h (by rw[arm_eval_Attribute,hb])
end
def ET(K:PySem.W.Frag)(ta:TE)(f:Str):TE:=fun σ H Q=>ta σ H fun x H1=>∃a C dx fs v,x= .ref a/\H1 a=some (.ins C dx fs)/\fS K C/\gf K C f/\fs.lookup f=some v/\Q v H1
def JB(K:PySem.W.Frag)(ta tv:TE)(f:Str):TS:=fun D σ H=>tv σ H fun y H1=>ta σ H1 fun x H2=>∃a C dx fs,x= .ref a/\H2 a=some (.ins C dx fs)/\fS K C/\gf K C f/\fs.length<1000/\
 D.nx σ (upd H2 a (.ins C dx (fU f y fs)))
section
variable{X:Cx}{o e value:Expr}{f:Str}{pos pos' tpos:Pos}{ta tv:TE}
theorem ny(he:PE X e ta)(hb:attributeBase e f X.env (eval e X.env)=eval e X.env):PE X (.Attribute e f pos) (ET X.K ta f):=by
 intro pins s σ H Q I h
 refine VL hb (aK (he pins s σ H _ I h) fun u s1 ⟨x,H1,I1,rx,a,C,dx,fs,v,ex,ea,c,n,l,q⟩=>?_)
 subst ex
 obtain rfl:u=Value.ref a:=rx
 exact VI I1 ea c n l fun u' s2 I2 ru=>⟨v,H1,I2,ru,q⟩
theorem vq(ha:PE X o ta)(hv:PE X value tv)(hs:swapsWith value (some (.Attribute o f pos')) pos.line X.env=pure false):PS X (.Assign [.Attribute o f pos'] value pos) (JB X.K ta tv f):=by
 intro pins s σ H D I h
 refine plainObj_wpAny_Assign_Attribute (aK (hv pins s σ H _ I h) fun u s1 ⟨y,H1,I1,ry,q⟩=>aK (ha pins s1 σ H1 _ I1 q) fun ov s2 ⟨x,H2,I2,rx,a,C,dx,fs,ex,ea,c,n,l,q2⟩=>?_) hs
 subst ex
 obtain rfl:ov=Value.ref a:=rx
 exact Wt I2 ea c n l ry fun s3 I3=>⟨σ,_,I3,q2⟩
theorem Xs{pl:Sem Bool}{m:Str}{apos:Pos}{args:List Expr}{pins:List (Addr×Obj)}{s:Shared}{σ:St}{H:Hp}{Q:Value->Shared->Prop}{te:TE}(he:PE X e te)(I:Inv X pins σ H s)
  (h : te σ H fun x H1 => ∃ a C dx fs g, x = .ref a /\ H1 a = some (.ins C dx fs) /\ fS X.K C /\ Meth X.K C m g /\ fs.lookup m = none /\
   ∀s1,Inv X pins σ H1 s1->wpAny (model X.prog X.w) X.A (callWith pos (.ref g) [.ref a] (backTo pos (starEach args X.env)) (backToKw pos (keywordEach [] X.env))) Q X.xe s1)
  (ht : eval (.Call (.Attribute e m apos) args [] pos) X.env = (do
   let ov<-eval e X.env
   standAt apos.atName
   let (f,first)<-holding [ov] (getMethod ov m pl)
   callWith pos f first (backTo pos (starEach args X.env)) (backToKw pos (keywordEach [] X.env)))):
  wpAny (model X.prog X.w) X.A (eval (.Call (.Attribute e m apos) args [] pos) X.env) Q X.xe s:=by
 refine zA (pl:=pl) (aK (he pins s σ H _ I h) fun u s1 ⟨x,H1,I1,rx,a,C,dx,fs,g,ex,ea,c,k,l,q⟩=>?_) ht
 subst ex
 obtain rfl:u=Value.ref a:=rx
 exact BE I1 ea c k l (q s1 I1)
end
section
variable{X:Cx}{pins:List (Addr×Obj)}{σ:St}{H:Hp}{s:Shared}{A:Around}{E:Value->Shared->Prop}{Q:Value->Shared->Prop}{c:Value}{b:Bool}
inductive g6(K:PySem.W.Frag)(H:Hp):V->Value->Prop where
 |aE:g6 K H .aE (.type "NoneType")
 |bl (x:Bool):g6 K H (.bl x) (.type "bool")
 |int (i:Int):g6 K H (.int i) (.type "int")
 |str (x:Str):g6 K H (.str x) (.type "str")
 |kH (x:UInt64):g6 K H (.kH x) (.type "float")
 |lst {a:Addr} {xs:List V} (e:H a=some (.lst xs)):g6 K H (.ref a) (.type "list")
 |bG {a:Addr} {o:Obj} {xs:List V} (e:H a=some (.bG o (.lst xs))):g6 K H (.ref a) (.type "list")
 |tup {a:Addr} {xs:List V} (e:H a=some (.tup xs)):g6 K H (.ref a) (.type "tuple")
 |dK {a:Addr} {kvs:List (Key×V)} (e:H a=some (.dK kvs)):g6 K H (.ref a) (.type "dict")
 |dT {a:Addr} {kvs:List (List Key×V)} (e:H a=some (.dT kvs)):g6 K H (.ref a) (.type "dict")
 |E8 {a:Addr} {o:Obj} {kvs:List (Key×V)} (e:H a=some (.bG o (.dK kvs))):g6 K H (.ref a) (.type "dict")
 | ins {a C dx : Addr} {fs : List (Str × V)} (e : H a = some (.ins C dx fs)) (cl : fS K C) (ha : PySem.W.findIn K (.ref C) "__class__" = some (some (.builtin "object.__class__")))
   (hn:PySem.W.specialIn K (.builtin "object.__class__") "__get__"=some (some (.builtin "getset_descriptor.__get__"))) (htk:PySem.W.takesIn K (.builtin "object.__class__")=some true)
   (hm:PySem.W.mroIn K C (.type "object")=some true):g6 K H (.ref a) (.ref C)
theorem OW{x:V}{u t:Value}(I:Inv X pins σ H s)(rx:RelV x u)(ty:g6 X.K H x t)(e:PySem.W.kitOne X.K t c=some b)(h:∀tk,Q (.bool b) {s with toks:=tk}):
    wpAny (model X.prog X.w) A (call (.builtin "isinstance") [u,c]) Q E s:=by
  cases ty with
  |aE=>cases (show u=Value.none from rx);exact ji PySem.W.kitx_none I.cK True.intro e (fun z=>nomatch z) h
  |bl y=>cases (show u=Value.bool y from rx);exact ji PySem.W.kitx_bool I.cK True.intro e (fun z=>nomatch z) h
  |int i=>obtain⟨t,q⟩:=(show∃t,u=Value.int i t from rx);cases q;exact ji PySem.W.kitx_int I.cK True.intro e (fun z=>nomatch z) h
  |str y=>obtain⟨t,q⟩:=(show∃t,u=Value.str y t from rx);cases q;exact ji PySem.W.kitx_str I.cK True.intro e (fun z=>nomatch z) h
  |kH y=>obtain⟨t,q⟩:=(show∃t,u=Value.float y t from rx);cases q;exact ji PySem.W.kitx_float I.cK True.intro e (fun z=>nomatch z) h
  | @lst a xs ea =>
    cases (show u=Value.ref a from rx)
    obtain⟨_,_,n,_,h1⟩:=(show bK X.prog X.w H s.heap a (.lst xs) from I.hok a _ ea)
    exact ji BG I.cK ⟨_,h1,rfl⟩ e (fun z=>nomatch z) h
  | @bG a ob xs ea =>
    cases (show u=Value.ref a from rx)
    obtain⟨_,_,_,n,_,h1⟩:=(show bK X.prog X.w H s.heap a (.bG ob (.lst xs)) from I.hok a _ ea)
    exact ji BG I.cK ⟨_,h1,rfl⟩ e (fun z=>nomatch z) h
  | @tup a xs ea =>
    cases (show u=Value.ref a from rx)
    obtain⟨_,_,_,p⟩:=(show bK X.prog X.w H s.heap a (.tup xs) from I.hok a _ ea)
    obtain⟨o,h1,h2,_⟩:=p
    exact ji PySem.W.kitx_tuple I.cK ⟨o,h1,h2⟩ e (fun z=>nomatch z) h
  | @dK a kvs ea =>
    cases (show u=Value.ref a from rx)
    obtain⟨_,_,vs,_,p⟩:=(show bK X.prog X.w H s.heap a (.dK kvs) from I.hok a _ ea)
    obtain⟨o,es,ep,h1,h2,_⟩:=p
    exact ji u5 I.cK ⟨o,h1,h2.1⟩ e (fun z=>nomatch z) h
  | @dT a kvs ea =>
    cases (show u=Value.ref a from rx)
    obtain⟨_,_,xs,_,o,es,ep,h1,h2,_⟩:=(show bK X.prog X.w H s.heap a (.dT kvs) from I.hok a _ ea)
    exact ji u5 I.cK ⟨o,h1,h2.1⟩ e (fun z=>nomatch z) h
  | @E8 a ob kvs ea =>
    cases (show u=Value.ref a from rx)
    obtain⟨_,_,_,vs,_,o,es,ep,h1,h2,_⟩:=I.hok a _ ea
    exact ji u5 I.cK ⟨o,h1,h2.1⟩ e (fun z=>nomatch z) h
  | @ins a C dx fs ea cl ha hn htk hm =>
    cases (show u=Value.ref a from rx)
    obtain⟨mA,O,_⟩:=uh I.hok ea
    obtain⟨od,J,_⟩:=O.look
    exact ji (PySem.W.kitx_own (cl.get _) cl.hd ha hn htk hm) I.cK J e (fun z=>nomatch z) h
end
structure dz(k:Nat)(A:Around):Prop where
 hd:A.handled=none
 dp:A.depth+3*k+5<recursionLimit
 un:A.units+16*k+200<cLine
theorem dz.mono{j k:Nat}{A:Around}(r:dz k A)(h:j<=k):dz j A:=⟨r.hd,by have:=r.dp;omega,by have:=r.un;omega⟩
theorem dz.deeper{k:Nat}{A:Around}(r:dz (k+1) A)(env:Env):dz k (A.deeper env):=
 ⟨r.hd,by have:=r.dp;show A.depth+1+3*k+5<_;omega,by have:=r.un;show A.units+3+16*k+200<_;omega⟩
theorem Qg{A:Around}{C:Addr}{us:List Value}{kw:List (Str×Value)}:(A.under (.builtin "type.__call__" ⟨.ref C::us,kw⟩)).depth=A.depth+1:=by
 first|rfl|simp[Around.under,Code.weight,Code.isCreation,Code.isGuard,Code.isCaller,Code.frames,Code.isFrame,guardIds]
theorem Sk{A:Around}{C:Addr}{us:List Value}{kw:List (Str×Value)}:(A.under (.builtin "type.__call__" ⟨.ref C::us,kw⟩)).units=A.units+1:=by
 first|rfl|simp[Around.under,Code.cUnits,Code.frames,Code.isFrame]
theorem dz.make{k:Nat}{A:Around}(r:dz (k+1) A)(C:Addr)(us:List Value)(kw:List (Str×Value)):dz k (A.under (.builtin "type.__call__" ⟨.ref C::us,kw⟩)):=
 ⟨r.hd,by have:=r.dp;rw[Qg];omega,by have:=r.un;rw[Sk];omega⟩
theorem dz.depth{k:Nat}{A:Around}(r:dz k A):A.depth<recursionLimit:=by have:=r.dp;omega
theorem dz.units{k:Nat}{A:Around}(r:dz k A):A.units+64<cLine:=by have:=r.un;omega
def cy:TA:=fun _ H Q=>Q [] H
def bR(ta:TE)(tr:TA):TA:=fun σ H Q=>ta σ H fun x H1=>tr σ H1 fun xs H2=>Q (x::xs) H2
section
variable{X:Cx}{e:Expr}{es:List Expr}{te:TE}{t:TA}{pos:Pos}
theorem ak:PA X [] cy:=fun _ _ _ _ H Q I h=>Calls.spliced_nil ⟨[],H,I, .nil,h⟩
theorem aa(ha:PE X e te)(hr:PA X es t)(hs:starEach (e::es) X.env=(false,eval e X.env)::starEach es X.env:=by rfl):PA X (e::es) (bR te t):=by
 intro pos pins s σ H Q I h
 rw[hs]
 show wpAny _ _ (spliced ((false,eval e X.env)::backTo pos (starEach es X.env))) _ _ s
 refine Calls.spliced_cons (aK (ha pins s σ H _ I h) fun u s1 ⟨x,H1,I1,r1,q1⟩=>?_)
 exact aK (hr pos pins s1 σ H1 _ I1 q1) fun us s2 ⟨xs,H2,I2,r2,q2⟩=>⟨x::xs,H2,I2, .cons r1 r2,q2⟩
def qG(t:TA):TE:=fun σ H Q=>t σ H fun xs H1=>xs.length<=sizeLine/\∀p,H1 p=none->Q (.ref p) (upd H1 p (.tup xs))
def nU(t:TA):TE:=fun σ H Q=>t σ H fun xs H1=>xs.length<=sizeLine/\∀p,H1 p=none->Q (.ref p) (upd H1 p (.lst xs))
theorem jL{x1}(h:PA X es t):PE X (.Tuple es x1 pos) (qG t):=by
 intro pins s σ H Q I hq
 refine wpAny_Tuple_spliced (aK (h pos pins s σ H _ I hq) fun us s1 ⟨xs,H1,I1,r,z,q⟩=>⟨by rw[<-r.length];exact z,?_⟩)
 have hf:H1 s1.heap.objs.size=none:=I1.hok.fresh (aS _)
 refine⟨.ref s1.heap.objs.size,upd H1 s1.heap.objs.size (.tup xs),I1.laid (t':=s1.toks) (fun b u e=>bH _ e) (aS _) ?_,rfl,q _ hf⟩
 exact⟨z,us,r,⟨_,dX _ rfl,rfl,_,rfl⟩⟩
theorem fW(h:PA X es t):PE X (.List es pos) (nU t):=by
 intro pins s σ H Q I hq
 refine wpAny_List_spliced (aK (h pos pins s σ H _ I hq) fun us s1 ⟨xs,H1,I1,r,z,q⟩=>⟨by rw[<-r.length];exact z,?_⟩)
 have hf:H1 s1.heap.objs.size=none:=I1.hok.fresh (aS _)
 refine⟨.ref s1.heap.objs.size,upd H1 s1.heap.objs.size (.lst xs),I1.laid (t':=s1.toks) (fun b u e=>bH _ e) (aS _) ?_,rfl,q _ hf⟩
 exact⟨z,us,0,r,dX _ rfl⟩
end
abbrev Sp:=List V->Hp->VK->XK->Prop
abbrev j3:=List Env->Hp->Shared->XK->Value->Shared->Prop
structure n9(P:Program)(w:World)(K:PySem.W.Frag)(mg:Str->Option Value)(base:Heap)(A:Around)(outer:List Env)(s:Shared)(H:Hp):Prop where
 frames:A.frames=some outer
 mod:Mod K mg base
 bs:∀b o,base.get? b=some o->s.heap.get? b=some o/\H b=none
 lV:base.objs.size<=s.heap.objs.size
 jk:s.heap.FunFrames base outer
 m9:∀b∈frs outer,H b=none
 hok:cX P w H s.heap
 bare:AllBare s.gens
def CE(outer:List Env)(P:Program)(w:World)(H:Hp)(s:Shared)(Q:VK)(u:Value)(s':Shared):Prop:=
 ∃v H',s'.os=s.os/\AllBare s'.gens/\Un (frs outer) [] H H' s.heap s'.heap/\cX P w H' s'.heap/\RelV v u/\Q v H'
def CR(CX:j3)(outer:List Env)(P:Program)(w:World)(H:Hp)(s:Shared)(Q:VK)(E:XK)(r:Result)(s':Shared):Prop:=
 match r with
 | .ok (.ret u)=>CE outer P w H s Q u s'
 | .ok _=>False
 | .error e=>CX outer H s E e s'
structure bB(P:Program)(w:World)(K:PySem.W.Frag)(mg:Str->Option Value)(base:Heap)(CX:j3)(k:Nat)(f:Addr)(fd:FuncData)(ps:List Str)(sp:Sp):Prop where
 len:∀vs H Q E,sp vs H Q E->vs.length=ps.length
 run:∀(A:Around) (outer:List Env) (s:Shared) (H:Hp) (args:Args) (us:List Value) (vs:List V) (Q:VK) (E:XK),dz k A->n9 P w K mg base A outer s H->BindsTo s fd args (ps.zip us)->Vals vs us->sp vs H Q E->
  codeAny (model P w) A (.call (.ref f) args) (CR CX outer P w H s Q E) s
theorem n9.make{P:Program}{w:World}{K:PySem.W.Frag}{mg:Str->Option Value}{base:Heap}{A:Around}{outer:List Env}{s:Shared}{H:Hp}(e:n9 P w K mg base A outer s H)(C:Addr)(us:List Value)(kw:List (Str×Value)):
  n9 P w K mg base (A.under (.builtin "type.__call__" ⟨.ref C::us,kw⟩)) outer s H:=⟨by first|exact e.frames|(simpa[Around.under,Code.envs,Code.isFrame,pushEnvs] using e.frames),e.mod,e.bs,e.lV,e.jk,e.m9,e.hok,e.bare⟩
section
variable{X:Cx}{pins:List (Addr×Obj)}{σ:St}{H:Hp}{s s':Shared}
theorem Inv.HV(I:Inv X pins σ H s):n9 X.prog X.w X.K X.mg X.base X.A X.stack s H:=
 ⟨I.ok.frames,I.ok.mod,I.bs,dB I.ok.lV I.sz,I.stack,I.Hz,I.hok,I.bare⟩
theorem Inv.after{Q:VK}{u:Value}(I:Inv X pins σ H s)(h:CE X.stack X.prog X.w H s Q u s'):EP X pins σ Q u s':=by
 obtain⟨v,H',os,bare,un,hok,r,q⟩:=h
 obtain⟨hh,g,d,t,os'⟩:=s'
 obtain rfl:os'=s.os:=os
 exact⟨v,H',I.call (h':=hh) (g':=g) (d':=d) (t':=t) (ch:=[]) un hok bare (fun b z=>absurd z (by simp)),r,q⟩
end
def i9(sp:Sp)(fh:List V)(E:XK)(t:TA):TE:=fun σ H Q=>t σ H fun vs H1=>sp (vs++fh) H1 Q E
def rH(C:Addr)(m:Str)(sp:Sp)(fh:List V)(E:XK)(ta:TE)(t:TA):TE:=fun σ H Q=>ta σ H fun x H1=>∃a dx fs,x= .ref a/\H1 a=some (.ins C dx fs)/\fs.lookup m=none/\
 t σ H1 fun vs H2=>sp (x::(vs++fh)) H2 Q E
def zX(C:Addr)(sp:Sp)(fh:List V)(E:XK)(t:TA):TE:=fun σ H Q=>t σ H fun vs H1=>∀x dx,H1 x=none->H1 dx=none->dx≠x->
 sp (.ref x::(vs++fh)) (upd (upd H1 dx (.own x)) x (.ins C dx [])) (fun v H2=>v= .aE/\Q (.ref x) H2) E
def Binds(K:PySem.W.Frag)(fd:FuncData)(ps:List Str)(ds:List Value):Prop:=
 ∀(s:Shared) (us:List Value),K.In s.heap->(us++ds).length=ps.length->BindsTo s fd ⟨us,[]⟩ (ps.zip (us++ds))
theorem Binds.all{K:PySem.W.Frag}{fd:FuncData}{ps:List Str}(h:∀us:List Value,us.length=ps.length->bindArgs fd ⟨us,[]⟩=pure (ps.zip us)):Binds K fd ps []:=fun s us _ hl=>by
 rw[j8] at hl⊢
 exact .of_eq (h us hl)
def Passes(CX:j3)(X:Cx)(E:XK):Prop:=∀(pins:List (Addr×Obj)) (σ:St) (H:Hp) (s:Shared) (e:Value) (s':Shared),Inv X pins σ H s->CX X.stack H s E e s'->X.xe e s'
section
variable{X:Cx}{CX:j3}{k:Nat}{f C:Addr}{fd:FuncData}{ps:List Str}{sp:Sp}{fh:List V}{ds:List Value}{E:XK}{x m:Str}{p pos apos:Pos}{e o:Expr}{es:List Expr}{ta:TE}{t:TA}
theorem xQ{pins:List (Addr×Obj)}{σ:St}{H:Hp}{s:Shared}{Q:VK}{us:List Value}{vs:List V}(F:bB X.prog X.w X.K X.mg X.base CX k f fd ps sp)(hr:dz k X.A)(hb:Binds X.K fd ps ds)(hd:Vals fh ds)(hx:Passes CX X E)
    (I:Inv X pins σ H s) (r:Vals vs us) (h:sp (vs++fh) H Q E):wpAny (model X.prog X.w) X.A (call (.ref f) us) (EP X pins σ Q) X.xe s:=by
  have r2:Vals (vs++fh) (us++ds):=r.append hd
  have hl:(us++ds).length=ps.length:=by rw[<-r2.length];exact F.len _ _ _ _ h
  refine wpAny_call (codeAny_mono (F.run X.A X.stack s H ⟨us,[]⟩ (us++ds) (vs++fh) Q E hr I.HV (hb s us I.cK hl) r2 h) fun r s' hq=>?_)
  cases r with
  |error e=>exact hx pins σ H s e s' I hq
  | ok fl =>
    cases fl with
    |ret u=>exact I.after hq
    |next=>exact False.elim hq
    |brk=>exact False.elim hq
    |cont=>exact False.elim hq
theorem NZ(F:bB X.prog X.w X.K X.mg X.base CX k f fd ps sp)(hr:dz k X.A)(hg:Gl X x)(hm:X.mg x=some (.ref f))(hk:PySem.W.keepIn X.K (.ref f)=true)(hb:Binds X.K fd ps ds)(hd:Vals fh ds)(hx:Passes CX X E)
  (ha:PA X (e::es) t) (hdb:(x==("__debug__":Str))=false:=by decide) (he:starEach (e::es) X.env=(false,eval e X.env)::starEach es X.env:=by rfl) (hpl:(backTo pos (starEach es X.env)).any (·.1)=false:=by rfl):
  PE X (.Call (.Name x p) (e::es) [] pos) (i9 sp fh E t):=by
 intro pins s σ H Q I h
 refine wpAny_Call_Name_kw (Kd I hg hm ?_ hdb)
 refine yP (h₀:=X.base) I.ok.mod.qS hk (aK (ha pos pins s σ H _ I h) fun us s1 ⟨vs,H1,I1,r,q⟩=>⟨I1.cK,?_⟩) he hpl
 exact xQ F hr hb hd hx I1 r q
theorem Nz{pl:Sem Bool}(he:PE X o ta)(c:fS X.K C)(hm:Meth X.K C m f)(F:bB X.prog X.w X.K X.mg X.base CX k f fd ps sp)(hr:dz k X.A)(hb:Binds X.K fd ps ds)(hd:Vals fh ds)(hx:Passes CX X E)(ha:PA X (e::es) t)
  (hst:starEach (e::es) X.env=(false,eval e X.env)::starEach es X.env:=by rfl) (hpl:(backTo pos (starEach es X.env)).any (·.1)=false:=by rfl)
  (ht : eval (.Call (.Attribute o m apos) (e :: es) [] pos) X.env = (do
   let ov<-eval o X.env
   standAt apos.atName
   let (f,first)<-holding [ov] (getMethod ov m pl)
   callWith pos f first (backTo pos (starEach (e::es) X.env)) (backToKw pos (keywordEach [] X.env))):=by rfl):
  PE X (.Call (.Attribute o m apos) (e::es) [] pos) (rH C m sp fh E ta t):=by
 intro pins s σ H Q I h
 refine zA (pl:=pl) (aK (he pins s σ H _ I h) fun u s1 ⟨x,H1,I1,rx,a,dx,fs,ex,ea,l,q⟩=>?_) ht
 subst ex
 obtain rfl:u=Value.ref a:=rx
 refine BE I1 ea c hm l ?_
 refine yP (first:=[.ref a]) (h₀:=X.base) I.ok.mod.qS hm.kp (aK (ha pos pins s1 σ H1 _ I1 q) fun us s2 ⟨vs,H2,I2,r,q2⟩=>⟨I2.cK,?_⟩) hst hpl
 exact xQ (us:= .ref a::us) (vs:= .ref a::vs) F hr hb hd hx I2 (.cons rfl r) q2
theorem Q7{pl:Sem Bool}(he:PE X o ta)(c:fS X.K C)(hm:Meth X.K C m f)(F:bB X.prog X.w X.K X.mg X.base CX k f fd ps sp)(hr:dz k X.A)(hb:Binds X.K fd ps ds)(hd:Vals fh ds)(hx:Passes CX X E)
  (ht : eval (.Call (.Attribute o m apos) [] [] pos) X.env = (do
   let ov<-eval o X.env
   standAt apos.atName
   let (f,first)<-holding [ov] (getMethod ov m pl)
   callWith pos f first (backTo pos (starEach [] X.env)) (backToKw pos (keywordEach [] X.env))):=by rfl):
  PE X (.Call (.Attribute o m apos) [] [] pos) (rH C m sp fh E ta cy):=by
 intro pins s σ H Q I h
 refine zA (pl:=pl) (aK (he pins s σ H _ I h) fun u s1 ⟨x,H1,I1,rx,a,dx,fs,ex,ea,l,q⟩=>?_) ht
 subst ex
 obtain rfl:u=Value.ref a:=rx
 refine BE I1 ea c hm l ?_
 exact PySem.W.callWith_K0 (first:=[.ref a]) I1.cK hm.kp (xQ (us:=[.ref a]) (vs:=[.ref a]) F hr hb hd hx I1 (.cons rfl .nil) q)
structure Mk(K:PySem.W.Frag)(C f:Addr):Prop where
 makes:PySem.W.makesIn K C=true
 init:PySem.W.findIn K (.ref C) "__init__"=some (some (.ref f))
 fn:PySem.W.isFn K (.ref f)=true
 kp:PySem.W.keepIn K (.ref C)=true
theorem RA{pins:List (Addr×Obj)}{σ:St}{H:Hp}{s:Shared}{Q:VK}{us:List Value}{vs:List V}(M:Mk X.K C f)(F:bB X.prog X.w X.K X.mg X.base CX k f fd ps sp)(hr:dz (k+1) X.A)(hb:Binds X.K fd ps ds)(hd:Vals fh ds)
    (hx:Passes CX X E) (I:Inv X pins σ H s) (r:Vals vs us)
    (h:∀x dx,H x=none->H dx=none->dx≠x->sp (.ref x::(vs++fh)) (upd (upd H dx (.own x)) x (.ins C dx [])) (fun v H2=>v= .aE/\Q (.ref x) H2) E):
    wpAny (model X.prog X.w) X.A (call (.ref C) us) (EP X pins σ Q) X.xe s:=by
  have hq:=h (s.heap.objs.size+1) s.heap.objs.size (I.hok.fresh (pS _)) (I.hok.fresh (aS _)) (cG (n6 _))
  have I2:=Inv.made (C:=C) I
  have r2:Vals (V.ref (s.heap.objs.size+1)::(vs++fh)) (Value.ref (s.heap.objs.size+1)::(us++ds)):= .cons rfl (r.append hd)
  have hl:(Value.ref (s.heap.objs.size+1)::us++ds).length=ps.length:=by
    have e:=r2.length
    rw[F.len _ _ _ _ hq] at e
    exact e.symm
  refine wpAny_call (VJ (f:=f) I.cK M.makes M.init (beq_iff_eq.mp M.fn) (codeAny_mono (F.run _ X.stack _ _ ⟨Value.ref (s.heap.objs.size+1)::us,[]⟩ (Value.ref (s.heap.objs.size+1)::(us++ds)) _ _ E (hr.make C us [])
    (I2.HV.make C us []) (hb _ (Value.ref (s.heap.objs.size+1)::us) I2.cK hl) r2 hq) fun r s' hq'=>?_))
  cases r with
  |error e=>exact hx pins σ _ _ e s' I2 hq'
  | ok fl =>
    cases fl with
    | ret u =>
      obtain⟨v,H',I3,rv,ev,q3⟩:=I2.after hq'
      subst ev
      exact⟨rv,⟨V.ref (s.heap.objs.size+1),H',I3,rfl,q3⟩⟩
    |next=>exact False.elim hq'
    |brk=>exact False.elim hq'
    |cont=>exact False.elim hq'
theorem Vk(M:Mk X.K C f)(F:bB X.prog X.w X.K X.mg X.base CX k f fd ps sp)(hr:dz (k+1) X.A)(hg:Gl X x)(hm:X.mg x=some (.ref C))(hb:Binds X.K fd ps ds)(hd:Vals fh ds)(hx:Passes CX X E)
  (ha:PA X (e::es) t) (hdb:(x==("__debug__":Str))=false:=by decide) (he:starEach (e::es) X.env=(false,eval e X.env)::starEach es X.env:=by rfl) (hpl:(backTo pos (starEach es X.env)).any (·.1)=false:=by rfl):
  PE X (.Call (.Name x p) (e::es) [] pos) (zX C sp fh E t):=by
 intro pins s σ H Q I h
 refine wpAny_Call_Name_kw (Kd I hg hm ?_ hdb)
 refine yP (h₀:=X.base) I.ok.mod.qS M.kp (aK (ha pos pins s σ H _ I h) fun us s1 ⟨vs,H1,I1,r,q⟩=>⟨I1.cK,?_⟩) he hpl
 exact RA M F hr hb hd hx I1 r q
end
structure bX(N P:List Str)(sc:Scope):Prop where
 kind:sc.kind= .function
 co:sc.isCoroutine=false
 gen:sc.isGenerator=false
 nd:N.Nodup
 pre:N.take P.length=P
 par:∀x∈P,sc.names.lookup x=some .local\/sc.names.lookup x=some .cell
 Rp:∀y∈sc.names,y.2≠ .free
theorem Jx{kindOf:Str->Option NameKind}{x:Str}:∀{binds:List (Str×Value)} {m:Str->Option Value},(∀v,(x,v)∉binds)->bindL kindOf binds m x=m x
  |[],_,_=>rfl
  | (n, v) :: r, m, h => by
    unfold bindL
    rw[Jx fun w hw=>h w (bJ _ hw)]
    split
    · have:x≠n:=by rintro rfl;exact h v ck
      simp[this]
    · rfl
theorem IG{kindOf:Str->Option NameKind}{x:Str}:∀{binds:List (Str×Value)} {m:Str->Option Value},(∀v,(x,v)∉binds)->bindC kindOf binds m x=m x
  |[],_,_=>rfl
  | (n, v) :: r, m, h => by
    unfold bindC
    rw[IG fun w hw=>h w (bJ _ hw)]
    split
    · rfl
    · have:x≠n:=by rintro rfl;exact h v ck
      simp[this]
theorem Jj{kindOf:Str->Option NameKind}{x:Str}{v:Value}:∀{P:List Str} {vs:List Value} {i:Nat} {m:Str->Option Value},P.Nodup->P[i]?=some x->vs[i]?=some v->kindOf x=some .local->
    bindL kindOf (P.zip vs) m x=some v
  |[],_,_,_,_,h,_,_=>by simp at h
  |_::_,[],_,_,_,_,h,_=>by simp at h
  | p :: P, w :: vs, 0, m, nd, h1, h2, hk => by
    simp at h1 h2;subst h1;subst h2
    show bindL kindOf ((p,w)::P.zip vs) m p=_
    unfold bindL
    rw[Jx fun v hv=>(ic.mp nd).1 (zR hv).1,if_pos hk]
    simp
  | p :: P, w :: vs, i + 1, m, nd, h1, h2, hk => by
    show bindL kindOf ((p,w)::P.zip vs) m x=_
    unfold bindL
    exact Jj (i:=i) (ic.mp nd).2 (by simpa using h1) (by simpa using h2) hk
theorem HG{kindOf:Str->Option NameKind}{x:Str}{v:Value}:∀{P:List Str} {vs:List Value} {i:Nat} {m:Str->Option Value},P.Nodup->P[i]?=some x->vs[i]?=some v->kindOf x≠some .local->
    bindC kindOf (P.zip vs) m x=some v
  |[],_,_,_,_,h,_,_=>by simp at h
  |_::_,[],_,_,_,_,h,_=>by simp at h
  | p :: P, w :: vs, 0, m, nd, h1, h2, hk => by
    simp at h1 h2;subst h1;subst h2
    show bindC kindOf ((p,w)::P.zip vs) m p=_
    unfold bindC
    rw[IG fun v hv=>(ic.mp nd).1 (zR hv).1,if_neg hk]
    simp
  | p :: P, w :: vs, i + 1, m, nd, h1, h2, hk => by
    show bindC kindOf ((p,w)::P.zip vs) m x=_
    unfold bindC
    exact HG (i:=i) (ic.mp nd).2 (by simpa using h1) (by simpa using h2) hk
def start(N:List Str)(vs:List V):St:=vs.map some++List.replicate (N.length-vs.length) none
def o8(CX:j3)(P:Program)(w:World)(K:PySem.W.Frag)(mg:Str->Option Value)(base:Heap)(N:List Str)(qual:Str)(scope:Scope)(f:Addr)(cd:Value)(A:Around)(outer:List Env)(s:Shared)(H:Hp)(E:XK):Cx where
 prog:=P
 w:=w
 K:=K
 mg:=mg
 base:=base
 A:=A.deeper (envOfC qual scope s.heap.objs.size f cd)
 N:=N
 s₀:=s
 H₀:=H
 env:=envOfC qual scope s.heap.objs.size f cd
 outer:=outer
 stack:=envOfC qual scope s.heap.objs.size f cd::outer
 ex:=[]
 calm:=true
 fn:=fun _=>true
 pn:=[]
 xe:=fun e s'=>wpAny (model P w) (A.deeper (envOfC qual scope s.heap.objs.size f cd)) (leaving (envOfC qual scope s.heap.objs.size f cd) e) (fun _ s''=>CX outer H s E e s'') (fun e' s''=>CX outer H s E e' s'') s'
theorem Ej{sc:Scope}{n:Nat}{x:Str}(h:sc.names.lookup x=some .cell):∃c,(cellsFrom n sc.names []).lookup x=some c:=by
 have q:=DY sc.names n [] (.inl h)
 exact IB.mp q
theorem Oz{CX:j3}{P:Program}{w:World}{K:PySem.W.Frag}{mg:Str->Option Value}{base:Heap}{N ps:List Str}{qual:Str}{scope:Scope}{f:Addr}{cd:Value}{A:Around}{outer:List Env}{s s1:Shared}{H:Hp}{E:XK}{us:List Value}{vs:List V}
  (S:bX N ps scope) (hd:A.handled=none) (e0:n9 P w K mg base A outer s H) (hl:vs.length=ps.length) (r:Vals vs us)
  (x:InCallC s s.heap.objs.size (bindL (envOfC qual scope s.heap.objs.size f cd).kindOf (ps.zip us) fun _=>none) (cellsFrom (s.heap.objs.size+1) scope.names []) (bindC (envOfC qual scope s.heap.objs.size f cd).kindOf (ps.zip us) fun _=>none) s1):
  Inv (o8 CX P w K mg base N qual scope f cd A outer s H E) [] (start N vs) H s1:=by
 have hpl:ps.length<=N.length:=by have:=congrArg List.length S.pre;rw[ig] at this;omega
 obtain⟨h1,tk,rfl,hk⟩:=x.done
 have sU:∀b:Addr,b∉(o8 CX P w K mg base N qual scope f cd A outer s H E).ex:=fun b z=>absurd (show b∈([]:List Addr) from z) (by simp)
 refine⟨⟨e0.mod,S.kind,rfl,rfl,aS _,fun y z c h1 h2=>?_,fun y hy=>?_,fun y c _ h=>?_,fun _=>hd,Around.frames_deeper e0.frames, .inr ⟨rfl,rfl⟩,fun b z=>absurd z (sU b),e0.bs,e0.lV,fun b _ _=>sU b,fun b z=>absurd z (sU b),e0.jk,e0.m9⟩,
  rfl,e0.bare,Un.kept hk,⟨_,x.toInCall.ns,fun i y v h1 h2 h3=>?_⟩,fun y c h=>⟨_,x.cell y c h⟩,e0.hok.fresh (aS _),fun y c h=>?_,fun p hp=>absurd (show p∈([]:List (Addr×Obj)) from hp) (by simp),e0.hok.kept hk,?_⟩
 ·exact name_of_addr x.apart (oE h1) (oE h2)
 ·have hy:scope.names.lookup y=some .cell\/scope.names.lookup y=some .free:=hy
  rcases hy with hy|hy
  ·exact Ej hy
  ·exact absurd rfl (S.Rp _ (oE hy))
 ·exact je (x.above y c (oE h))
 ·have hi:i<vs.length:=by
   unfold start at h2
   by_cases hi:i<vs.length
   ·exact hi
   ·rw[gk (by simpa using hi)] at h2
    rw[eV] at h2
    split at h2<;>cases h2
  have ha:vs[i]?=some v:=by
   unfold start at h2
   rw[fT (by simpa using hi),bx] at h2
   cases e:vs[i]? with
   |none=>rw[e] at h2;cases h2
   |some a=>rw[e] at h2;cases h2;rfl
  obtain⟨u,hu,rv⟩:=r.get ha
  have hp:ps[i]?=some y:=by
   rw[<-S.pre,Cd (by omega)];exact h1
  have IQ:ps.Nodup:=by rw[<-S.pre];exact S.nd.sublist (List.take_sublist _ _)
  refine⟨u,rv,?_⟩
  rcases S.par y (bD hp) with k|k
  ·exact .inl ⟨k,Jj IQ hp hu k⟩
  ·obtain⟨c,e⟩:=Ej (n:=s.heap.objs.size+1) k
   refine .inr ⟨.inl k,c,e,?_⟩
   have q:=x.cell y c e
   rw[HG IQ hp hu (by show scope.names.lookup y≠_;rw[k];decide)] at q
   exact q
 ·exact e0.hok.fresh (je (x.above y c (oE h)))
 ·unfold start
  show _=N.length
  rw[fF,aj,jb]
  omega
theorem NU{CX:j3}{P:Program}{w:World}{K:PySem.W.Frag}{mg:Str->Option Value}{base:Heap}{k:Nat}{f:Addr}{name qual:Str}{params:Arguments}{body:List Stmt}{scope:Scope}{dV kV doc pm cdv ct oc:Value}{an od:Option Addr}
    {osl:Array (Option Value)} {N ps:List Str} {sp:Sp} (lk:K.lookup f=some ⟨oc,od, .func (PySem.W.fnOf name qual params body scope dV kV doc pm an cdv ct),osl⟩) (hcd:PySem.W.codeIn K cdv qual=true) (S:bX N ps scope)
    (len:∀vs H Q E,sp vs H Q E->vs.length=ps.length)
    (hbody:∀(A:Around) (outer:List Env) (s:Shared) (H:Hp) (vs:List V) (Q:VK) (E:XK),dz k (A.deeper (envOfC qual scope s.heap.objs.size f cdv))->sp vs H Q E->
      ∃t,jd (o8 CX P w K mg base N qual scope f cdv A outer s H E) body t/\t {nx:=fun _ H'=>Q .aE H',rt:=Q} (start N vs) H):
    bB P w K mg base CX (k+1) f (PySem.W.fnOf name qual params body scope dV kV doc pm an cdv ct) ps sp:=by
  refine⟨len,fun A outer s H args us vs Q E hr e0 hb r iF=>?_⟩
  have hl:=len _ _ _ _ iF
  have KX:K.In s.heap:=e0.mod.qS.keeps fun b o e=>(e0.bs b o e).1
  have lim:s.heap.NoLimit:=e0.mod.nolimit.keeps fun b o e=>(e0.bs b o e).1
  have hkind:∀y∈ps.zip us,scope.names.lookup y.1=some .local\/(scope.names.lookup y.1=some .cell/\((cellsFrom (s.heap.objs.size+1) scope.names []).lookup y.1).isSome=true):=fun⟨n,v⟩ hy=>by
    rcases S.par n (zR hy).1 with q|q
    · exact .inl q
    · exact .inr ⟨q,DY _ _ _ (.inl q)⟩
  refine codeAny_call_function hr.depth (KX _ _ lk) rfl S.co S.gen rfl (PySem.W.codeRec_of KX hcd) (hb _ _ _ _ ?_)
  refine wpAny_newFunctionEnv_cells S.kind hkind fun env he s1 x=>?_
  subst he
  refine⟨lim.keeps x.toInCall.keep,codeAny_func ?_⟩
  obtain⟨t,ht,hq⟩:=hbody A outer s H vs Q E (hr.deeper _) iF
  have I:Inv (o8 CX P w K mg base N qual scope f cdv A outer s H E) [] (start N vs) H s1:=Oz S hr.hd e0 hl r x
  refine wpAny_mono (ht [] s1 (start N vs) H _ I hq) (fun fl s' hs=>?_) fun e s' hs=>hs
  have fin:∀{σ':St} {H':Hp} {v:V} {u:Value},Inv (o8 CX P w K mg base N qual scope f cdv A outer s H E) [] σ' H' s'->RelV v u->Q v H'->CE outer P w H s Q u s':=
    fun{σ' H' v u} J rv q=>⟨v,H',J.os,J.bare,J.base,J.hok,rv,q⟩
  cases fl with
  | ret u =>
    obtain⟨v,σ',H',J,rv,q⟩:=hs
    exact fin J rv q
  | next =>
    obtain⟨σ',H',J,q⟩:=hs
    exact fin (v:=V.aE) (u:=Value.none) J rfl q
  | brk =>
    obtain⟨_,_,_,q⟩:=hs
    exact False.elim q
  | cont =>
    obtain⟨_,_,_,q⟩:=hs
    exact False.elim q
section
variable{X:Cx}{x:Str}{p pos:Pos}{e:Expr}{es:List Expr}{t:TA}{id T:String}{r:List V->Hp->VK->Prop}
def fN(r:List V->Hp->VK->Prop)(t:TA):TE:=fun σ H Q=>t σ H fun vs H1=>r vs H1 Q
theorem cz(hc:eS X (.builtin id) r)(hg:Gl X x)(hm:X.mg x=none)(hv:bootBuiltins x=some (.builtin id))(ha:PA X (e::es) t)(hn:x≠"__name__":=by decide)(hdb:(x==("__debug__":Str))=false:=by decide)
  (he:starEach (e::es) X.env=(false,eval e X.env)::starEach es X.env:=by rfl) (hpl:(backTo pos (starEach es X.env)).any (·.1)=false:=by rfl):PE X (.Call (.Name x p) (e::es) [] pos) (fN r t):=by
 intro pins s σ H Q I h
 refine wpAny_Call_Name_kw (nq I hg hm hv ?_ hn hdb)
 exact PyProof.Rows.callWith_builtin1 (aK (ha pos pins s σ H _ I h) fun us s1 ⟨vs,H1,I1,r1,q1⟩=>hc pins s1 σ H1 vs us Q I1 r1 q1) he hpl
theorem iM(hc:eS X (.type T) r)(hg:Gl X x)(hm:X.mg x=none)(hv:bootBuiltins x=some (.type T))(ha:PA X (e::es) t)(hn:x≠"__name__":=by decide)(hdb:(x==("__debug__":Str))=false:=by decide)
  (he:starEach (e::es) X.env=(false,eval e X.env)::starEach es X.env:=by rfl) (hpl:(backTo pos (starEach es X.env)).any (·.1)=false:=by rfl):PE X (.Call (.Name x p) (e::es) [] pos) (fN r t):=by
 intro pins s σ H Q I h
 refine wpAny_Call_Name_kw (nq I hg hm hv ?_ hn hdb)
 exact rN (aK (ha pos pins s σ H _ I h) fun us s1 ⟨vs,H1,I1,r1,q1⟩=>hc pins s1 σ H1 vs us Q I1 r1 q1) he hpl
end
end L2
namespace HT
open PySem PyProof.Rows
section
open PySem.SeqAt
open PySem.AutoSeq1 (wpAny_loadPart')
open PySem.MeetsSeq PySem.MeetsSeq2 PySem.MeetsSeq3
end
section
variable{prog:Program}{w:World}{A:Around}{E:Value->Shared->Prop}{s:Shared}
def dO(n d:Nat):Option Int->Nat
 |none=>d
 |some v=>if v<0 then(v+(n:Int)).toNat else min v.toNat n
end
end HT
namespace L2
open PySem PySem.Spec PyProof.Rows
abbrev TO:=St->Hp->(Option Int->Hp->Prop)->Prop
def PO(X:Cx)(e:Option Expr)(t:TO):Prop:=
 ∀(pins:List (Addr×Obj)) (s:Shared) (σ:St) (H:Hp) (Q:Option Int->Hp->Prop),Inv X pins σ H s->t σ H Q->
  wpAny (model X.prog X.w) X.A (evalPart e X.env) (fun u s'=>∃o H',Inv X pins σ H' s'/\IsPart u o/\Q o H') X.xe s
def yu:TO:=fun _ H Q=>Q none H
def zl(t:TE):TO:=fun σ H Q=>t σ H fun x H1=>∃i,x= .int i/\Q (some i) H1
section
variable{X:Cx}{e:Expr}{te:TE}{lo hi:Option Expr}{tl th:TO}{pos p2:Pos}
theorem sZ:PO X none yu:=by
 intro pins s σ H Q I h
 rw[evalPart_none]
 exact wpAny_pure ⟨none,H,I, .none,h⟩
theorem qA(h:PE X e te):PO X (some e) (zl te):=by
 intro pins s σ H Q I hw
 rw[evalPart_some]
 refine aK (h pins s σ H _ I hw) fun u s1 ⟨x,H1,I1,r1,q1⟩=>?_
 obtain⟨i,rfl,q⟩:=q1
 obtain⟨t,rfl⟩:=r1
 exact⟨some i,H1,I1, .int i t,q⟩
def EM(X:Cx)(r:V->Option Int->Option Int->Hp->VK->Prop):Prop:=
 ∀(pins:List (Addr×Obj)) (s:Shared) (σ:St) (H:Hp) (x:V) (v vl vu:Value) (lo hi:Option Int) (sl:Addr) (Q:VK),Inv X pins σ H s->RelV x v->s.heap.IsSliceOf sl vl vu .none->IsPart vl lo->IsPart vu hi->r x lo hi H Q->
  ∃T id,typeLookup (.type T) "__getitem__"=pure (some (.builtin id))/\s.TypeIs v T/\wpAny (model X.prog X.w) X.A (getItem v (.ref sl)) (EP X pins σ Q) X.xe s
def qw(r:V->Option Int->Option Int->Hp->VK->Prop)(te:TE)(tl th:TO):TE:=fun σ H Q=>te σ H fun x H1=>tl σ H1 fun l H2=>th σ H2 fun u H3=>r x l u H3 Q
theorem sA{r:V->Option Int->Option Int->Hp->VK->Prop}(hr:EM X r)(he:PE X e te)(hl:PO X lo tl)(hu:PO X hi th):PE X (.Subscript e (.Slice lo hi none p2) pos) (qw r te tl th):=by
 intro pins s σ H Q I h
 refine Subscript_ (aK (he pins s σ H _ I h) fun v s1 ⟨x,H1,I1,r1,q1⟩=>?_)
 refine wpAny_Slice (aK (hl pins s1 σ H1 _ I1 q1) fun vl s2 ⟨l,H2,I2,pl,q2⟩=>aK (hu pins s2 σ H2 _ I2 q2) fun vu s3 ⟨u,H3,I3,pu,q3⟩=>?_)
 rw[evalPart_none]
 refine wpAny_pure ?_
 have I4:Inv X pins σ H3 {s3 with heap:=s3.heap.push {cls:= .type "slice",data:= .fields #[vl,vu, .none]}}:=I3.kept (t':=s3.toks) fun b ob q=>bH _ q
 obtain⟨T,id,hT,ht,hg⟩:=hr pins {s3 with heap:=s3.heap.push {cls:= .type "slice",data:= .fields #[vl,vu, .none]}} σ H3 x v vl vu l u s3.heap.objs.size Q I4 r1 (Heap.IsSliceOf.new ..) pl pu q3
 show wpAny (model X.prog X.w) X.A (subscriptTail e (.Slice lo hi none p2) v (.ref s3.heap.objs.size)) (EP X pins σ Q) X.xe {s3 with heap:=s3.heap.push {cls:= .type "slice",data:= .fields #[vl,vu, .none]}}
 exact tail_any (ops:=[.ref s3.heap.objs.size,v]) ht hT hg (by with_unfolding_all rfl)
def kU(xs:List V)(lo hi:Option Int):List V:=(xs.drop (HT.dO xs.length 0 lo)).take (HT.dO xs.length xs.length hi-HT.dO xs.length 0 lo)
theorem RT(xs:List V)(lo hi:Option Int):(kU xs lo hi).length<=xs.length:=by
 unfold kU
 rw[ig,List.length_drop]
 omega
def MG(K:PySem.W.Frag):V->Option Int->Option Int->Hp->VK->Prop:=fun x lo hi H Q=>∃a xs,x= .ref a/\fQ K H a xs/\
 ¬(HT.dO xs.length 0 lo=0/\HT.dO xs.length xs.length hi=xs.length)/\∀p,H p=none->Q (.ref p) (upd H p (.tup (kU xs lo hi)))
def W7(K:PySem.W.Frag):R2:=fun x y H Q=>∃a b xs ys,x= .ref a/\y= .ref b/\fQ K H a xs/\fQ K H b ys/\xs≠[]/\xs.length+ys.length<=sizeLine/\
 (ys=[]->Q (.ref a) H)/\(ys≠[]->∀p,H p=none->Q (.ref p) (upd H p (.tup (xs++ys))))
end
def fk(n:Nat)(i:Int):Option Nat:=if 0<=i then(if i<n then some i.toNat else none) else if-(n:Int)<=i then some (i+n).toNat else none
def bL{α:Type}(xs:List α)(i:Int):Option α:=(fk xs.length i).bind fun j=>xs[j]?
theorem Em{n:Nat}{i:Int}{j:Nat}(h:fk n i=some j):seqIndex? i n=some j/\j<n/\ -(n:Int)<=i/\i<n:=by
 unfold fk at h
 by_cases h0:0<=i
 ·rw[if_pos h0] at h
  by_cases h1:i<n
  ·rw[if_pos h1] at h
   have e:i.toNat=j:=fR h
   exact⟨by rw[seqIndex_of h0 h1,e],by omega,by omega,h1⟩
  ·rw[if_neg h1] at h;cases h
 ·rw[if_neg h0] at h
  by_cases h1: -(n:Int)<=i
  ·rw[if_pos h1] at h
   have e:(i+n).toNat=j:=fR h
   exact⟨by rw[seqIndex_neg (by omega) h1,e],by omega,h1,by omega⟩
  ·rw[if_neg h1] at h;cases h
theorem zm{α:Type}{xs:List α}{i:Int}{v:α}(h:bL xs i=some v):∃j,seqIndex? i xs.length=some j/\xs[j]?=some v/\j<xs.length/\ -(xs.length:Int)<=i/\i<xs.length:=by
  unfold bL at h
  cases e:fk xs.length i with
  |none=>rw[e] at h;cases h
  | some j =>
    rw[e] at h
    obtain⟨h1,h2,h3,h4⟩:=Em e
    exact⟨j,h1,h,h2,h3,h4⟩
theorem Ox{α:Type}{xs:List α}{j:Nat}{v:α}(h:xs[j]?=some v):bL xs (j:Int)=some v:=by
 have hj:j<xs.length:=(bI.mp h).1
 have e:fk xs.length (j:Int)=some j:=by
  unfold fk
  rw[if_pos (by omega),if_pos (by omega)];simp
 unfold bL;rw[e];exact h
theorem Qp{α:Type}(xs:List α)(v:α):bL (xs++[v]) (-1)=some v:=by
 have hl:(xs++[v]).length=xs.length+1:=by simp
 have e:fk (xs++[v]).length (-1)=some xs.length:=by
  unfold fk
  rw[hl,if_neg (by decide),if_pos (by omega)]
  congr 1
  omega
 unfold bL
 rw[e]
 show(xs++[v])[xs.length]?=some v
 simp
def Ky(b:Expr):Prop:=∀o i,subscripted b false o i=operate [o,i] (getItem o i)
def kN(X:Cx)(r:R2):Prop:=
 ∀(value slice:Expr) (pins:List (Addr×Obj)) (s:Shared) (σ:St) (H:Hp) (x y:V) (v u:Value) (Q:VK),Inv X pins σ H s->RelV x v->RelV y u->r x y H Q->
  subscripted slice false v u=operate [v,u] (getItem v u)->wpAny (model X.prog X.w) X.A (subscriptTail value slice v u) (EP X pins σ Q) X.xe s
def qO(X:Cx)(id:String)(r:V->List V->Hp->VK->Prop):Prop:=
 ∀(pins:List (Addr×Obj)) (s:Shared) (σ:St) (H:Hp) (x:V) (xs:List V) (v:Value) (us:List Value) (Q:VK),Inv X pins σ H s->RelV x v->Vals xs us->r x xs H Q->
  wpAny (model X.prog X.w) X.A (call (.builtin id) (v::us)) (EP X pins σ Q) X.xe s
section
variable{X:Cx}{a b:Expr}{ta tb:TE}{pos:Pos}
theorem kN.or{r r':R2}(h:kN X r)(h':kN X r'):kN X (fun x y H Q=>r x y H Q\/r' x y H Q):=by
 intro value slice pins s σ H x y v u Q I rx ry q hs
 rcases q with q|q
 ·exact h value slice pins s σ H x y v u Q I rx ry q hs
 ·exact h' value slice pins s σ H x y v u Q I rx ry q hs
theorem aT{r:R2}(hr:kN X r)(ha:PE X a ta)(hb:PE X b tb)(hs:Ky b):PE X (.Subscript a b pos) (cZ r ta tb):=by
 intro pins s σ H Q I h
 exact Subscript_ (zy ha hb I h fun v u s2 x y H2 I2 rx ry q=>hr a b pins s2 σ H2 x y v u Q I2 rx ry q (hs _ _))
def dU(K:PySem.W.Frag):R2:=fun x y H Q=>∃p xs i v,x= .ref p/\y= .int i/\aQ K H p xs/\bL xs i=some v/\Q v H
def dD(K:PySem.W.Frag):R2:=fun x y H Q=>∃p xs i v,x= .ref p/\y= .int i/\fQ K H p xs/\bL xs i=some v/\Q v H
def Fx:R2:=fun x y H Q=>∃z i c,x= .str z/\y= .int i/\z.length<=sizeLine/\bL z.cps.toList i=some c/\Q (.str ⟨#[c]⟩) H
theorem bY:kN X (dU X.K):=by
 intro value slice pins s σ H x y v u Q I rx ry h hs
 obtain⟨p,xs,i,z,rfl,rfl,hq,he,q⟩:=h
 cases rx
 obtain⟨t,rfl⟩:=ry
 obtain⟨its,r,pl,hz⟩:=I.list hq
 obtain⟨j,h1,h2,h3,h4,h5⟩:=zm he
 obtain⟨w,ew,rw'⟩:=r.get h2
 have hl:=r.length
 have hn:=pF
 have fin:EP X pins σ Q w s:=⟨z,H,I,rw',q⟩
 by_cases h0:0<=i
 ·have hj:i.toNat=j:=by
   rw[seqIndex_of h0 h5] at h1
   exact fR h1
  exact item_listR pl.isList h0 (by omega) (by rw[hj];simpa using ew) fin hs
 ·have hj:(i+(its.toArray.size:Int)).toNat=j:=by
   rw[seqIndex_neg (by omega) h4] at h1
   rw[cN,<-hl]
   exact fR h1
  exact subscriptTail_builtinR (x:=w) pl.isList.typeIs slot_list_getitem.lookup
   (wpAny_getItem_list_neg (Q:=fun r s'=>r=w/\EP X pins σ Q r s') pl.isList (by omega) (by rw[cN]<;>omega) (by omega) (by rw[hj];simpa using ew) ⟨rfl,fin⟩) hs
theorem dN:kN X (dD X.K):=by
 intro value slice pins s σ H x y v u Q I rx ry h hs
 obtain⟨p,xs,i,z,rfl,rfl,hq,he,q⟩:=h
 cases rx
 obtain⟨t,rfl⟩:=ry
 obtain⟨its,r,pl,hz⟩:=I.tuple hq
 obtain⟨j,h1,h2,h3,h4,h5⟩:=zm he
 obtain⟨w,ew,rw'⟩:=r.get h2
 have hl:=r.length
 have hn:=pF
 have fin:EP X pins σ Q w s:=⟨z,H,I,rw',q⟩
 exact subscriptTail_builtinR (x:=w) pl.typeIs slot_tuple_getitem.lookup
  (getItem_tuple (j:=j) (Q:=fun r s'=>r=w/\EP X pins σ Q r s') pl (by omega) (by omega) (by rw[cN,<-hl];exact h1) (by simpa using ew) ⟨rfl,fin⟩) hs
theorem Ln:kN X Fx:=by
 intro value slice pins s σ H x y v u Q I rx ry h hs
 obtain⟨z,i,c,rfl,rfl,hz,he,q⟩:=h
 obtain⟨t,rfl⟩:=rx
 obtain⟨t',rfl⟩:=ry
 obtain⟨j,h1,h2,h3,h4,h5⟩:=zm he
 have hl:z.cps.toList.length=z.length:=by simp[Str.length]
 rw[hl] at h1 h4 h5
 have hn:=pF
 exact tail_any (typeIs_str s z t) slot_str_getitem.lookup (getItem_str (c:=c) (by
  have e1:decide (i< -(2^63:Int))=false:=decide_eq_false (by omega)
  have e2:decide (i≥2^63)=false:=decide_eq_false (by omega)
  rw[e1,e2,nD]) (by rw[h1];simpa using h2) ⟨.str ⟨#[c]⟩,H,I.tok _,⟨_,rfl⟩,q⟩) hs
def tX(K:PySem.W.Frag):R2:=fun x y H Q=>dU K x y H Q\/dD K x y H Q\/Fx x y H Q
theorem HW:kN X (tX X.K):=bY.or (dN.or Ln)
theorem OP(its:List Value)(n j:Nat)(u:Value):Obj.mapSeq (·.setIfInBounds j u) {cls:= .type "list",data:= .seq its.toArray n}={cls:= .type "list",data:= .seq (its.set j u).toArray n}:=by
 simp[Obj.mapSeq]
theorem Inv.lst{pins:List (Addr×Obj)}{σ:St}{H:Hp}{s:Shared}{p:Addr}{xs:List V}(I:Inv X pins σ H s)(h:H p=some (.lst xs)):
  ∃(its:List Value) (n:Nat),Vals xs its/\s.heap.get? p=some {cls:= .type "list",data:= .seq its.toArray n}/\xs.length<=sizeLine:=by
 obtain⟨z,its,n,r,e⟩:=I.hok p _ h
 exact⟨its,n,r,e,z⟩
theorem Inv.Qd{pins:List (Addr×Obj)}{σ:St}{H:Hp}{s:Shared}{p:Addr}{xs ys:List V}{its its':List Value}{n n':Nat}{f:Obj->Obj}(I:Inv X pins σ H s)(h:H p=some (.lst xs))
  (ho:s.heap.get? p=some {cls:= .type "list",data:= .seq its.toArray n}) (hf:f {cls:= .type "list",data:= .seq its.toArray n}={cls:= .type "list",data:= .seq its'.toArray n'}) (r:Vals ys its') (hz:ys.length<=sizeLine) (t:Nat):
  Inv X pins σ (upd H p (.lst ys)) {s with heap:=s.heap.update p f,toks:=t}:=by
 have e:(s.heap.update p f).get? p=some {cls:= .type "list",data:= .seq its'.toArray n'}:=by
  rw[ux f ho (by rw[hf]<;>rfl),hf]
 refine I.write (x:=p) (e:=p) (by rw[h];trivial) (.inl rfl) (fun b u hb q=>(kE _ _ (bu hb)).trans q) ⟨_,e⟩ ?_
 exact⟨hz,its',n',r,e⟩
def u7:V->V->V->Hp->(Hp->Prop)->Prop:=fun o i v H Q=>∃p xs k j,o= .ref p/\i= .int k/\H p=some (.lst xs)/\fk xs.length k=some j/\Q (upd H p (.lst (xs.set j v)))
theorem set_list:C3 X u7:=by
 intro pins s σ H o i v ov iv u Q I ro ri rv h
 obtain⟨p,xs,k,j,rfl,rfl,hp,hj,q⟩:=h
 cases ro
 obtain⟨t,rfl⟩:=ri
 obtain⟨its,n,r,ho,hz⟩:=I.lst hp
 obtain⟨h1,h2,h3,h4⟩:=Em hj
 have hl:=r.length
 have hn:=pF
 have I':Inv X pins σ (upd H p (.lst (xs.set j v))) {s with heap:=s.heap.update p (Obj.mapSeq (·.setIfInBounds j u))}:=
  I.Qd hp ho (OP its n j u) (r.set rv j) (by rw[fX];exact hz) s.toks
 by_cases h0:0<=k
 ·have hk:k.toNat=j:=by
   rw[seqIndex_of h0 h4] at h1
   exact fR h1
  exact PySem.W.ki_setAt ho h0 (by omega) (by rw[cN,<-hl];exact h4) (by rw[hk];exact⟨_,I',q⟩)
 ·have hk:(k+(its.toArray.size:Int)).toNat=j:=by
   rw[seqIndex_neg (by omega) h3] at h1
   rw[cN,<-hl]
   exact fR h1
  exact PySem.W.ki_setBack ho (by omega) (by rw[cN,<-hl];exact h3) (by omega) (by rw[hk];exact⟨_,I',q⟩)
theorem MW(lo hi:Option Int)(n:Nat):(sliceBounds lo hi none n).1=((HT.dO n 0 lo:Nat):Int)/\(sliceBounds lo hi none n).2.1=((HT.dO n n hi:Nat):Int)/\(sliceBounds lo hi none n).2.2=1:=by
  refine⟨?_,?_,rfl⟩
  · cases lo with
    |none=>simp[sliceBounds,HT.dO]
    | some i =>
      simp only[sliceBounds,HT.dO,Option.getD_none,show(1:Int)>0 by decide,if_true]
      by_cases h:i<0
      · simp only[h,if_true]<;>omega
      · simp only[h,if_false]<;>omega
  · cases hi with
    |none=>simp[sliceBounds,HT.dO]
    | some i =>
      simp only[sliceBounds,HT.dO,Option.getD_none,show(1:Int)>0 by decide,if_true]
      by_cases h:i<0
      · simp only[h,if_true]<;>omega
      · simp only[h,if_false]<;>omega
theorem Vx(its:List Value)(lo hi:Option Int):slicePick its.toArray lo hi none=((its.drop (HT.dO its.length 0 lo)).take (HT.dO its.length its.length hi-HT.dO its.length 0 lo)).toArray:=by
 obtain⟨h1,h2,h3⟩:=MW lo hi its.toArray.size
 unfold slicePick
 rw[h1,h2,h3]
 simp only[sliceRange_one,pick_run,cN]<;>rfl
def nB(K:PySem.W.Frag):V->Option Int->Option Int->Hp->VK->Prop:=fun x lo hi H Q=>∃a xs,x= .ref a/\aQ K H a xs/\∀p,H p=none->Q (.ref p) (upd H p (.lst (kU xs lo hi)))
theorem sH:EM X (nB X.K):=by
 intro pins s σ H x v vl vu lo hi sl Q I rx hs pl pu h
 obtain⟨a,xs,rfl,hx,q⟩:=h
 cases rx
 obtain⟨its,r,ht,hz⟩:=I.list hx
 have hlen:=r.length
 refine⟨"list",_,slot_list_getitem.lookup,ht.isList.typeIs,?_⟩
 refine wpAny_getItem_list_slice ht.isList hs pl pu .none (by simp) ?_ (by rw[cN]<;>omega)
 rw[Vx,<-hlen]
 refine⟨.ref s.heap.objs.size,_,I.laid (t':=s.toks) (o:= .lst (kU xs lo hi)) (fun b ob q=>bH _ q) (aS _) ?_,rfl,q _ (I.hok.fresh (aS _))⟩
 exact⟨dB (RT xs lo hi) hz,_,0,(r.drop (HT.dO xs.length 0 lo)).take (HT.dO xs.length xs.length hi-HT.dO xs.length 0 lo),dX _ rfl⟩
def mX:V->Bool
 | .aE=>true
 | .bl _=>true
 | .int _=>true
 | .str _=>true
 |_=>false
def lT:V->V->Bool
 | .aE, .aE=>true
 | .bl a, .bl b=>a==b
 | .bl a, .int b=>(if a then 1 else 0)==b
 | .int a, .bl b=>a==(if b then 1 else 0)
 | .int a, .int b=>a==b
 | .str a, .str b=>a==b
 |_,_=>false
theorem Sn{A:Around}{s:Shared}{y x:V}{u v:Value}(ry:RelV y u)(rx:RelV x v)(fy:mX y=true)(fx:mX x=true):SeqAt.EqAt A s u v (lT y x):=by
  cases y with
  | aE =>
    cases ry
    cases x with
    |aE=>cases rx;exact SeqAt.EqAt.same _
    |bl b=>cases rx;exact SeqAt.EqAt.none_bool b
    |int b=>obtain⟨t,rfl⟩:=rx;exact SeqAt.EqAt.none_int b t
    |str b=>obtain⟨t,rfl⟩:=rx;exact SeqAt.EqAt.none_str b t
    |_=>exact absurd (show false=true from fx) bV
  | bl a =>
    cases ry
    cases x with
    |aE=>cases rx;exact SeqAt.EqAt.bool_none a
    |bl b=>cases rx;exact SeqAt.EqAt.bool_bool a b
    |int b=>obtain⟨t,rfl⟩:=rx;exact SeqAt.EqAt.bool_int a b t
    |str b=>obtain⟨t,rfl⟩:=rx;exact SeqAt.EqAt.bool_str a b t
    |_=>exact absurd (show false=true from fx) bV
  | int a =>
    obtain⟨t',rfl⟩:=ry
    cases x with
    |aE=>cases rx;exact SeqAt.EqAt.int_none a t'
    |bl b=>cases rx;exact SeqAt.EqAt.int_bool a t' b
    |int b=>obtain⟨t,rfl⟩:=rx;exact SeqAt.EqAt.int_int a t' b t
    |str b=>obtain⟨t,rfl⟩:=rx;exact SeqAt.EqAt.int_str a t' b t
    |_=>exact absurd (show false=true from fx) bV
  | str a =>
    obtain⟨t',rfl⟩:=ry
    cases x with
    |aE=>cases rx;exact SeqAt.EqAt.str_none a t'
    |bl b=>cases rx;exact SeqAt.EqAt.str_bool a t' b
    |int b=>obtain⟨t,rfl⟩:=rx;exact SeqAt.EqAt.str_int a t' b t
    |str b=>obtain⟨t,rfl⟩:=rx;exact SeqAt.EqAt.str_str a t' b t
    |_=>exact absurd (show false=true from fx) bV
  |_=>exact absurd (show false=true from fy) bV
def lG(x:V)(u:Value):Bool:=match u with
 | .none=>lT .aE x
 | .bool b=>lT (.bl b) x
 | .int i _=>lT (.int i) x
 | .str z _=>lT (.str z) x
 |_=>false
theorem GG{x y:V}{u:Value}(r:RelV y u)(f:mX y=true):lG x u=lT y x:=by
 cases y with
 |aE=>cases r;rfl
 |bl b=>cases r;rfl
 |int i=>obtain⟨t,rfl⟩:=r;rfl
 |str z=>obtain⟨t,rfl⟩:=r;rfl
 |_=>exact absurd (show false=true from f) bV
theorem Ah{x:V}:∀{xs:List V} {us:List Value},Vals xs us->xs.all mX=true->us.any (lG x)=xs.any fun y=>lT y x
  |_,_, .nil,_=>rfl
  | y :: xs, u :: us, .cons r t, f => by
    rw[mq,er] at f
    rw[k9,k9,GG r f.1,Ah t f.2]
theorem CO{A:Around}{s:Shared}{x:V}{v:Value}(rx:RelV x v)(fx:mX x=true):∀{xs:List V} {us:List Value},Vals xs us->xs.all mX=true->∀u∈us,SeqAt.EqAt A s u v (lG x u)
  |_,_, .nil,_=>fun u hu=>by cases hu
  | y :: xs, u :: us, .cons r t, f => fun u' hu => by
    rw[mq,er] at f
    rcases aP.mp hu with rfl|hu
    · rw[GG r f.1];exact Sn r rx f.1 fx
    · exact CO rx fx t f.2 u' hu
def mw(x:V)(xs:List V):Bool:=xs.any fun y=>lT y x
def vF(K:PySem.W.Frag)(neg:Bool):R2:=fun x y H Q=>∃p xs,y= .ref p/\(aQ K H p xs\/fQ K H p xs)/\mX x=true/\xs.all mX=true/\Q (.bl (if neg then !mw x xs else mw x xs)) H
theorem RW:cU X (compareOp .In) (vF X.K false):=by
 intro pins s σ H x y v u Q I rx ry h
 obtain⟨p,xs,rfl,hq,fx,fs,q⟩:=h
 cases ry
 rcases hq with hq|hq
 ·obtain⟨its,r,pl,hz⟩:=I.list hq
  refine SeqAt.in_listAt (lG x) pl.isList (fun w hw=>CO rx fx r fs w (by simpa using hw)) ⟨.bl _,H,I,rfl,?_⟩
  rw[show its.toArray.any (lG x)=its.any (lG x) by simp,Ah r fs]
  exact q
 ·obtain⟨its,r,pl,hz⟩:=I.tuple hq
  refine SeqAt.in_tupleAt (lG x) pl (fun w hw=>CO rx fx r fs w (by simpa using hw)) ⟨.bl _,H,I,rfl,?_⟩
  rw[show its.toArray.any (lG x)=its.any (lG x) by simp,Ah r fs]
  exact q
theorem I0:eS X (.builtin "len") (fun xs H Q=>∃p ys,xs=[.ref p]/\(aQ X.K H p ys\/fQ X.K H p ys)/\Q (.int ys.length) H):=by
 intro pins s σ H xs us Q I r h
 obtain⟨p,ys,rfl,hq,q⟩:=h
 obtain⟨u,rfl,rx⟩:=vals1 r
 cases rx
 have hn:=pF
 rcases hq with hq|hq
 ·obtain⟨its,r',pl,hz⟩:=I.list hq
  have hlen:=r'.length
  exact Calls.call_len_list pl.isList (by simp only[cN]<;>omega) ⟨.int ys.length,H,I.tok _,⟨s.toks+1,by rw[cN,hlen]⟩,q⟩
 ·obtain⟨its,r',pl,hz⟩:=I.tuple hq
  have hlen:=r'.length
  exact len_tuple pl (by simp only[cN]<;>omega) ⟨.int ys.length,H,I.tok _,⟨s.toks+1,by rw[cN,hlen]⟩,q⟩
theorem PY:eS X (.type "list") (fun xs H Q=>∃p ys,xs=[.ref p]/\(aQ X.K H p ys\/fQ X.K H p ys)/\∀l,H l=none->Q (.ref l) (upd H l (.lst ys))):=by
 intro pins s σ H xs us Q I r h
 obtain⟨p,ys,rfl,hq,q⟩:=h
 obtain⟨u,rfl,rx⟩:=vals1 r
 cases rx
 have fin:∀(its:List Value),Vals ys its->ys.length<=sizeLine->∀(h':Heap) (c':Nat),(∀b o',s.heap.get? b=some o'->h'.get? b=some o')->
   h'.get? s.heap.objs.size=some {cls:= .type "list",dict:=none,data:= .seq its.toArray c',slots:= #[]}->EP X pins σ Q (.ref s.heap.objs.size) {s with heap:=h'}:=fun its r' hz h' c' kp e=>
  ⟨.ref s.heap.objs.size,_,I.laid (t':=s.toks) kp (aS _) (show bK X.prog X.w _ h' _ (.lst ys) from⟨hz,its,c',r',e⟩),rfl,q _ (I.hok.fresh (aS _))⟩
 rcases hq with hq|hq
 ·obtain⟨its,r',pl,hz⟩:=I.list hq
  have hlen:=r'.length
  obtain⟨o,ho,hc,n,hd⟩:=pl.isList
  exact call_list_seq p (.inl rfl) ho hc hd (fun h' c' kp e=>fin its r' hz h' c' kp e) (by simp only[cN]<;>omega)
 ·obtain⟨its,r',pl,hz⟩:=I.tuple hq
  have hlen:=r'.length
  obtain⟨o,ho,hc,n,hd⟩:=pl
  exact call_list_seq p (.inr rfl) ho hc hd (fun h' c' kp e=>fin its r' hz h' c' kp e) (by simp only[cN]<;>omega)
def sQ(K:PySem.W.Frag)(T:String)(x:V)(H:Hp):Prop:=match x with
 | .str _=>T="str"
 | .int _=>T="int"
 | .ref p => (T = "list" /\ ∃ xs, aQ K H p xs) \/ (T = "tuple" /\ ∃ o, K.lookup p = some o /\ o.cls = .type "tuple" /\ o.dict = none) \/
   (T="dict" /\((∃kvs,H p=some (.dK kvs))\/(∃kvs,H p=some (.dT kvs))\/∃o kvs,H p=some (.bG o (.dK kvs))))\/(T="set" /\∃S n,H p=some (.set S n))
 |_=>False
theorem IV{pins:List (Addr×Obj)}{σ:St}{H:Hp}{s:Shared}{T:String}{x:V}{v:Value}(I:Inv X pins σ H s)(r:RelV x v)(ty:sQ X.K T x H):
    s.TypeIs v T/\∀a,v= .ref a->∃ob,s.heap.get? a=some ob/\ob.dict=none:=by
  cases x with
  | str z =>
    obtain⟨t,rfl⟩:=r
    cases (show T="str" from ty)
    exact⟨typeIs_str s z t,fun _ e=>nomatch e⟩
  | int i =>
    obtain⟨t,rfl⟩:=r
    cases (show T="int" from ty)
    exact⟨typeIs_int s i t,fun _ e=>nomatch e⟩
  | ref p =>
    cases r
    rcases ty with ⟨rfl,xs,hq⟩|⟨rfl,o,hk,hc,hd⟩|⟨rfl,hk⟩|⟨rfl,S,n,hk⟩
    · obtain⟨its,_,pl,_⟩:=I.list hq
      refine⟨pl.isList.typeIs,fun a e=>?_⟩
      cases e
      obtain⟨o,n,e,c,hd,_⟩:=pl
      exact⟨o,e,hd⟩
    · refine⟨⟨o,I.cK p o hk,hc⟩,fun a e=>?_⟩
      cases e
      exact⟨o,I.cK _ o hk,hd⟩
    · have z:∃o,s.heap.get? p=some o/\o.ExactDict:=by
        rcases hk with ⟨kvs,hk⟩|⟨kvs,hk⟩|⟨ob,kvs,hk⟩
        · obtain⟨_,_,_,_,o,_,_,e,ex,_⟩:=I.hok p _ hk
          exact⟨o,e,ex⟩
        · obtain⟨_,_,_,_,o,_,_,e,ex,_⟩:=I.hok p _ hk
          exact⟨o,e,ex⟩
        · obtain⟨_,_,_,_,_,o,_,_,e,ex,_⟩:=I.hok p _ hk
          exact⟨o,e,ex⟩
      obtain⟨o,e,ex⟩:=z
      refine⟨⟨o,e,ex.1⟩,fun a e2=>?_⟩
      cases e2
      exact⟨o,e,ex.2.1⟩
    · obtain⟨o,_,_,_,e,ex,_⟩:=I.hok p _ hk
      refine⟨⟨o,e,ex.1⟩,fun a e2=>?_⟩
      cases e2
      exact⟨o,e,ex.2.1⟩
  |_=>exact False.elim ty
def wo(K:PySem.W.Frag)(T:String)(r:V->List V->Hp->VK->Prop)(to:TE):TE:=fun σ H Q=>to σ H fun x H1=>sQ K T x H1/\r x [] H1 Q
def DX(K:PySem.W.Frag)(T:String)(r:V->List V->Hp->VK->Prop)(to:TE)(t:TA):TE:=fun σ H Q=>to σ H fun x H1=>sQ K T x H1/\t σ H1 fun xs H2=>r x xs H2 Q
variable{o e:Expr}{es:List Expr}{to:TE}{t:TA}{name:Str}{apos cpos:Pos}{T id:String}{r:V->List V->Hp->VK->Prop}
theorem EU(pa:PlainAttrs T)(slot:Slot T name id)(hty:typeOf (.builtin id)=pure (.type "method_descriptor"))(hm:qO X id r)(ho:PE X o to)
  (hbase:attributeBase o name X.env (eval o X.env)=eval o X.env:=by rfl) (hline:(apos.endLine==cpos.line)=true:=by rfl):PE X (.Call (.Attribute o name apos) [] [] cpos) (wo X.K T r to):=by
 intro pins s σ H Q I h
 refine wpAny_Call_method0_late hbase hline (aK (ho pins s σ H _ I h) fun v s1 ⟨x,H1,I1,r1,ty,q1⟩=>?_)
 obtain⟨h1,h2⟩:=IV I1 r1 ty
 exact⟨T,id,pa,slot,hty,h1,h2,Calls.callWith_builtin rfl (PySem.evalArgs_none (hm pins s1 σ H1 x [] v [] Q I1 r1 .nil q1))⟩
theorem xq(pa:PlainAttrs T)(slot:Slot T name id)(hty:typeOf (.builtin id)=pure (.type "method_descriptor"))(hm:qO X id r)(ho:PE X o to)(ha:PA X (e::es) t)
  (hbase:attributeBase o name X.env (eval o X.env)=eval o X.env:=by rfl)
  (hfew : ((backTo cpos (starEach (e :: es) X.env)).all (fun x => !x.1) && (backToKw cpos (keywordEach [] X.env)).all (fun x => x.1.isSome)
   && decide ((e::es).length+([]:List Keyword).length+(if([]:List Keyword).isEmpty then 0 else 1)<30))=true:=by rfl)
  (hline:(apos.endLine==cpos.line)=true:=by rfl) (hs:starEach (e::es) X.env=(false,eval e X.env)::starEach es X.env:=by rfl) (hplain:(backTo cpos (starEach es X.env)).any (·.1)=false:=by rfl):
  PE X (.Call (.Attribute o name apos) (e::es) [] cpos) (DX X.K T r to t):=by
 intro pins s σ H Q I h
 refine wpAny_Call_method_late hbase hfew hline rfl (aK (ho pins s σ H _ I h) fun v s1 ⟨x,H1,I1,r1,ty,q1⟩=>?_)
 obtain⟨h1,h2⟩:=IV I1 r1 ty
 refine⟨T,id,pa,slot,hty,h1,h2,?_⟩
 have hA:=ha cpos pins s1 σ H1 _ I1 q1
 rw[hs] at hA⊢
 refine Calls.callWith_builtin (by show(false||(backTo cpos (starEach es X.env)).any (·.1))=false;rw[hplain]<;>rfl) (Calls.evalArgs_plain ?_)
 exact aK hA fun us s2 ⟨vs,H2,I2,r2,q2⟩=>hm pins s2 σ H2 x vs v us Q I2 r1 r2 q2
/-xs.append(e),list.index on a module's tuple .. are qO facts of 06m-/
end
def GC(X:Cx)(id:String)(r:V->List V->Hp->VK->Prop):Prop:=
 ∀(pins:List (Addr×Obj)) (s:Shared) (σ:St) (H:Hp) (x:V) (xs:List V) (v:Value) (us:List Value) (Q:VK),Inv X pins σ H s->RelV x v->Vals xs us->r x xs H Q->
  wpAny (model X.prog X.w) X.A (call (.builtin id) (v::us)) (EP X pins σ Q) X.xe s
theorem Vals.one{x:V}{us:List Value}(h:Vals [x] us):∃u,us=[u]/\RelV x u:=by
 cases h with
 |cons r t=>cases t;exact⟨_,rfl,r⟩
theorem Vals.two{x y:V}{us:List Value}(h:Vals [x,y] us):∃u v,us=[u,v]/\RelV x u/\RelV y v:=by
  cases h with
  | cons r t =>
    obtain⟨v,e,q⟩:=Vals.one t
    exact⟨_,v,by rw[e],r,q⟩
theorem Vals.zero:∀{us:List Value},Vals [] us->us=[]
 |_, .nil=>rfl
theorem Vals.dropLast{xs:List V}{us:List Value}(h:Vals xs us):Vals xs.dropLast us.dropLast:=by
  induction h with
  |nil=>exact .nil
  | cons r t ih =>
    cases t with
    |nil=>exact .nil
    |cons q t'=>exact .cons r ih
theorem Vals.rep{xs:List V}{us:List Value}(h:Vals xs us):∀k:Nat,Vals (List.replicate k xs).flatten (List.replicate k us).flatten
  |0=> .nil
  | k + 1 => by
    rw[oh,oh,ql,ql]
    exact Vals.append h (Vals.rep h k)
theorem foldl_rep(its:List Value):∀(k:Nat) (acc:List Value),
    List.foldl (fun x1 x2=>x1++x2) acc.toArray (List.replicate k its.toArray)=(acc++(List.replicate k its).flatten).toArray
  |0,acc=>by simp
  | k + 1, acc => by
    have e:acc.toArray++its.toArray=(acc++its).toArray:=by simp
    have e2:(acc++its)++(List.replicate k its).flatten=acc++(List.replicate (k+1) its).flatten:=by
      rw[oh,ql,wM]
    rw[<-e2,<-foldl_rep its k (acc++its),<-e,oh,List.foldl_cons]
section
variable{X:Cx}{pins:List (Addr×Obj)}{σ:St}{H:Hp}{s:Shared}{l b:Addr}{xs ys zs:List V}
theorem Inv.GF{its its':List Value}{n:Nat}{f:Array Value->Array Value}{t':Nat}(I:Inv X pins σ H s)(hH:H l=some (.lst xs))
  (e:s.heap.get? l=some {cls:= .type "list",data:= .seq its.toArray n}) (hf:f its.toArray=its'.toArray) (hv:Vals ys its') (hz:ys.length<=sizeLine):
  Inv X pins σ (upd H l (.lst ys)) {s with heap:=s.heap.update l (Obj.mapSeq f),toks:=t'}:=by
 have q:=PySem.IsL.update e f
 rw[hf] at q
 refine I.write (x:=l) (e:=l) (by rw[hH];exact trivial) (.inl rfl) (fun b' u hb hu=>(kE s.heap (Obj.mapSeq f) (bu hb)).trans hu) ⟨_,q⟩ ?_
 exact⟨hz,its',_,hv,q⟩
theorem Inv.Dd{its:List Value}{t':Nat}(I:Inv X pins σ H s)(hv:Vals ys its)(hz:ys.length<=sizeLine):
  Inv X pins σ (upd H s.heap.objs.size (.lst ys)) {s with heap:=s.heap.push {cls:= .type "list",data:= .seq its.toArray},toks:=t'}:=
 I.laid (fun _ _ q=>bH _ q) (aS _) ⟨hz,its,0,hv,dX _ rfl⟩
theorem Inv.fresh(I:Inv X pins σ H s):H s.heap.objs.size=none:=I.hok.fresh (aS _)
theorem Inv.pT(I:Inv X pins σ H s)(hH:H l=some (.lst xs)):xs.length<=sizeLine/\∃(its:List Value) (n:Nat),Vals xs its/\xs.length=its.length/\s.heap.get? l=some {cls:= .type "list",data:= .seq its.toArray n}:=by
 obtain⟨z,its,n,r,e⟩:=I.hok l _ hH
 exact⟨z,its,n,r,r.length,e⟩
theorem J4{n:Nat}(h:n<=sizeLine):Builtin.List.listTooLong n=false:=by
 unfold Builtin.List.listTooLong
 exact decide_eq_false (by omega)
end
section
variable{X:Cx}
def G8:V->List V->Hp->VK->Prop:=fun x vs H Q=>∃l xs y,x= .ref l/\vs=[y]/\H l=some (.lst xs)/\xs.length<sizeLine/\Q .aE (upd H l (.lst (xs++[y])))
theorem uW:GC X "list.append" G8:=by
 intro pins s σ H x vs v us Q I rx rv h
 obtain⟨l,xs,y,rfl,rfl,hH,hz,q⟩:=h
 cases rx
 obtain⟨u,rfl,ru⟩:=rv.one
 obtain⟨z,its,n,r,hl,e⟩:=I.pT hH
 refine call_meets F.slot_list_append ⟨_,e,rfl⟩ F.entry_list_append (F.args_list_append_2 _ _) (PySem.list_append l its.toArray n u (by rw[cN];omega)) ⟨e,?_⟩
 refine⟨.aE,_,I.GF (its':=its++[u]) hH e (by simp) (r.append (.cons ru .nil)) ?_,rfl,q⟩
 rw[fF,lB]
 omega
def Rc:V->List V->Hp->VK->Prop:=fun x vs H Q=>∃l b xs zs,x= .ref l/\vs=[.ref b]/\H l=some (.lst xs)/\H b=some (.lst zs)/\xs.length+zs.length<=sizeLine/\Q .aE (upd H l (.lst (xs++zs)))
theorem XE:GC X "list.extend" Rc:=by
 intro pins s σ H x vs v us Q I rx rv h
 obtain⟨l,b,xs,zs,rfl,rfl,hH,hB,hz,q⟩:=h
 cases rx
 obtain⟨u,rfl,ru⟩:=rv.one
 cases ru
 obtain⟨z,its,n,r,hl,e⟩:=I.pT hH
 obtain⟨z2,its2,n2,r2,hl2,e2⟩:=I.pT hB
 have hsz:its.toArray.size+its2.toArray.size<=sizeLine:=by rw[cN,cN];omega
 have zC:¬(!its.toArray.isEmpty && Builtin.List.listTooLong (its.toArray.size+its2.toArray.size))=true:=by
  rw[J4 hsz,Bool.and_false]
  exact bV
 refine call_meets F.slot_list_extend ⟨_,e,rfl⟩ F.entry_list_extend (F.args_list_extend_2 _ _)
  (AutoSeq1.list_extend_list_list_0 l its.toArray n b its2.toArray n2 zC (by rw[cN];omega) (by omega)) ⟨e,e2,?_⟩
 refine⟨.aE,_,I.GF (its':=its++its2) hH e (by simp) (r.append r2) ?_,rfl,q⟩
 rw[fF]
 omega
def xK:R2:=fun x y H Q=>∃l b xs zs,x= .ref l/\y= .ref b/\H l=some (.lst xs)/\H b=some (.lst zs)/\xs.length+zs.length<=sizeLine/\∀p,H p=none->Q (.ref p) (upd H p (.lst (xs++zs)))
theorem rj:cU X (binaryOp .Add) xK:=by
 intro pins s σ H x y v u Q I rx ry h
 obtain⟨l,b,xs,zs,rfl,rfl,hH,hB,hz,q⟩:=h
 cases rx
 cases ry
 obtain⟨z,its,n,r,hl,e⟩:=I.pT hH
 obtain⟨z2,its2,n2,r2,hl2,e2⟩:=I.pT hB
 refine PySem.P.add_list e e2 ?_ (by rw[cN,cN];omega)
 have ea:its.toArray++its2.toArray=(its++its2).toArray:=by simp
 rw[ea]
 exact⟨.ref _,_,I.Dd (t':=s.toks) (r.append r2) (by rw[fF];omega),rfl,q _ I.fresh⟩
def yC:R2:=fun x y H Q=>∃l k xs,x= .ref l/\y= .int k/\H l=some (.lst xs)/\ -(2^63)<=k/\k<2^63/\xs.length*k.toNat<=sizeLine/\
 ∀p,H p=none->Q (.ref p) (upd H p (.lst (List.replicate k.toNat xs).flatten))
theorem len_rep{α:Type}(xs:List α)(k:Nat):(List.replicate k xs).flatten.length=k*xs.length:=by
 induction k with
 |zero=>simp
 |succ k ih=>rw[oh,ql,fF,ih,Nat.succ_mul,Nat.add_comm]
theorem DJ:cU X (binaryOp .Mult) yC:=by
 intro pins s σ H x y v u Q I rx ry h
 obtain⟨l,k,xs,rfl,rfl,hH,h1,h2,hz,q⟩:=h
 cases rx
 obtain⟨t,rfl⟩:=ry
 obtain⟨z,its,n,r,hl,e⟩:=I.pT hH
 have hlen:its.toArray.size*k.toNat<=sizeLine:=by rw[cN,<-hl];exact hz
 have hcap:¬its.toArray.size*k.toNat>(2^63-1)/8:=by
  have:(sizeLine:Nat)<=(2^63-1)/8:=by decide
  omega
 have hfit:¬(!Builtin.List.listFitsIndex k)=true:=by
  rw[fitsIndex_both h1 h2]
  exact bV
 have zC:¬Builtin.List.listTooLong (its.toArray.size*k.toNat)=true:=by
  rw[J4 hlen]
  exact bV
 have hnew:List.foldl (fun x1 x2=>x1++x2) #[] (List.replicate (if its.toArray.isEmpty=true then 0 else k.toNat) its.toArray)=(List.replicate k.toNat its).flatten.toArray:=by
  have f0:∀m:Nat,List.foldl (fun x1 x2=>x1++x2) #[] (List.replicate m its.toArray)=(List.replicate m its).flatten.toArray:=fun m=>by
   have:=foldl_rep its m []
   rw[List.nil_append] at this
   exact this
  rw[f0]
  cases its with
  |nil=>simp
  |cons a r'=>rw[if_neg (by simp)]
 refine wpAny_binaryOp_repeat_ref (T:="list") (U:="int") (by decide) ⟨_,e,rfl⟩ (fun s'=>typeIs_int s' k t) noFill_list_mul F.fills_int_mul F.slot_int_rmul repeat_list F.slot_int_index.lookup
  (call_meets F.slot_int_rmul (typeIs_int s k t) F.entry_int_rmul (F.args_int_rmul_2 _ _) (int___rmul___int_list k t l its.toArray n)
   ⟨e,rfl,⟨_,e,rfl⟩,call_meets F.slot_list_mul ⟨_,e,rfl⟩ F.entry_list_mul (F.args_list_mul_2 _ _) (AutoListH.list___mul___list_int_3 l its.toArray n k t hfit hcap zC) ⟨e,?_⟩⟩)
 rw[hnew]
 exact⟨.ref _,_,I.Dd (t':=s.toks) (r.rep k.toNat) (by rw[len_rep,mj];exact hz),rfl,q _ I.fresh⟩
end
end L2
namespace Att
open PySem PySem.W PySem.Calls PyProof.Rows
theorem S0{P:Params}{h:Heap}:∀(ns:List Int) (vs:List Value),WellAll P h vs (ns.map WData.int)->IntsAre vs ns:=by
  intro ns
  induction ns with
  | nil =>
    intro vs w
    rw[oq] at w
    cases w
    exact .nil
  | cons n ns ih =>
    intro vs w
    rw[bh] at w
    cases w with
    | cons a b =>
      cases a
      exact .cons _ _ (ih _ b)
theorem Lb{l:OpenLaw}{n:Nat}(hn:l.most=some n){P:Params}{h:Heap}{args:List WData}{vals:List Value}
    (hpre:l.row.toRowW.claim.pre args=true) (hwl:WellAll P h vals args):
    ∃a vs ns,vals=[Value.ref a]/\args=[WData.list (ns.map WData.int)]/\h.get? a=some {cls:= .type "list",data:= .seq vs.toArray}/\IntsAre vs ns/\ns.length<=n:=by
  have hsh:WShape.hasAll [] args [.list .int]=true:=(pre_splitW hpre).1
  have hc:l.pre.holds [] {args:=args}=true:=(pre_splitW hpre).2
  obtain⟨d,r,rfl,h1,h2⟩:=hasAllW_cons hsh
  obtain rfl:=hasAllW_nil h2
  obtain⟨xs,rfl,h3⟩:=hasW_list h1
  obtain⟨ns,rfl⟩:=items_int h3
  have hlen:ns.length<=n:=by
    unfold OpenLaw.pre at hc
    have h4:(WTm.not (.lt (.lit (.int (n:Int))) (.len (.arg 0)))).holds [] {args:=[.list (ns.map .int)]}=true:=by
      have h4:=(holds_andW hc).1
      rw[hn] at h4
      exact h4
    have h5:=condW_of h4 (w_not (w_lt w_lit (w_len_list (w_arg rfl))))
    rw[aj] at h5
    refine Bh fun q=>?_
    have q':(n:Int)<((ns.length:Nat):Int):=by omega
    first
      |(rw[decide_eq_true q'] at h5;exact absurd h5 (by decide))
      |(simp at h5;omega)
  cases hwl with
  | cons w1 w2 =>
    cases w2
    cases w1 with
    |list ho hall=>exact⟨_,_,ns,rfl,rfl,ho,S0 ns _ hall,hlen⟩
theorem T8(l:OpenLaw)(args:List WData):l.row.toRowW.claim.post args (.bool true) args=true:=
 postW_of (r:=l.row.toRowW) (X:=(true==true))
  (show WShape.has [] (.bool true) .bool=true by first|rfl|decide|simp[WShape.has,WShape.arms,WShape.armsAll])
  (show(WTm.eq .res (.lit (.bool true))).value [] {args:=args,res:=some (.bool true),after:=args}=some (.bool (true==true)) from w_eq_bool (w_res rfl) w_lit) rfl
theorem KA{l:OpenLaw}{n:Nat}{q:Program}{loose:List Str}{XP:(Str->Option Value)->Heap->Prop}{YP:World->Heap->Prop}{d:DefRec}
  (hn:l.most=some n) (hdf:d.params.defaults=[])
  (call : ∀ (w : World) (s₀ s₁ : Shared) (mg mb : Str -> Option Value) (fa : Addr) (o : Obj) (pm cd doc : Value) (a : Addr) (vs : List Value) (ns : List Int),
   Ground q loose [] XP w s₀ mg mb s₁.heap->YP w s₁.heap->
   s₁.heap.get? fa=some o->o.data= .func (docDef d.name d.params d.body d.scope pm cd doc)->s₁.heap.CodeRec cd d.name->mg d.name=some (.ref fa)->
   s₁.heap.get? a=some {cls:= .type "list",data:= .seq vs.toArray}->IntsAre vs ns->ns.length<=n->s₁.gens= #[]->
   codeAny (model l.prog w) callerA (.call (.ref fa) ⟨[.ref a],[]⟩) (fun r s'=>r= .ok (.ret (.bool true))/\OldK s₁.heap s'.heap/\s'.os=s₁.os/\AllBare s'.gens) s₁):
  WalkO q loose XP YP l.row.toRowW d [] (fun f vs=>PySem.call f vs):=by
 intro w s₀ s₁ mg mb G Y fa o pm cd doc dV kV ho hd hcd hD hmg hg args vals as hpre hlay hrd hwl hlo
 obtain rfl:dV= .none:=Dflts.none hD hdf
 obtain rfl:kV= .none:=Dflts.noKw hD
 obtain⟨a,vs,ns,rfl,rfl,hobj,hints,hlen⟩:=Lb hn hpre hwl
 refine enter_call (codeAny_mono (call w s₀ s₁ mg mb fa o pm cd doc a vs ns G Y ho (fd_plain hd) hcd hmg hobj hints hlen hg) fun r s' hq=>?_)
 obtain⟨rfl,h2,h3,h4⟩:=hq
 exact⟨.inl ⟨.bool true, .bool true,[],rfl,fun _=>rfl, .bool true,T8 l _,fun _=>⟨List.Pairwise.nil,fun _ hm=>(nomatch hm)⟩⟩,h2,h3,h4⟩
section
variable{prog:Program}{w:World}{A:Around}{E:Value->Shared->Prop}{s:Shared}{K:Frag}
def ledger(h:Heap)(L d:Addr):List (Addr×Obj):=(List.range h.objs.size).filterMap fun a=>if a=L\/a=d then none else(h.get? a).map fun o=>(a,o)
end
end Att
namespace L2
open PySem PySem.Spec PyProof.Rows
theorem JN:∀{vs:List Value} {ns:List Int},IntsAre vs ns->Vals (ns.map V.int) vs
 |_,_, .nil=> .nil
 |_,_, .cons n t h=> .cons ⟨t,rfl⟩ (JN h)
def zK(H:Hp):Prop:=∀b,H b=none\/∃o xs,H b=some (.bG o (.lst xs))
theorem Wr{P:Program}{w:World}{K:PySem.W.Frag}{mg mb:Str->Option Value}{CX:j3}{k:Nat}{fa a:Addr}{fd:FuncData}{x:Str}{sp:Sp}{s₁:Shared}{vs:List Value}{ns:List Int}
    (KX:K.In s₁.heap) (hns:s₁.heap.Ns mainGlobals mg) (hb:s₁.heap.Ns builtinsNs mb) (Dq:∀x:Str,x≠"__name__" ->mb x=bootBuiltins x) (hlim:s₁.heap.NoLimit) (hg:s₁.gens= #[])
    (ha:s₁.heap.get? a=some {cls:= .type "list",data:= .seq vs.toArray}) (hi:IntsAre vs ns) (hl:ns.length<=sizeLine) (hr:dz k callerA)
    (F:∀base:Heap,K.In base->base.Ns mainGlobals mg->bB P w K mg base CX k fa fd [x] sp) (hbind:∀(s:Shared) (u:Value),BindsTo s fd ⟨[u],[]⟩ [(x,u)])
    (iF:∀H:Hp,zK H->aQ K H a (ns.map V.int)->sp [.ref a] H (fun v _=>v= .bl true) fun _ _ _=>False)
    (xw:∀H e s',CX [] H s₁ (fun _ _ _=>False) e s'->False):
    codeAny (model P w) callerA (.call (.ref fa) ⟨[.ref a],[]⟩) (fun r s'=>r= .ok (.ret (.bool true))/\OldK s₁.heap s'.heap/\s'.os=s₁.os/\AllBare s'.gens) s₁:=by
  have rv:=JN hi
  have KP:=hi.length
  have core:∀H:Hp,zK H->aQ K H a (ns.map V.int)->cX P w H s₁.heap->(∀b,H b≠none->b=a)->(H a≠none->K.lookup a=none)->
      codeAny (model P w) callerA (.call (.ref fa) ⟨[.ref a],[]⟩) (fun r s'=>r= .ok (.ret (.bool true))/\OldK s₁.heap s'.heap/\s'.os=s₁.os/\AllBare s'.gens) s₁:=by
    intro H hO hS hok hA hK
    have Er:∀{b:Addr} {o:Obj},s₁.heap.get? b=some o->H b=none->(k8 s₁.heap H).get? b=some o:=fun e n=>Vz e n
    have sU:∀{b:Addr} {o:Obj} {es:Array DictEntry} {ep:Nat},s₁.heap.get? b=some o->o.data= .dict es ep->H b=none:=fun{b o es ep} e d=>by
      cases q:H b with
      |none=>rfl
      | some u =>
        have e':b=a:=hA b (by rw[q];simp)
        subst e'
        rw[ha] at e;cases e
        have d':Data.seq vs.toArray _=Data.dict es ep:=d
        cases d'
    have ur:∀{b:Addr} {m:Str->Option Value},s₁.heap.Ns b m->(k8 s₁.heap H).Ns b m:=fun{b m} ⟨o,es,ep,e,d,r⟩=>⟨o,es,ep,Er e (sU e d),d,r⟩
    have Kr:K.In (k8 s₁.heap H):=fun b o e=>Er (KX b o e) (by
      cases q:H b with
      |none=>rfl
      | some u =>
        have e':b=a:=hA b (by rw[q];simp)
        subst e'
        rw[hK (by rw[q];simp)] at e;cases e)
    have hM:Mod K mg (k8 s₁.heap H):=⟨Kr,ur hns,⟨mb,ur hb,Dq⟩,let ⟨mc,h1,h2⟩:=hlim;⟨mc,ur h1,h2⟩⟩
    have e0:n9 P w K mg (k8 s₁.heap H) callerA [] s₁ H:=⟨rfl,hM,fun b o e=>NL e,nN (WW _ _),trivial,fun b hb=>absurd (show b∈([]:List Addr) from hb) (by simp),hok, .of_eq hg⟩
    refine codeAny_mono ((F _ Kr (ur hns)).run callerA [] s₁ H ⟨[.ref a],[]⟩ [.ref a] [.ref a] _ _ hr e0 (hbind s₁ (.ref a)) (.cons rfl .nil) (iF H hO hS)) fun r s' h=>?_
    cases r with
    |error e=>exact(xw H e s' h).elim
    | ok fl =>
      cases fl with
      |next=>exact False.elim h
      |brk=>exact False.elim h
      |cont=>exact False.elim h
      | ret u =>
        obtain⟨v,H',os,bare,un,P5,r',q⟩:=h
        have q':v= .bl true:=q
        subst q'
        obtain rfl:u=Value.bool true:=r'
        refine⟨rfl,OldK.of_keep fun b o e=>?_,os,bare⟩
        cases q:H b with
        |none=>exact un.keep b o e q (by intro z;exact absurd (show b∈([]:List Addr) from z) (by simp)) (by simp)
        | some u =>
          rcases hO b with z|⟨ob,xs,z⟩
          · rw[q] at z;cases z
          · have z2:=un.jI b ob _ z
            obtain⟨e1,_⟩:=hok b _ z
            obtain⟨e2,_⟩:=P5 b _ z2
            rw[e] at e1;cases e1
            exact e2
  cases hk:K.lookup a with
  | some o =>
    have e:=KX a o hk
    rw[ha] at e
    cases e
    refine core (fun _=>none) (fun _=> .inl rfl) (.inr ⟨_,vs.toArray,_,hk,rfl,rfl,rfl,by rw[cN,KP];exact hl,by simpa using rv⟩) (fun b u z=>by have z':(none:Option HO)=some u:=z;cases z') (fun b z=>absurd rfl z) fun z=>absurd rfl z
  | none =>
    refine core (fun b=>if b=a then some (.bG {cls:= .type "list",data:= .seq vs.toArray} (.lst (ns.map V.int))) else none) (fun b=>?_) (.inl (.inr ⟨{cls:= .type "list",data:= .seq vs.toArray},if_pos rfl⟩)) (fun b u z=>?_) (fun b z=>?_) fun _=>hk
    · by_cases hb:b=a
      · exact .inr ⟨_,_,if_pos hb⟩
      · exact .inl (if_neg hb)
    · by_cases hb:b=a
      · have z':=(if_pos hb).symm.trans z
        cases z'
        subst hb
        exact⟨ha,by rw[aj];exact hl,vs,_,rv,ha⟩
      · have z':=(if_neg hb).symm.trans z
        cases z'
    · by_cases hb:b=a
      · exact hb
      · exact absurd (if_neg hb) z
theorem Of{l:PySem.W.OpenLaw}{n k:Nat}{q:Program}{loose:List Str}{XP:(Str->Option Value)->Heap->Prop}{YP:World->Heap->Prop}{d:DefRec}{K:Params->PySem.W.Frag}{CX:World->j3}{sp:World->Sp}{x:Str}
  (hn:l.most=some n) (hn2:n<=sizeLine) (hdf:d.params.defaults=[]) (hr:dz k callerA)
  (hY:∀(w:World) (h:Heap),YP w h->(K w.params).In h)
  (F : ∀ (w : World) (mg : Str -> Option Value) (fa : Addr) (h : Heap), (K w.params).In h -> h.Ns mainGlobals mg -> mg d.name = some (.ref fa) ->
   ∃fd:FuncData,(∀(s:Shared) (u:Value),BindsTo s fd ⟨[u],[]⟩ [(x,u)])/\
    ∀base:Heap,(K w.params).In base->base.Ns mainGlobals mg->bB l.prog w (K w.params) mg base (CX w) k fa fd [x] (sp w))
  (iF:∀(w:World) (H:Hp) (a:Addr) (ns:List Int),ns.length<=n->zK H->aQ (K w.params) H a (ns.map V.int)->sp w [.ref a] H (fun v _=>v= .bl true) fun _ _ _=>False)
  (xw:∀(w:World) (H:Hp) (s:Shared) (e:Value) (s':Shared),CX w [] H s (fun _ _ _=>False) e s'->False):
  PySem.W.WalkO q loose XP YP l.row.toRowW d [] (fun f vs=>PySem.call f vs):=by
 refine Att.KA hn hdf fun w s₀ s₁ mg mb fa o pm cd doc a vs ns G Y ho hd hcd hmg hobj hints hlen hg=>?_
 have KX:=hY w _ Y
 obtain⟨fd,hb,hF⟩:=F w mg fa _ KX G.T.g hmg
 exact Wr KX G.T.g G.T.b G.T.builtins G.T.nolimit hg hobj hints (dB hlen hn2) hr hF hb (fun H hO hS=>iF w H a ns hlen hO hS) fun H e s'=>xw w H s₁ e s'
end L2
/-THE LAST THEOREM (shape;LID,My.*are yours):
   My.Adr:a structure of the addresses that your layer names (classes,functions);My.Txt K t:a structure (Prop) of the equations over K;
   My.txt_mk:{K} {implicit addresses ..} (e1:nsIn K mainGlobals "law"=some (some (.ref f))) (e2:K.lookup f=some ⟨oc,od, .func (fnOf "law" "law" params body scope dV kV doc pm an cdv ct),sl⟩) (e3:codeIn K cdv "law"=true) .. :∃t,My.Txt K t
set_option maxRecDepth 100000 in
set_option maxHeartbeats 0 in
(the tactic k_is has no namespace:write k_is)-/
namespace L2
open PySem PySem.Spec PyProof.Rows
def inClass(s:Stmt)(j:Nat):Stmt:=match s with
 | .ClassDef _ _ _ body _ _ _ _ _ _ _=>body.getD j (.Pass ⟨0,0,0,0⟩)
 |_=> .Pass ⟨0,0,0,0⟩
def jJ(s:Stmt):Arguments:=match s with
 | .FunctionDef _ a _ _ _ _ _ _ _ _=>a
 |_=>{posonlyargs:=[],args:=[],vararg:=none,kwonlyargs:=[],kw_defaults:=[],kwarg:=none,defaults:=[]}
def jr(s:Stmt):List Stmt:=match s with
 | .FunctionDef _ _ b _ _ _ _ _ _ _=>b
 |_=>[]
def aJ(s:Stmt):Scope:=match s with
 | .FunctionDef _ _ _ _ _ _ sc _ _ _=>sc
 |_=>{kind:= .function,names:=[],isGenerator:=false,isCoroutine:=false}
abbrev bM:j3:=fun _ _ _ _ _ _=>False
abbrev E0:XK:=fun _ _ _=>False
theorem vV{X:Cx}:Passes bM X E0:=fun _ _ _ _ _ _ _ h=>h.elim
structure bP(K:PySem.W.Frag)(x qual:Str)(st:Stmt)(f:Addr)(fd:FuncData):Prop where
 ex:∃(oc:Value) (od:Option Addr) (kV doc pm:Value) (an:Option Addr) (cdv ct:Value) (osl:Array (Option Value)),
  fd=PySem.W.fnOf x qual (jJ st) (jr st) (aJ st) .none kV doc pm an cdv ct/\K.lookup f=some ⟨oc,od, .func fd,osl⟩/\PySem.W.codeIn K cdv qual=true
 kp:PySem.W.keepIn K (.ref f)=true
section
variable{P:Program}{w:World}{K:PySem.W.Frag}{mg:Str->Option Value}{base:Heap}
theorem bP.ok{x qual:Str}{st:Stmt}{f:Addr}{fd:FuncData}{N ps:List Str}{k:Nat}{sp:Sp}(F:bP K x qual st f fd)(S:bX N ps (aJ st))(len:∀vs H Q E,sp vs H Q E->vs.length=ps.length)
  (hbody : ∀ (cdv : Value) (A : Around) (outer : List Env) (s : Shared) (H : Hp) (vs : List V) (Q : VK) (E : XK), dz k (A.deeper (envOfC qual (aJ st) s.heap.objs.size f cdv)) -> sp vs H Q E ->
   ∃t,jd (o8 bM P w K mg base N qual (aJ st) f cdv A outer s H E).vm (jr st) t/\t {nx:=fun _ H'=>Q .aE H',rt:=Q} (start N vs) H):bB P w K mg base bM (k+1) f fd ps sp:=by
 obtain⟨oc,od,kV,doc,pm,an,cdv,ct,osl,rfl,lk,hcd⟩:=F.ex
 refine NU lk hcd S len fun A outer s H vs Q E hr iF=>?_
 obtain⟨t,h,q⟩:=hbody cdv A outer s H vs Q E hr iF
 exact⟨t,h.vm,q⟩
theorem bP.binds{x qual:Str}{st:Stmt}{f:Addr}{fd:FuncData}{ps:List Str}(F:bP K x qual st f fd)
  (h:∀(kV doc pm:Value) (an:Option Addr) (cdv ct:Value) (us:List Value),us.length=ps.length->bindArgs (PySem.W.fnOf x qual (jJ st) (jr st) (aJ st) .none kV doc pm an cdv ct) ⟨us,[]⟩=pure (ps.zip us)):Binds K fd ps []:=by
 obtain⟨oc,od,kV,doc,pm,an,cdv,ct,osl,rfl,lk,hcd⟩:=F.ex
 exact .all (h kV doc pm an cdv ct)
theorem p7{x qual:Str}{st:Stmt}{f:Addr}{oc:Value}{od an:Option Addr}{osl:Array (Option Value)}{kV doc pm cdv ct:Value}(l:K.lookup f=some ⟨oc,od, .func (PySem.W.fnOf x qual (jJ st) (jr st) (aJ st) .none kV doc pm an cdv ct),osl⟩)
  (c:PySem.W.codeIn K cdv qual=true) (k:PySem.W.keepIn K (.ref f)=true):bP K x qual st f (PySem.W.fnOf x qual (jJ st) (jr st) (aJ st) .none kV doc pm an cdv ct):=⟨⟨oc,od,kV,doc,pm,an,cdv,ct,osl,rfl,l,c⟩,k⟩
end
theorem Hf{n:Nat}(h:n<=1000):n<sizeLine:=A7 h (by decide)
section
variable{X:Cx}
theorem pv(i:Nat){x:Str}{pos:Pos}(hN:X.N[i]?=some x:=by rfl)(hv:yh X.env.scope x:=by first|exact Or.inl rfl|exact Or.inr (Or.inl rfl)|exact Or.inr (Or.inr rfl))(hd:(x==("__debug__":Str))=false:=by decide)
  (hcd:(x==("__classdict__":Str))=false:=by decide):PE X (.Name x pos) (fq i):=Me hN hv hd hcd
end
theorem FQ{A B:Prop}(h:B):if false=true then A else B:=by
 rw[if_neg bV]
 exact h
theorem tw{A B:Prop}(h:A):if true=true then A else B:=by
 rw[if_pos rfl]
 exact h
theorem pP{c A B:Prop}[Decidable c](h1:c->A)(h2:¬c->B):if c then A else B:=by
 by_cases h:c
 ·rw[if_pos h]
  exact h1 h
 ·rw[if_neg h]
  exact h2 h
def cE(H H':Hp):Prop:=∀b o,H b=some o->H' b=some o
theorem cE.refl(H:Hp):cE H H:=fun _ _ h=>h
theorem cE.trans{H H1 H2:Hp}(a:cE H H1)(b:cE H1 H2):cE H H2:=fun c o h=>b c o (a c o h)
theorem cE.free{H H':Hp}(e:cE H H'){l:Addr}(h:H' l=Option.none):H l=Option.none:=by
  cases q:H l with
  |none=>rfl
  | some o =>
    rw[e l o q] at h
    cases h
theorem cE.seq{K:PySem.W.Frag}{H H':Hp}{a:Addr}{xs:List V}(e:cE H H')(h:aQ K H a xs):aQ K H' a xs:=by
 rcases h with (h|⟨o,h⟩)|h
 ·exact .inl (.inl (e _ _ h))
 ·exact .inl (.inr ⟨o,e _ _ h⟩)
 ·exact .inr h
end L2
set_option maxHeartbeats 1000000
namespace L2
open PySem PySem.Spec PyProof.Rows
def iQ(cells:List (Str×Addr)):List (Str×NameKind)->List (Str×Addr)->List (Str×Addr)
 |[],acc=>acc
 |(n,k)::r,acc=>iQ cells r (if k==NameKind.free then(match cells.lookup n with|some a=>(n,a)::acc|none=>acc) else acc)
theorem yX{env:Env}{f:Str×NameKind->List (Str×Addr)->Sem (ForInStep (List (Str×Addr)))}
    (hf:∀x acc,f x acc=if(x.2==NameKind.free)=true then(do let a<-cellOf env x.1;pure (ForInStep.yield ((x.1,a)::acc))) else pure (ForInStep.yield acc)):
    ∀(l:List (Str×NameKind)) (acc:List (Str×Addr)),(∀x∈l,x.2= .free->∃a,env.cells.lookup x.1=some a)->(forIn l acc f:Sem (List (Str×Addr)))=pure (iQ env.cells l acc)
  |[],acc,_=>by rw[List.forIn_nil];rfl
  | (n, k) :: r, acc, h => by
    have hr:=fun x hx=>h x (bJ _ hx)
    rw[List.forIn_cons,hf]
    by_cases hk:(k==NameKind.free)=true
    · have hk':k=NameKind.free:=by simpa using hk
      obtain⟨a,ha⟩:=h (n,k) ck hk'
      have hc:cellOf env n=pure a:=by unfold cellOf;rw[ha]
      rw[if_pos hk,hc]
      show(forIn r ((n,a)::acc) f:Sem (List (Str×Addr)))=pure (iQ env.cells r _)
      rw[yX hf r _ hr,if_pos hk,ha]
    · rw[if_neg hk]
      show(forIn r acc f:Sem (List (Str×Addr)))=pure (iQ env.cells r _)
      rw[yX hf r _ hr,if_neg hk]
theorem RX{scope:Scope}{env:Env}(h:∀x∈scope.names,x.2= .free->∃a,env.cells.lookup x.1=some a):closureFor scope env=pure (iQ env.cells scope.names []):=by
 simp only[closureFor]
 rw[yX (env:=env) (fun⟨n,k⟩ acc=>by dsimp only) scope.names [] h]
 rfl
theorem Ag{cells:List (Str×Addr)}:∀{l:List (Str×NameKind)} {acc:List (Str×Addr)} {x:Str} {c:Addr},(∀y d,acc.lookup y=some d->cells.lookup y=some d)->(iQ cells l acc).lookup x=some c->cells.lookup x=some c
  |[],_,_,_,ha,h=>ha _ _ h
  | (n, k) :: r, acc, x, c, ha, h => by
    refine Ag (l:=r) ?_ h
    intro y d hd
    by_cases hk:(k==NameKind.free)=true
    · rw[if_pos hk] at hd
      cases q:cells.lookup n with
      |none=>rw[q] at hd;exact ha _ _ hd
      | some a =>
        rw[q] at hd
        by_cases hy:(y==n)=true
        · have hy':y=n:=by simpa using hy
          subst hy'
          simp[dR] at hd
          rw[q,hd]
        · have hy':(y==n)=false:=by simpa using hy
          simp only[dR,hy'] at hd
          exact ha _ _ hd
    · rw[if_neg hk] at hd;exact ha _ _ hd
theorem E3{cells:List (Str×Addr)}:∀{l:List (Str×NameKind)} {acc:List (Str×Addr)} {x:Str},(acc.lookup x).isSome=true->((iQ cells l acc).lookup x).isSome=true
  |[],_,_,h=>h
  | (n, k) :: r, acc, x, h => by
    refine E3 (l:=r) ?_
    by_cases hk:(k==NameKind.free)=true
    · rw[if_pos hk]
      cases q:cells.lookup n with
      |none=>exact h
      | some a =>
        by_cases hy:(x==n)=true
        · simp[dR,hy]
        · have hy':(x==n)=false:=by simpa using hy
          simp only[dR,hy']
          exact h
    · rw[if_neg hk];exact h
theorem G5{cells:List (Str×Addr)}:∀{l:List (Str×NameKind)} {acc:List (Str×Addr)} {x:Str} {a:Addr},(x,NameKind.free)∈l->cells.lookup x=some a->((iQ cells l acc).lookup x).isSome=true
  |[],_,_,_,h,_=>nomatch h
  | (n, k) :: r, acc, x, a, h, hc => by
    rcases aP.mp h with e|h
    · obtain⟨rfl,rfl⟩:=ue e
      refine E3 (l:=r) ?_
      rw[if_pos (by decide),hc]
      simp[dR]
    · exact G5 (l:=r) h hc
theorem Iu{cells:List (Str×Addr)}{l:List (Str×NameKind)}{x:Str}{a:Addr}(h:(x,NameKind.free)∈l)(hc:cells.lookup x=some a):(iQ cells l []).lookup x=some a:=by
 obtain⟨c,e⟩:=IB.mp (G5 (acc:=[]) h hc)
 have:=Ag (fun y d (q:([]:List (Str×Addr)).lookup y=some d)=>by simp at q) e
 rw[hc] at this;cases this
 exact e
theorem yr{env:Env}:∀{l:List (Str×NameKind)} {x:Str} {k:NameKind},(∀y∈l,y.2≠ .cell)->
    (l.map fun(n,k)=>if(k==NameKind.free && env.scope.kind== .function && env.kindOf n==some .cell) then(n,NameKind.cell) else(n,k)).lookup x=some k->k= .cell\/k= .free->l.lookup x=some .free
  |[],_,_,_,h,_=>by simp at h
  | (n, q) :: r, x, k, hc, h, hk => by
    have hr:=fun y hy=>hc y (bJ _ hy)
    have ih:=yr (env:=env) (l:=r) (x:=x) (k:=k) hr
    rw[bh] at h
    dsimp only at h
    by_cases hx:(x==n)=true
    · simp only[dR,hx]
      by_cases hq:(q==NameKind.free && env.scope.kind== .function && env.kindOf n==some .cell)=true
      · have:q= .free:=by
          simp only[er] at hq
          simpa using hq.1.1
        rw[this]
      · rw[if_neg hq] at h
        simp only[dR,hx] at h
        have Im:q=k:=fR h
        rcases hk with e|e
        · exact absurd (Im.trans e) (hc (n,q) ck)
        · rw[Im,e]
    · have hx':(x==n)=false:=by simpa using hx
      simp only[dR,hx']
      refine ih ?_ hk
      by_cases hq:(q==NameKind.free && env.scope.kind== .function && env.kindOf n==some .cell)=true
      · rw[if_pos hq] at h
        simp only[dR,hx'] at h
        exact h
      · rw[if_neg hq] at h
        simp only[dR,hx'] at h
        exact h
theorem GU{env:Env}:∀{l:List (Str×NameKind)} {x:Str},l.lookup x=some .free->
    (l.map fun(n,k)=>if(k==NameKind.free && env.scope.kind== .function && env.kindOf n==some .cell) then(n,NameKind.cell) else(n,k)).lookup x=some .cell\/
    (l.map fun(n,k)=>if(k==NameKind.free && env.scope.kind== .function && env.kindOf n==some .cell) then(n,NameKind.cell) else(n,k)).lookup x=some .free
  |[],_,h=>by simp at h
  | (n, q) :: r, x, h => by
    have ih:=GU (env:=env) (l:=r) (x:=x)
    rw[bh]
    dsimp only
    by_cases hx:(x==n)=true
    · simp only[dR,hx] at h
      by_cases hq:(q==NameKind.free && env.scope.kind== .function && env.kindOf n==some .cell)=true
      · rw[if_pos hq]
        left
        simp only[dR,hx]
      · rw[if_neg hq]
        right
        simp only[dR,hx]
        exact h
    · have hx':(x==n)=false:=by simpa using hx
      simp only[dR,hx'] at h
      have:=ih h
      by_cases hq:(q==NameKind.free && env.scope.kind== .function && env.kindOf n==some .cell)=true
      · rw[if_pos hq]
        simp only[dR,hx']
        exact this
      · rw[if_neg hq]
        simp only[dR,hx']
        exact this
def cW(sx:Scope)(NX:List Str)(scope:Scope)(N:List Str)(mp:List (Option Nat)):Bool:=
 (scope.kind== .function) && scope.names.all (fun y=>y.2 != .cell) && scope.names.all (fun y=>y.2 != .local||scope.names.lookup y.1==some .local) &&
 scope.names.all (fun y=>y.2 != .free||sx.names.lookup y.1==some .cell||sx.names.lookup y.1==some .free) &&(mp.length==N.length) &&
 ((N.zip mp).all fun p=>match p.2 with|none=>true|some j=>NX[j]?==some p.1 && scope.names.lookup p.1==some .free)
structure bS(sx:Scope)(NX:List Str)(scope:Scope)(N:List Str)(mp:List (Option Nat)):Prop where
 kind:scope.kind= .function
 cell:∀y∈scope.names,y.2≠ .cell
 names:∀y∈scope.names,y.2= .local->scope.names.lookup y.1=some .local
 free:∀y∈scope.names,y.2= .free->sx.names.lookup y.1=some .cell\/sx.names.lookup y.1=some .free
 len:mp.length=N.length
 look:∀(i j:Nat) (x:Str),mp[i]?=some (some j)->N[i]?=some x->NX[j]?=some x/\scope.names.lookup x=some .free
theorem bS.of{sx:Scope}{NX:List Str}{scope:Scope}{N:List Str}{mp:List (Option Nat)}(h:cW sx NX scope N mp=true):bS sx NX scope N mp:=by
 unfold cW at h
 simp only[er,jz] at h
 obtain⟨⟨⟨⟨⟨h1,h2⟩,h3⟩,h4⟩,h5⟩,h6⟩:=h
 refine⟨by simpa using h1,fun y hy=>by simpa using h2 y hy,fun y hy e=>?_,fun y hy e=>?_,by simpa using h5,fun i j x e1 e2=>?_⟩
 ·have:=h3 y hy
  simpa[e] using this
 ·have:=h4 y hy
  simpa[e] using this
 ·have hm:(x,some j)∈N.zip mp:=by
   have:(N.zip mp)[i]?=some (x,some j):=by
    rw[List.getElem?_zip_eq_some];exact⟨e2,e1⟩
   exact bD this
  have:=h6 _ hm
  simpa using this
def ef(mp:List (Option Nat))(σ:St):St:=mp.map fun o=>match o with|none=>none|some j=>match σ[j]? with|some v=>v|none=>none
def eu(X:Cx)(scope:Scope)(C:Addr)(N:List Str)(s₀:Shared)(H₀:Hp)(fp:List Addr):Cx:=
 {X with N:=N,s₀:=s₀,H₀:=H₀,env:=compEnvC scope (iQ X.env.cells scope.names []) C X.env,outer:=X.stack,ex:=fp,fn:=fun _=>false,pn:=[],xe:=fun _ _=>False}
def oV(X:Cx)(ifs:List Expr)(t:TT):Prop:=
 ∀(pins:List (Addr×Obj)) (s:Shared) (σ:St) (H:Hp) (Q:Bool->Hp->Prop),Inv X pins σ H s->t σ H Q->
  wpAny (model X.prog X.w) X.A (forIn ifs true fun c r=>if r=true then do let ok<-isTrue c X.env (eval c X.env);pure (ForInStep.yield ok) else pure (ForInStep.yield r)) (TP X pins σ Q) X.xe s
def rK:TT:=fun _ H Q=>Q true H
theorem eG{X:Cx}:oV X [] rK:=fun pins s σ H Q I h=>wpAny_tests_nil ⟨H,I,h⟩
theorem oN{X:Cx}{c:Expr}{t:TT}(h:PT X c t):oV X [c] t:=fun pins s σ H Q I q=>wpAny_tests_one (h pins s σ H Q I q)
def mO(J:It)(g:TG)(tc:TT)(te:TE)(acc:Addr)(Qe:Hp->Prop)(σ:St)(H:Hp):Prop:=∃W:Nat->Nat->St->Hp->Prop,(∃m,W 0 m σ H)/\∀i m σ H,W i m σ H->
 (J.stop i H /\ Qe H) \/ (J.go i H /\ ∃ Nx : St -> Hp -> Prop, (∀ σ' H', Nx σ' H' -> ∃ m', m' < m /\ W (i + 1) m' σ' H') /\ ∀ x H', J.k7 i H x H' -> g x σ H' fun σ2 H2 => tc σ2 H2 fun b H3 =>
  if b=true then te σ2 H3 fun v H4=>∃ys,H4 acc=some (.lst ys)/\ys.length<sizeLine/\Nx σ2 (upd H4 acc (.lst (ys++[v]))) else Nx σ2 H3)
def jG(wi:TI)(g:TG)(tc:TT)(te:TE)(mp:List (Option Nat)):TE:=fun σ H Q=>wi σ H fun J H1=>∀acc,H1 acc=none->mO J g tc te acc (fun H'=>Q (.ref acc) H') (ef mp σ) (upd H1 acc (.lst []))
section
variable{prog:Program}{w:World}{A:Around}{R:Result->Shared->Prop}{s:Shared}
theorem Qn{elt target iter:Expr}{ifs:List Expr}{scope:Scope}{pos:Pos}{it acc:Value}{env:Env}(I:Nat->Shared->Prop)
    (turn:∀n s,I n s->wpAny (model prog w) A (pyNext it) (fun r s₁=>match r with
      |none=>R (.ok .next) s₁
      |some v=>wpAny (model prog w) A (letOwnedTupleGo target it v) (fun _ s₀=>wpAny (model prog w) A (assign target env v) (fun _ s₂=>
          wpAny (model prog w) A (forIn ifs true fun c r=>if r=true then do let ok<-isTrue c env (eval c env);pure (ForInStep.yield ok) else pure (ForInStep.yield r)) (fun ok s₃=>
            if ok=true then wpAny (model prog w) A (eval elt env) (fun x s₄=>
              wpAny (model prog w) A (call (.builtin "list.append") [acc,x]) (fun _ s₅=>∃m,m<n/\I m s₅) (fun _ _=>False) s₄) (fun _ _=>False) s₃
            else∃m,m<n/\I m s₃) (fun _ _=>False) s₂) (fun _ _=>False) s₀) (fun _ _=>False) s₁) (fun _ _=>False) s)
    (n:Nat) (h:I n s):
    codeAny (model prog w) A (.compLoop (.ListComp elt [⟨target,iter,ifs,0⟩] scope pos) 0 it acc env) R s:=by
  refine codeAny_loop rfl I (fun n s hI=>?_) n h
  show wpAny _ A ((compTurn (.ListComp elt [⟨target,iter,ifs,0⟩] scope pos) 0 it acc env).onRaise (fun x=>do noteFrame x env;theTreesLotGoes x)) _ _ s
  refine wpAny_noted ?_
  rw[compTurn_list]
  refine wpAny_bind (wpAny_standAt (wpAny_bind (wpAny_mono (turn n s hI) (fun r s₁ h₁=>?_) fun _ _ h'=>h'.elim)))
  cases r with
  |none=>exact wpAny_pure h₁
  | some v =>
    refine wpAny_bind (wpAny_mono h₁ (fun _ s₀ h₀=>?_) fun _ _ h'=>h'.elim)
    refine wpAny_bind (wpAny_mono h₀ (fun _ s₂ h₂=>wpAny_bind (wpAny_mono h₂ (fun ok s₃ h₃=>?_) fun _ _ h'=>h'.elim)) fun _ _ h'=>h'.elim)
    cases ok with
    |false=>exact wpAny_pure ⟨rfl,h₃⟩
    | true =>
      exact wpAny_bind (wpAny_bind (wpAny_mono h₃ (fun x s₄ h₄=>wpAny_bind (wpAny_mono h₄ (fun _ s₅ h₅=>wpAny_pure (wpAny_pure ⟨rfl,h₅⟩)) fun _ _ h'=>h'.elim)) fun _ _ h'=>h'.elim))
end
section
variable{X:Cx}
theorem E2{elt iter tg:Expr}{ifs:List Expr}{scope:Scope}{pos pos':Pos}{N:List Str}{mp:List (Option Nat)}{wi:TI}{g:TG}{tc:TT}{te:TE}{use:Option (Value->Sem Unit)}
    {pins:List (Addr×Obj)} {s:Shared} {σ:St} {H:Hp} {Q:VK} {QQ:Value->Shared->Prop}
    (ok:bS X.env.scope X.N scope N mp) (hc:X.calm=true) (hi:PI X tg iter wi)
    (hb:∀C s₀ H₀ fp,PG (eu X scope C N s₀ H₀ fp) tg g/\oV (eu X scope C N s₀ H₀ fp) ifs tc/\PE (eu X scope C N s₀ H₀ fp) elt te)
    (hs:∀x,foldedSetIterable iter X.env x=pure x) (I:Inv X pins σ H s) (h:jG wi g tc te mp σ H Q)
    (fin:∀acc C H' s' m,Inv X pins σ H' s'->gF X pins H' C->s'.heap.Ns C m->Q (.ref acc) H'->compPost (model X.prog X.w) X.A X.xe use QQ (.ref acc) C (.ok .next) s'):
    wpAny (model X.prog X.w) X.A (comprehension (.ListComp elt [⟨tg,iter,ifs,0⟩] scope pos) scope X.env pos' (newList []) false (eval iter X.env) use) QQ X.xe s:=by
  have hfree:∀x∈scope.names,x.2= .free->∃a,X.env.cells.lookup x.1=some a:=fun x hx e=>I.ok.has x.1 (ok.free x hx e)
  refine wpAny_comprehension_free (use:=use) rfl hs (RX hfree) ok.kind ok.names (aK (hi pins s σ H _ I h) fun v s1 h1=>aK h1 fun itv s2 h2=>?_)
  obtain⟨it,fp,tn,J,H2,e,I2,T,st2,f2,hW⟩:=h2
  subst e
  refine wpAny_newObj_type (wpAny_newFunctionEnv ok.cell (by intro y hy;simp at hy) (fun h₁ zo yt=>?_) ok.kind)
  dsimp only at zo yt⊢
  have I3:=I2.Dd (its:=[]) (ys:=[]) (t':=s2.toks) .nil (eU _)
  have hW:=hW s2.heap.objs.size I2.fresh
  obtain⟨W,⟨m0,w0⟩,turn⟩:=hW
  generalize Cc:s2.heap.push {cls:= .type "list",dict:=none,data:= .seq ([]:List Value).toArray}=HP at zo yt⊢
  have I3:Inv X pins σ (upd H2 s2.heap.objs.size (.lst [])) {s2 with heap:=HP}:=by rw[<-Cc];exact I3
  generalize Ou:upd H2 s2.heap.objs.size (.lst [])=H3 at I3 w0
  have hC:HP.objs.size=s2.heap.objs.size+1:=by rw[<-Cc,jW]
  have old:∀b o,HP.get? b=some o->h₁.get? b=some o:=fun b o e=>yt.extBut b o (cG (bw e)) (bH _ e)
  have kH:∀b∈fp,b<s2.heap.objs.size:=fun b hb=>by
    obtain⟨o,e,_⟩:=T.obj 0 _ st2 b hb
    exact bw e
  have SV:∀b∈fp,H3 b=none:=fun b hb=>by
    rw[<-Ou,aA (cG (kH b hb))]
    exact(f2 b hb).1
  have sN:∀{x:Str} {c:Addr},(iQ X.env.cells scope.names []).lookup x=some c->X.env.cells.lookup x=some c:=fun{x c} e=>Ag (fun y d q=>by simp at q) e
  have uo:(eu X scope HP.objs.size N {s2 with heap:=HP} H3 fp).Ok:=by
    refine⟨I2.ok.mod,ok.kind,I2.ok.glob,I2.ok.blt,aS _,fun x y c e1 e2=>I2.ok.inj x y c (sN e1) (sN e2),fun x hx=>?_,(fun x c e=>absurd (show false=true from e) (by decide)),I2.ok.hd,I2.ok.frames, .inl rfl,fun b hb=>?_,I3.bs,dB I3.ok.lV I3.sz,fun b o e hb=>?_,fun b hb hz=>?_,I3.stack,I3.Hz⟩
    · have hx':scope.names.lookup x=some .free:=by
        rcases hx with hx|hx
        · exact yr ok.cell hx (.inl rfl)
        · exact yr ok.cell hx (.inr rfl)
      have hm:=oE hx'
      obtain⟨a,ha⟩:=hfree _ hm rfl
      exact⟨a,Iu hm ha⟩
    · refine⟨fun z=>?_,fun x c e=>(f2 b hb).2.2.2.2.1 x c (sN e)⟩
      have z':b=HP.objs.size:=z
      have q:=kH b hb
      rw[z',hC] at q
      exact absurd q (Nat.not_lt.mpr (pS _))
    · rcases(f2 b hb).2.2.2.1 with z|z
      · exact I2.ok.sf b o e z
      · exact absurd (eg (bw (I2.ok.bs b o e).1) z) (iG _)
    · rcases aP.mp (I2.Br b hz) with z|z
      · exact(f2 b hb).2.1 z
      · exact(f2 b hb).2.2.1 z
  have IY:Inv (eu X scope HP.objs.size N {s2 with heap:=HP} H3 fp) [] (ef mp σ) H3 {s2 with heap:=h₁,toks:=s2.toks+([]:List (Str×Value)).length}:=by
    refine⟨uo,rfl,I2.bare,Un.kept old,⟨_,zo,fun i x v e1 e2 e3=>?_⟩,fun x c e=>?_,I3.hok.fresh (aS _),fun x c e=>I3.i8 x c (sN e),fun p hp=>absurd (show p∈([]:List (Addr×Obj)) from hp) (by simp),I3.hok.kept old,?_⟩
    · have hj:∃j,mp[i]?=some (some j)/\σ[j]?=some (some v):=by
        unfold ef at e2
        rw[bx] at e2
        cases q:mp[i]? with
        |none=>rw[q] at e2;cases e2
        | some o =>
          rw[q] at e2
          cases o with
          |none=>cases e2
          | some j =>
            refine⟨j,rfl,?_⟩
            have e2:(match σ[j]? with|some v=>v|none=>none)=some v:=fR e2
            cases r:σ[j]? with
            |none=>rw[r] at e2;cases e2
            | some u =>
              rw[r] at e2
              have e2:u=some v:=e2
              rw[e2]
      obtain⟨j,hj1,hj2⟩:=hj
      obtain⟨l1,l2⟩:=ok.look i j x hj1 e1
      have hm:=oE l2
      have kx:=ok.free _ hm rfl
      obtain⟨mm,_,hl⟩:=I3.loc
      obtain⟨u,ru,lk⟩:=hl j x v l1 hj2 (kx.elim (fun z=> .inr (.inl z)) fun z=> .inr (.inr z))
      refine⟨u,ru, .inr ⟨GU l2,?_⟩⟩
      rcases lk with ⟨k,_⟩|⟨_,c,e,z⟩
      · exfalso
        have k':X.env.scope.names.lookup x=some .local:=k
        rcases kx with kx|kx
        · rw[k'] at kx;cases kx
        · rw[k'] at kx;cases kx
      · refine⟨c,Iu hm e,?_⟩
        obtain⟨o,ho,hd⟩:=z
        exact⟨o,old c o ho,hd⟩
    · obtain⟨v,o,ho,hd⟩:=I3.cell x c (sN e)
      exact⟨v,o,old c o ho,hd⟩
    · show(ef mp σ).length=N.length
      unfold ef
      rw[aj,ok.len]
  have mG:∀{H':Hp},(∀b∈fp,H' b=none)->∀b∈fp,gF (eu X scope HP.objs.size N {s2 with heap:=HP} H3 fp) [] H' b:=fun{H'} hn b hb=>
    ⟨hn b hb,(uo.wm b hb).1,uo.sD b hb, .inl hb,(uo.wm b hb).2,fun p hp=>absurd (show p∈([]:List (Addr×Obj)) from hp) (by simp)⟩
  have Ii:tn 0 h₁:=T.keep 0 _ _ st2 fun b hb o e=>old b o (by rw[<-Cc];exact bH _ e)
  have loop:codeAny (model X.prog X.w) X.A (.compLoop (.ListComp elt [⟨tg,iter,ifs,0⟩] scope pos) 0 (.ref it) (.ref s2.heap.objs.size) (compEnvC scope (iQ X.env.cells scope.names []) HP.objs.size X.env))
      (compPost (model X.prog X.w) X.A X.xe use QQ (.ref s2.heap.objs.size) HP.objs.size) {s2 with heap:=h₁,toks:=s2.toks+([]:List (Str×Value)).length}:=by
    obtain⟨hg,ht,he⟩:=hb HP.objs.size {s2 with heap:=HP} H3 fp
    generalize hY:eu X scope HP.objs.size N {s2 with heap:=HP} H3 fp=Y at hg ht he IY mG
    have yp:Y.prog=X.prog:=by rw[<-hY];rfl
    have yw:Y.w=X.w:=by rw[<-hY];rfl
    have yK:Y.K=X.K:=by rw[<-hY];rfl
    have yA:Y.A=X.A:=by rw[<-hY];rfl
    have yc:Y.calm=true:=by rw[<-hY];exact hc
    have yx:Y.xe=fun _ _=>False:=by rw[<-hY];rfl
    have IA:Y.env=compEnvC scope (iQ X.env.cells scope.names []) HP.objs.size X.env:=by rw[<-hY];rfl
    rw[<-IA]
    refine Qn (fun n s'=>∃i σ' H',Inv Y [] σ' H' s'/\tn i s'.heap/\(∀b∈fp,H' b=none)/\W i n σ' H') ?_ m0 ⟨0,_,H3,IY,Ii,SV,w0⟩
    rintro n s3 ⟨i,σ3,H4,I4,st3,fr3,w3⟩
    rcases turn i n σ3 H4 w3 with ⟨stop,qn⟩|⟨go,Nx,hN,step⟩
    · have q0:=T.done Y yp yw yK yc i [] s3 σ3 H4 (fun _ _=>False) I4 (mG fr3) st3 stop
      rw[yA] at q0
      refine aK q0 fun r s4 ⟨hr,I5⟩=>?_
      subst hr
      show compPost (model X.prog X.w) X.A X.xe use QQ (.ref s2.heap.objs.size) HP.objs.size (.ok .next) s4
      obtain⟨m,hm,_⟩:=id I5.loc
      have yl:Y.env.locals=HP.objs.size:=by rw[IA];rfl
      rw[yl] at hm
      have fC:H4 HP.objs.size=none:=by have:=I5.free;rw[yl] at this;exact this
      have ub:=I5.base
      have ub':Un (frs X.stack) fp H3 H4 HP s4.heap:=by rw[<-hY] at ub;exact ub
      have hos:s4.os=s2.os:=by have:=I5.os;rw[<-hY] at this;exact this
      have NK:cX X.prog X.w H4 s4.heap:=by have:=I5.hok;rw[yp,yw] at this;exact this
      have IX:Inv X pins σ H4 s4:=I3.Lp (ch:=fp) hos ub' NK I5.bare fun b hb=>⟨(f2 b hb).2.2.2.1,(f2 b hb).2.1,(f2 b hb).2.2.2.2.1,(f2 b hb).2.2.2.2.2⟩
      exact fin _ _ H4 s4 m IX (I3.nO (aS _) fC) hm qn
    · have q0:=T.item Y yp yw yK yc i [] s3 σ3 H4 (fun _ _=>False) I4 (mG fr3) st3 go
      rw[yA] at q0
      refine aK q0 fun r s4 ⟨u,hr,h4⟩=>?_
      subst hr
      refine aK h4 fun _ s5 ⟨x,H5,I5,r5,y5,kT,CU⟩=>?_
      have yV:=I5.pinned (mG CU) (T.obj _ _ kT)
      rw[<-yx,<-yp,<-yw,<-yA]
      refine aK (hg _ s5 σ3 H5 x u _ yV r5 (step x H5 y5)) fun _ s6 ⟨rJ,H6,I6,q6⟩=>?_
      refine aK (ht _ s6 rJ H6 _ I6 q6) fun b s7 ⟨H7,I7,q7⟩=>?_
      have again:∀{qP:St} {H8:Hp} {s8:Shared},Inv Y ([]++qg fp s5.heap) qP H8 s8->Nx qP H8->∃m,m<n/\∃i σ' H',Inv Y [] σ' H' s8/\tn i s8.heap/\(∀b∈fp,H' b=none)/\W i m σ' H':=fun{qP H8 s8} I8 n8=>by
        obtain⟨m',hm,w8⟩:=hN qP H8 n8
        refine⟨m',hm,i+1,qP,H8,I8.vM,T.keep _ _ _ kT fun b hb o e=>(I8.pin (b,o) (iY _ (iY _ (t8 hb e)))).1,fun b hb=>?_,w8⟩
        obtain⟨o,e,d⟩:=T.obj _ _ kT b hb
        exact(I8.pin (b,o) (iY _ (iY _ (t8 hb e)))).2.1
      cases b with
      | false =>
        rw[if_neg bV]
        rw[if_neg bV] at q7
        exact again I7 q7
      | true =>
        rw[if_pos rfl]
        rw[if_pos rfl] at q7
        refine aK (he _ s7 rJ H7 _ I7 q7) fun v s8 ⟨y,H8,I8,r8,ys,e8,z8,n8⟩=>?_
        refine aK (uW _ s8 rJ H8 (.ref s2.heap.objs.size) [y] (.ref s2.heap.objs.size) [v] (fun _ H9=>H9=upd H8 s2.heap.objs.size (.lst (ys++[y]))) I8 rfl (.cons r8 .nil) ⟨_,ys,y,rfl,rfl,e8,z8,rfl⟩) fun v9 s9 ⟨y9,H9,I9,r9,e9⟩=>?_
        subst e9
        exact again I9 n8
  refine codeAny_compStart_list loop (T.self _ _ _ _ _ Ii loop)
theorem gF.turned{pins:List (Addr×Obj)}{s:Shared}{σ:St}{H:Hp}{C:Addr}{h':Heap}(I:Inv X pins σ H s)(f:gF X pins H C)(hs:Heap.SameBut C s.heap h'):Inv X pins σ H {s with heap:=h'}:=
 I.turned (t':=s.toks) (fun b o hb e=>(hs.2 b hb).trans e) f.1 f.2.1 f.2.2.2.1 f.2.2.2.2.1 f.2.2.2.2.2
theorem dH{elt iter tg:Expr}{ifs:List Expr}{scope:Scope}{pos:Pos}{N:List Str}{mp:List (Option Nat)}{wi:TI}{g:TG}{tc:TT}{te:TE}
  (ok:bS X.env.scope X.N scope N mp) (hi:PI X tg iter wi)
  (hb:∀C s₀ H₀ fp,PG (eu X scope C N s₀ H₀ fp) tg g/\oV (eu X scope C N s₀ H₀ fp) ifs tc/\PE (eu X scope C N s₀ H₀ fp) elt te) (hc:X.calm=true:=by rfl)
  (hs:∀x,foldedSetIterable iter X.env x=pure x:=by intro _;rfl):PE X (.ListComp elt [⟨tg,iter,ifs,0⟩] scope pos) (jG wi g tc te mp):=by
 intro pins s σ H Q I h
 rw[eval_ListComp]
 refine E2 (use:=none) ok hc hi hb hs I h fun acc C H' s' m I' f hn q=>?_
 exact⟨m,hn,fun h' hs'=>⟨.ref acc,H',f.turned I' hs',rfl,q⟩⟩
def tR(i:Nat)(t:TE):TS:=fun D σ H=>t σ H fun v H'=>D.nx (σ.set i (some v)) H'
theorem Cm{elt iter tg:Expr}{ifs:List Expr}{scope:Scope}{pos spos py:Pos}{N:List Str}{mp:List (Option Nat)}{wi:TI}{g:TG}{tc:TT}{te:TE}{i:Nat}{y:Str}
  (hN:X.N.Nodup) (hy:X.N[i]?=some y) (hk:X.env.kindOf y=some .local)
  (ok:bS X.env.scope X.N scope N mp) (hi:PI X tg iter wi)
  (hb:∀C s₀ H₀ fp,PG (eu X scope C N s₀ H₀ fp) tg g/\oV (eu X scope C N s₀ H₀ fp) ifs tc/\PE (eu X scope C N s₀ H₀ fp) elt te) (hc:X.calm=true:=by rfl)
  (hsw:swapsWith (.ListComp elt [⟨tg,iter,ifs,0⟩] scope pos) (some (.Name y py)) spos.line X.env=pure true:=by rfl)
  (hs:∀x,foldedSetIterable iter X.env x=pure x:=by intro _;rfl):PS X (.Assign [.Name y py] (.ListComp elt [⟨tg,iter,ifs,0⟩] scope pos) spos) (tR i (jG wi g tc te mp)):=by
 intro pins s σ H D I h
 rw[exec_Assign_Name_used _ _ _ _ hsw]
 refine wpAny_bind (wpAny_standAt (wpAny_bind ?_))
 show wpAny _ X.A (do let _<-comprehension (.ListComp elt [⟨tg,iter,ifs,0⟩] scope pos) scope X.env _ (newList []) false (eval iter X.env) (some (assign (.Name y py) X.env))) _ _ s
 refine wpAny_bind (wpAny_mono (E2 (use:=some (assign (.Name y py) X.env)) (QQ:=fun _ s'=>SP X pins D .next s') ok hc hi hb hs I h fun acc C H' s' m I' f hn q=>?_) (fun _ s' hq=>wpAny_pure (wpAny_pure hq)) fun _ _ e=>e)
 refine wpAny_assign_Name (GW (v:= .ref acc) I' hN hy (.inl hk) rfl (fun s2 I2 ⟨a,sb,ha⟩=>?_) (.inr hk))
 have hne:C≠a:=by
  rcases ha with z|z
  ·rw[z];exact f.2.1
  ·exact fun e=>f.2.2.2.2.1 y a z e.symm
 exact⟨m,hn.sameBut sb hne,fun h' hs'=>⟨_,H',f.turned I2 hs',q⟩⟩
end
def Sm(i:Int):Prop:= -(2^300)<i/\i<2^300
theorem xy{i:Int}(h:Sm i):Builtin.Int.intBits i<=2^20:=by
 obtain⟨h1,h2⟩:=h
 unfold Builtin.Int.intBits
 split
 ·exact eU _
 ·rename_i h0
  have hn:i.natAbs≠0:=by
   intro e
   apply h0
   simp
   omega
  have h3:i.natAbs<2^300:=by omega
  have h4:i.natAbs.log2<300:=(Nat.log2_lt hn).mpr h3
  have:(2:Nat)^20=1048576:=by decide
  omega
theorem VT{x y:Int}(h:Sm y):Builtin.divisionGoesByPylong x y=false:=by
 refine PyProof.noPylong_of_log2 ?_
 obtain⟨h1,h2⟩:=h
 by_cases h0:y.natAbs=0
 ·rw[h0];decide+kernel
 ·have h3:y.natAbs<2^300:=by omega
  have h4:y.natAbs.log2<300:=(Nat.log2_lt h0).mpr h3
  omega
section
variable{X:Cx}
theorem qJ:cU X (binaryOp .FloorDiv) (rI (fun _ j=>0<j/\Sm j) fun i j=> .int (i/j)):=vO fun i j _ _ _ _ _ hc q=>
 floordiv_int (by omega) (by rw[Int.fdiv_eq_ediv_of_nonneg _ (by omega)];exact q) (.inl (VT hc.2))
theorem Nc:qO X "int.bit_length" (fun x xs H Q=>∃i,x= .int i/\xs=[]/\Q (.int (Builtin.Int.intBits i)) H):=by
 intro pins s σ H x xs v us Q I rx rv h
 obtain⟨i,rfl,rfl,q⟩:=h
 obtain⟨t,rfl⟩:=rx
 cases rv
 exact call_int_bit_length ⟨.int _,H,I.tok _,⟨_,rfl⟩,q⟩
def gE(K:PySem.W.Frag):List V->Hp->VK->Prop:=fun xs H Q=>∃x T t b,xs=[x, .ty T]/\g6 K H x t/\PySem.W.kitOne K t (.type T)=some b/\Q (.bl b) H
theorem jc:eS X (.builtin "isinstance") (gE X.K):=by
 intro pins s σ H xs us Q I rv h
 obtain⟨x,T,t,b,rfl,ty,e,q⟩:=h
 obtain⟨u,v,rfl,ru,rv⟩:=rv.two
 cases (show v=Value.type T from rv)
 exact OW I ru ty e fun tk=>⟨.bl b,H,I.tok tk,rfl,q⟩
def EJ:PyData->Key->Prop
 | .int i,k=>k= .inl i
 | .str x,k=>k= .inr x
 |_,_=>False
mutual
def ai(nb:Addr->Prop)(H:Hp):PyData->V->Prop
 | .none,v=>v= .aE
 | .bool b,v=>v= .bl b
 | .int i,v=>v= .int i
 | .str x,v=>v= .str x
 | .list ds,v=>∃a xs,v= .ref a/\¬nb a/\H a=some (.lst xs)/\af nb H ds xs
 | .tuple ds,v=>∃a xs,v= .ref a/\¬nb a/\H a=some (.tup xs)/\af nb H ds xs
 | .dict kvs,v=>∃a ps,v= .ref a/\¬nb a/\Rd H a (.dK ps)/\aq nb H kvs ps
termination_by structural d=>d
def af(nb:Addr->Prop)(H:Hp):List PyData->List V->Prop
 |[],xs=>xs=[]
 |d::ds,xs=>∃y ys,xs=y::ys/\ai nb H d y/\af nb H ds ys
termination_by structural d=>d
def aq(nb:Addr->Prop)(H:Hp):List (PyData×PyData)->List (Key×V)->Prop
 |[],xs=>xs=[]
 |d::ds,xs=>∃p ys,xs=p::ys/\cg nb H d p/\aq nb H ds ys
termination_by structural d=>d
def cg(nb:Addr->Prop)(H:Hp):PyData×PyData->Key×V->Prop
 |(k,d),p=>EJ k p.1/\ai nb H d p.2
termination_by structural d=>d
end
def bq(nb:Addr->Prop)(H H':Hp):Prop:=∀a o,¬nb a->H a=some o->H' a=some o
def Nb(b:Addr):Addr->Prop:=fun a=>a=b
section
variable{nb bC:Addr->Prop}{H H1 H2 H':Hp}{a b c p:Addr}{o:HO}{xs:List V}
theorem bq.refl(nb:Addr->Prop)(H:Hp):bq nb H H:=fun _ _ _ h=>h
theorem bq.trans(x:bq nb H H1)(y:bq nb H1 H2):bq nb H H2:=fun a o n h=>y a o n (x a o n h)
theorem bq.of(x:cE H H'):bq nb H H':=fun a o _ h=>x a o h
theorem bq.set(h:nb p):bq nb H (upd H p o):=fun a u n q=>by rw[aA (fun e=>n (by rw[e];exact h))];exact q
theorem bq.rd{u:HO}(x:bq nb H H')(n:¬nb a)(h:Rd H a u):Rd H' a u:=by
 rcases h with h|⟨o,h⟩
 ·exact .inl (x _ _ n h)
 ·exact .inr ⟨o,x _ _ n h⟩
end
mutual
theorem ai.keep{nb:Addr->Prop}{H H':Hp}(x:bq nb H H'):∀{d:PyData} {v:V},ai nb H d v->ai nb H' d v
 | .none,_,h=>by unfold ai at h⊢;exact h
 | .bool _,_,h=>by unfold ai at h⊢;exact h
 | .int _,_,h=>by unfold ai at h⊢;exact h
 | .str _,_,h=>by unfold ai at h⊢;exact h
 | .list ds,_,h=>by unfold ai at h⊢;obtain⟨a,xs,e,n,s,r⟩:=h;exact⟨a,xs,e,n,x _ _ n s,af.keep x r⟩
 | .tuple ds,_,h=>by unfold ai at h⊢;obtain⟨a,xs,e,n,s,r⟩:=h;exact⟨a,xs,e,n,x _ _ n s,af.keep x r⟩
 | .dict kvs,_,h=>by unfold ai at h⊢;obtain⟨a,xs,e,n,s,r⟩:=h;exact⟨a,xs,e,n,x.rd n s,aq.keep x r⟩
theorem af.keep{nb:Addr->Prop}{H H':Hp}(x:bq nb H H'):∀{ds:List PyData} {vs:List V},af nb H ds vs->af nb H' ds vs
 |[],_,h=>by unfold af at h⊢;exact h
 |d::ds,_,h=>by unfold af at h⊢;obtain⟨y,ys,e,h1,h2⟩:=h;exact⟨y,ys,e,ai.keep x h1,af.keep x h2⟩
theorem aq.keep{nb:Addr->Prop}{H H':Hp}(x:bq nb H H'):∀{ds:List (PyData×PyData)} {vs:List (Key×V)},aq nb H ds vs->aq nb H' ds vs
 |[],_,h=>by unfold aq at h⊢;exact h
 |d::ds,_,h=>by unfold aq at h⊢;obtain⟨y,ys,e,h1,h2⟩:=h;exact⟨y,ys,e,cg.keep x h1,aq.keep x h2⟩
theorem cg.keep{nb:Addr->Prop}{H H':Hp}(x:bq nb H H'):∀{d:PyData×PyData} {v:Key×V},cg nb H d v->cg nb H' d v
 |(k,d),_,h=>by unfold cg at h⊢;exact⟨h.1,ai.keep x h.2⟩
end
mutual
theorem ai.av{nb bC:Addr->Prop}{H:Hp}(x:∀a,bC a->nb a):∀{d:PyData} {v:V},ai nb H d v->ai bC H d v
 | .none,_,h=>by unfold ai at h⊢;exact h
 | .bool _,_,h=>by unfold ai at h⊢;exact h
 | .int _,_,h=>by unfold ai at h⊢;exact h
 | .str _,_,h=>by unfold ai at h⊢;exact h
 | .list ds,_,h=>by unfold ai at h⊢;obtain⟨a,xs,e,n,s,r⟩:=h;exact⟨a,xs,e,fun z=>n (x a z),s,af.av x r⟩
 | .tuple ds,_,h=>by unfold ai at h⊢;obtain⟨a,xs,e,n,s,r⟩:=h;exact⟨a,xs,e,fun z=>n (x a z),s,af.av x r⟩
 | .dict kvs,_,h=>by unfold ai at h⊢;obtain⟨a,xs,e,n,s,r⟩:=h;exact⟨a,xs,e,fun z=>n (x a z),s,aq.av x r⟩
theorem af.av{nb bC:Addr->Prop}{H:Hp}(x:∀a,bC a->nb a):∀{ds:List PyData} {vs:List V},af nb H ds vs->af bC H ds vs
 |[],_,h=>by unfold af at h⊢;exact h
 |d::ds,_,h=>by unfold af at h⊢;obtain⟨y,ys,e,h1,h2⟩:=h;exact⟨y,ys,e,ai.av x h1,af.av x h2⟩
theorem aq.av{nb bC:Addr->Prop}{H:Hp}(x:∀a,bC a->nb a):∀{ds:List (PyData×PyData)} {vs:List (Key×V)},aq nb H ds vs->aq bC H ds vs
 |[],_,h=>by unfold aq at h⊢;exact h
 |d::ds,_,h=>by unfold aq at h⊢;obtain⟨y,ys,e,h1,h2⟩:=h;exact⟨y,ys,e,cg.av x h1,aq.av x h2⟩
theorem cg.av{nb bC:Addr->Prop}{H:Hp}(x:∀a,bC a->nb a):∀{d:PyData×PyData} {v:Key×V},cg nb H d v->cg bC H d v
 |(k,d),_,h=>by unfold cg at h⊢;exact⟨h.1,ai.av x h.2⟩
end
mutual
theorem ai.fresh{nb:Addr->Prop}{H:Hp}{p:Addr}(hp:H p=none):∀{d:PyData} {v:V},ai nb H d v->ai (fun a=>nb a\/a=p) H d v
 | .none,_,h=>by unfold ai at h⊢;exact h
 | .bool _,_,h=>by unfold ai at h⊢;exact h
 | .int _,_,h=>by unfold ai at h⊢;exact h
 | .str _,_,h=>by unfold ai at h⊢;exact h
 | .list ds,_,h=>by unfold ai at h⊢;obtain⟨a,xs,e,n,s,r⟩:=h;exact⟨a,xs,e,fun z=>z.elim n (gH s hp),s,af.fresh hp r⟩
 | .tuple ds,_,h=>by unfold ai at h⊢;obtain⟨a,xs,e,n,s,r⟩:=h;exact⟨a,xs,e,fun z=>z.elim n (gH s hp),s,af.fresh hp r⟩
 | .dict kvs,_,h=>by unfold ai at h⊢;obtain⟨a,xs,e,n,s,r⟩:=h;exact⟨a,xs,e,fun z=>z.elim n (s.elim (fun s=>gH s hp) fun⟨_,s⟩=>gH s hp),s,aq.fresh hp r⟩
theorem af.fresh{nb:Addr->Prop}{H:Hp}{p:Addr}(hp:H p=none):∀{ds:List PyData} {vs:List V},af nb H ds vs->af (fun a=>nb a\/a=p) H ds vs
 |[],_,h=>by unfold af at h⊢;exact h
 |d::ds,_,h=>by unfold af at h⊢;obtain⟨y,ys,e,h1,h2⟩:=h;exact⟨y,ys,e,ai.fresh hp h1,af.fresh hp h2⟩
theorem aq.fresh{nb:Addr->Prop}{H:Hp}{p:Addr}(hp:H p=none):∀{ds:List (PyData×PyData)} {vs:List (Key×V)},aq nb H ds vs->aq (fun a=>nb a\/a=p) H ds vs
 |[],_,h=>by unfold aq at h⊢;exact h
 |d::ds,_,h=>by unfold aq at h⊢;obtain⟨y,ys,e,h1,h2⟩:=h;exact⟨y,ys,e,cg.fresh hp h1,aq.fresh hp h2⟩
theorem cg.fresh{nb:Addr->Prop}{H:Hp}{p:Addr}(hp:H p=none):∀{d:PyData×PyData} {v:Key×V},cg nb H d v->cg (fun a=>nb a\/a=p) H d v
 |(k,d),_,h=>by unfold cg at h⊢;exact⟨h.1,ai.fresh hp h.2⟩
end
mutual
theorem ai.reads{pins:List (Addr×Obj)}{σ:St}{H:Hp}{s:Shared}{nb:Addr->Prop}(I:Inv X pins σ H s):∀{d:PyData} {v:V} {u:Value},ai nb H d v->RelV v u->d.canLay0=true->∃as,Reads s.heap u d as
  | .none,_,_,h,r,_=>by unfold ai at h;subst h;cases r;exact⟨_, .none⟩
  | .bool _,_,_,h,r,_=>by unfold ai at h;subst h;cases r;exact⟨_, .bool _⟩
  | .int _,_,_,h,r,_=>by unfold ai at h;subst h;obtain⟨t,rfl⟩:=r;exact⟨_, .int _ _⟩
  | .str _,_,_,h,r,_=>by unfold ai at h;subst h;obtain⟨t,rfl⟩:=r;exact⟨_, .str _ _⟩
  | .list ds, _, _, h, r, hc0 => by
    unfold ai at h
    obtain⟨a,xs,rfl,n,s,q⟩:=h
    cases r
    obtain⟨its,rv,p,hz⟩:=I.list (aQ.of s)
    obtain⟨as,ra⟩:=af.reads I q rv (by simpa only[PyData.canLay0] using hc0)
    obtain⟨o,ho,hc,m,hd⟩:=p.isList
    exact⟨_, .list ho hc hd (by simpa using ra)⟩
  | .tuple ds, _, _, h, r, hc0 => by
    unfold ai at h
    obtain⟨a,xs,rfl,n,s,q⟩:=h
    cases r
    obtain⟨its,rv,p,hz⟩:=I.tuple (fQ.of s)
    obtain⟨as,ra⟩:=af.reads I q rv (by simpa only[PyData.canLay0] using hc0)
    obtain⟨o,ho,hc,m,hd⟩:=p
    exact⟨_, .tuple ho hc hd (by simpa using ra)⟩
  | .dict _,_,_,h,r,hc0=>by simp[PyData.canLay0] at hc0
theorem af.reads{pins:List (Addr×Obj)}{σ:St}{H:Hp}{s:Shared}{nb:Addr->Prop}(I:Inv X pins σ H s):∀{ds:List PyData} {vs:List V} {us:List Value},af nb H ds vs->Vals vs us->PyData.canLayAll0 ds=true->∃as,ReadsAll s.heap us ds as
  |[],_,_,h,r,_=>by unfold af at h;subst h;cases r;exact⟨_, .nil⟩
  | d :: ds, _, _, h, r, hc0 => by
    rw[PyData.canLayAll0,er] at hc0
    unfold af at h
    obtain⟨y,ys,rfl,h1,h2⟩:=h
    cases r with
    | cons r1 r2 =>
      obtain⟨as,q1⟩:=ai.reads I h1 r1 hc0.1
      obtain⟨bs,q2⟩:=af.reads I h2 r2 hc0.2
      exact⟨_, .cons q1 q2⟩
end
def yN(neg:Bool):R2:=fun x y H Q=>∃nb d e,ai nb H d x/\ai nb H e y/\SeqAt.shaped d=true/\SeqAt.shaped e=true/\Q (.bl (PyData.eqv d e !=neg)) H
theorem B5(hu:X.A.units+64<cLine):cU X (compareOp .Eq) (yN false):=by
 intro pins s σ H x y v u Q I rx ry h
 obtain⟨nb,d,e,h1,h2,h3,h4,q⟩:=h
 obtain⟨as,r1⟩:=h1.reads I rx (nG h3)
 obtain⟨bs,r2⟩:=h2.reads I ry (nG h4)
 exact eq_dataH r1 r2 h3 h4 hu ⟨.bl _,H,I,rfl,by simpa using q⟩
theorem BK(hu:X.A.units+64<cLine):cU X (compareOp .NotEq) (yN true):=by
 intro pins s σ H x y v u Q I rx ry h
 obtain⟨nb,d,e,h1,h2,h3,h4,q⟩:=h
 obtain⟨as,r1⟩:=h1.reads I rx (nG h3)
 obtain⟨bs,r2⟩:=h2.reads I ry (nG h4)
 exact ne_dataH r1 r2 h3 h4 hu ⟨.bl _,H,I,rfl,by simpa using q⟩
end
mutual
theorem eqv_refl:∀d:PyData,SeqAt.shaped d=true\/d.canLay0=true->PyData.eqv d d=true
  | .none,_=>by simp[PyData.eqv]
  | .bool _,_=>by simp[PyData.eqv]
  | .int _,_=>by simp[PyData.eqv]
  | .str _,_=>by simp[PyData.eqv]
  | .list ds, h => by
    have h':PyData.canLayAll0 ds=true:=by
      rcases h with h|h
      · have:=nG h;simpa[PyData.canLay0] using this
      · simpa[PyData.canLay0] using h
    simp only[PyData.eqv]
    exact eqvAll_refl ds h'
  | .tuple ds, h => by
    have h':PyData.canLayAll0 ds=true:=by
      rcases h with h|h
      · have:=nG h;simpa[PyData.canLay0] using this
      · simpa[PyData.canLay0] using h
    simp only[PyData.eqv]
    exact eqvAll_refl ds h'
  | .dict _, h => by
    rcases h with h|h
    · have:=nG h;simp[PyData.canLay0] at this
    · simp[PyData.canLay0] at h
theorem eqvAll_refl:∀ds:List PyData,PyData.canLayAll0 ds=true->PyData.eqvAll ds ds=true
  |[],_=>by simp[PyData.eqvAll]
  | d :: ds, h => by
    simp only[PyData.canLayAll0,er] at h
    simp only[PyData.eqvAll,er]
    exact⟨eqv_refl d (.inr h.1),eqvAll_refl ds h.2⟩
end
structure Callee(P:Program)(w:World)(K:PySem.W.Frag)(mg:Str->Option Value)(base:Heap)(x:Str)(k:Nat)(ps:List Str)(sp:Sp):Prop where
 ex:∃f fd,bB P w K mg base bM k f fd ps sp/\Binds K fd ps []/\PySem.W.keepIn K (.ref f)=true/\mg x=some (.ref f)
theorem aY{X:Cx}{x:Str}{k:Nat}{ps:List Str}{sp:Sp}{p pos:Pos}{e:Expr}{es:List Expr}{t:TA}(c:Callee X.prog X.w X.K X.mg X.base x k ps sp)(hr:dz k X.A)(ha:PA X (e::es) t)(hg:Gl X x:=by rfl)
  (hdb:(x==("__debug__":Str))=false:=by decide) (he:starEach (e::es) X.env=(false,eval e X.env)::starEach es X.env:=by rfl) (hpl:(backTo pos (starEach es X.env)).any (·.1)=false:=by rfl):
  PE X (.Call (.Name x p) (e::es) [] pos) (i9 sp [] E0 t):=by
 obtain⟨f,fd,F,b,kp,m⟩:=c.ex
 exact NZ F hr hg m kp b .nil vV ha hdb he hpl
theorem Callee.mk'{P:Program}{w:World}{K:PySem.W.Frag}{mg:Str->Option Value}{base:Heap}{x:Str}{st:Stmt}{k:Nat}{ps:List Str}{sp:Sp}{f:Addr}{fd:FuncData}(F:bP K x x st f fd)(ok:bB P w K mg base bM k f fd ps sp)(b:Binds K fd ps [])
  (m:mg x=some (.ref f)):Callee P w K mg base x k ps sp:=⟨f,fd,ok,b,F.kp,m⟩
def aX(K:PySem.W.Frag)(x q:Str)(st:Stmt)(f:Addr):Prop:=PySem.W.nsIn K mainGlobals x=some (some (.ref f))/\∃fd,bP K x q st f fd
theorem aX.mk{K:PySem.W.Frag}{x q:Str}{st:Stmt}{f:Addr}{oc:Value}{od an:Option Addr}{osl:Array (Option Value)}{kV doc pm cdv ct:Value}(a:PySem.W.nsIn K mainGlobals x=some (some (.ref f)))(l:K.lookup f=some ⟨oc,od, .func (PySem.W.fnOf x q (jJ st) (jr st) (aJ st) .none kV doc pm an cdv ct),osl⟩)
  (c:PySem.W.codeIn K cdv q=true) (k:PySem.W.keepIn K (.ref f)=true):aX K x q st f:=⟨a,_,p7 l c k⟩
end L2
set_option maxRecDepth 100000
set_option maxHeartbeats 1000000
namespace L2
open PySem PySem.Spec PyProof.Rows
section
variable{X:Cx}
theorem iD:cU X (binaryOp .Mult) (rI (fun i j=>tK i j\/(Sm i/\Sm j)) fun i j=> .int (i*j)):=vO fun _ _ _ _ _ _ _ hc q=>mul_int q (by
 rcases hc with hc|hc
 ·exact hc.ok
 ·exact IntMulOk.of_bits (xy hc.1) (xy hc.2))
end
def cY(H:Hp)(b l:Addr):Prop:=∃(ns:List Int) (i c st n:Int),H b=some (.lst [.ref l, .int i, .int c, .int st, .int n])/\H l=some (.lst (ns.map V.int))/\
 (∀x∈ns,0<=x/\x<10^60)/\ns.length<=63/\0<=i/\0<=c/\c<10^60/\0<=st/\st<2147483647
theorem Ip{H:Hp}{b l:Addr}{ns:List Int}{i c st n:V}(h:H b=some (.lst [.ref l,i,c,st,n]))(h':H l=some (.lst (ns.map V.int))):l≠b:=by
 intro e
 subst e
 rw[h] at h'
 have e:=HO.lst.inj (fR h')
 cases ns with
 |nil=>cases e
 |cons x r=>rw[bh] at e;cases (wK e).1
theorem cY.put{H:Hp}{b l:Addr}{ns:List Int}{i c st n:Int}(hl:l≠b)(h':H l=some (.lst (ns.map V.int)))(h1:∀x∈ns,0<=x/\x<10^60)(h2:ns.length<=63)
  (h3:0<=i) (h4:0<=c) (h5:c<10^60) (h6:0<=st) (h7:st<2147483647):cY (upd H b (.lst [.ref l, .int i, .int c, .int st, .int n])) b l:=
 ⟨ns,i,c,st,n,aR,by rw[aA hl];exact h',h1,h2,h3,h4,h5,h6,h7⟩
theorem cY.put2{H:Hp}{b l p:Addr}{o:HO}(h:cY H b l)(hp:p≠b/\p≠l):cY (upd H p o) b l:=by
 obtain⟨ns,i,c,st,n,h1,h2,r⟩:=h
 exact⟨ns,i,c,st,n,by rw[aA (bu hp.1)];exact h1,by rw[aA (bu hp.2)];exact h2,r⟩
theorem cY.same{H H':Hp}{b l:Addr}(h:cY H b l)(s:cE H H'):cY H' b l:=by
 obtain⟨ns,i,c,st,n,h1,h2,r⟩:=h
 exact⟨ns,i,c,st,n,s _ _ h1,s _ _ h2,r⟩
def lI:Sp:=fun vs H Q _=>∃(b l:Addr) (many:Int),vs=[.ref b, .int many]/\cY H b l/\0<many/\Sm many/\∀(r:Int) (H':Hp),0<=r->r<many->bq (Nb b) H H'->cY H' b l->Q (.int r) H'
def DM(K:PySem.W.Frag):Sp:=fun vs H Q _=>∃(a:Addr) (ns:List Int),vs=[.ref a]/\aQ K H a (ns.map V.int)/\ns.length<=63/\∀(b l:Addr) (H':Hp),cE H H'->H b=none->cY H' b l->Q (.ref b) H'
theorem gK{α:Type}{xs:List α}{i:Int}{v:α}(h0:0<=i)(h:xs[i.toNat]?=some v):bL xs i=some v:=by
 have e:i=((i.toNat:Nat):Int):=by omega
 rw[e]
 exact Ox h
theorem bQ{H:Hp}{p:Addr}{o:HO}(h:H p=none):cE H (upd H p o):=fun b u q=>by rw[aA (gH q h)];exact q
section
variable{nb:Addr->Prop}{H H':Hp}
theorem af.length:∀{ds:List PyData} {xs:List V},af nb H ds xs->xs.length=ds.length
 |[],_,h=>by unfold af at h;subst h;rfl
 |d::ds,_,h=>by unfold af at h;obtain⟨y,ys,rfl,_,h2⟩:=h;simp[af.length h2]
theorem af.get:∀{ds:List PyData} {xs:List V} {i:Nat} {d:PyData},af nb H ds xs->ds[i]?=some d->∃x,xs[i]?=some x/\ai nb H d x
 |[],_,_,_,_,e=>by simp at e
 |d::ds,_,0,_,h,e=>by unfold af at h;obtain⟨y,ys,rfl,h1,h2⟩:=h;simp at e;subst e;exact⟨y,rfl,h1⟩
 |d::ds,_,i+1,_,h,e=>by unfold af at h;obtain⟨y,ys,rfl,h1,h2⟩:=h;simpa using af.get (i:=i) h2 (by simpa using e)
theorem af.snoc{d:PyData}{x:V}(hd:ai nb H d x):∀{ds:List PyData} {xs:List V},af nb H ds xs->af nb H (ds++[d]) (xs++[x])
 |[],_,h=>by unfold af at h;subst h;unfold af;exact⟨x,[],rfl,hd,by unfold af;rfl⟩
 |e::ds,_,h=>by unfold af at h;obtain⟨y,ys,rfl,h1,h2⟩:=h;show af nb H (e::(ds++[d])) _;unfold af;exact⟨y,ys++[x],rfl,h1,af.snoc hd h2⟩
theorem af.append:∀{ds es:List PyData} {xs ys:List V},af nb H ds xs->af nb H es ys->af nb H (ds++es) (xs++ys)
 |[],_,_,_,h,h'=>by unfold af at h;subst h;exact h'
 |e::ds,es,_,zs,h,h'=>by unfold af at h;obtain⟨y,ys,rfl,h1,h2⟩:=h;show af nb H (e::(ds++es)) _;unfold af;exact⟨y,ys++zs,rfl,h1,af.append h2 h'⟩
theorem af.take:∀{ds:List PyData} {xs:List V} (n:Nat),af nb H ds xs->af nb H (ds.take n) (xs.take n)
 |_,_,0,_=>by simp only[List.take_zero];unfold af;rfl
 |[],_,n+1,h=>by unfold af at h;subst h;simp only[List.take_nil];unfold af;rfl
 |d::ds,_,n+1,h=>by unfold af at h;obtain⟨y,ys,rfl,h1,h2⟩:=h;simp only[List.take_succ_cons];unfold af;exact⟨y,_,rfl,h1,af.take n h2⟩
theorem af.drop:∀{ds:List PyData} {xs:List V} (n:Nat),af nb H ds xs->af nb H (ds.drop n) (xs.drop n)
 |_,_,0,h=>h
 |[],_,n+1,h=>by unfold af at h;subst h;simp only[List.drop_nil];unfold af;rfl
 |d::ds,_,n+1,h=>by unfold af at h;obtain⟨y,ys,rfl,h1,h2⟩:=h;simp only[List.drop_succ_cons];exact af.drop n h2
theorem af.nil:af nb H [] []:=by unfold af;rfl
theorem af.cons{d:PyData}{x:V}{ds:List PyData}{xs:List V}(h1:ai nb H d x)(h2:af nb H ds xs):af nb H (d::ds) (x::xs):=by unfold af;exact⟨x,xs,rfl,h1,h2⟩
theorem ai.int(i:Int):ai nb H (.int i) (.int i):=by unfold ai;rfl
theorem ai.aE:ai nb H .none .aE:=by unfold ai;rfl
theorem ai.bl(b:Bool):ai nb H (.bool b) (.bl b):=by unfold ai;rfl
theorem ai.lst{a:Addr}{ds:List PyData}{xs:List V}(n:¬nb a)(h:H a=some (.lst xs))(hd:af nb H ds xs):ai nb H (.list ds) (.ref a):=by unfold ai;exact⟨a,xs,rfl,n,h,hd⟩
theorem ai.tup{a:Addr}{ds:List PyData}{xs:List V}(n:¬nb a)(h:H a=some (.tup xs))(hd:af nb H ds xs):ai nb H (.tuple ds) (.ref a):=by unfold ai;exact⟨a,xs,rfl,n,h,hd⟩
theorem ai.cQ{v:V}{ds:List PyData}(h:ai nb H (.list ds) v):∃a xs,v= .ref a/\¬nb a/\H a=some (.lst xs)/\af nb H ds xs:=by unfold ai at h;exact h
theorem ai.ofT{v:V}{ds:List PyData}(h:ai nb H (.tuple ds) v):∃a xs,v= .ref a/\¬nb a/\H a=some (.tup xs)/\af nb H ds xs:=by unfold ai at h;exact h
theorem ai.bZ{v:V}{i:Int}(h:ai nb H (.int i) v):v= .int i:=by unfold ai at h;exact h
theorem ai.vL{v:V}(h:ai nb H .none v):v= .aE:=by unfold ai at h;exact h
end
def yG:Sp:=fun vs H Q _=>∃i:Int,vs=[.int i]/\Q (.bl true) H
def vA(K:PySem.W.Frag):Sp:=fun vs H Q _=>∃(a:Addr) (ns:List Int),vs=[.ref a]/\aQ K H a (ns.map V.int)/\ns.length<=63/\∀H',Q (.bl true) H'
end L2
set_option maxRecDepth 100000
set_option maxHeartbeats 1000000
namespace L2
open PySem PySem.Spec PyProof.Rows
def Dy(Q:VK):List V->Hp->Prop:=fun xs H1=>xs.length<=sizeLine/\∀p,H1 p=none->Q (.ref p) (upd H1 p (.lst xs))
def jT(K:PySem.W.Frag):List V->Hp->VK->Prop:=fun xs H Q=>∃p ys,xs=[.ref p]/\(aQ K H p ys\/fQ K H p ys)/\∀l,H l=none->Q (.ref l) (upd H l (.lst ys))
theorem l8{X:Cx}:eS X (.type "list") (jT X.K):=PY
def J2:R2:=fun x y H Q=>y= .aE/\Q (.bl (decide (x= .aE))) H
def uv:R2:=fun x y H Q=>y= .aE/\Q (.bl (!decide (x= .aE))) H
theorem MF{X:Cx}:cU X (compareOp .Is) J2:=UK
theorem JO{X:Cx}:cU X (compareOp .IsNot) uv:=S3
def intOf:Expr->Option Int
 | .Constant (.int i) _ _=>some i
 |_=>none
theorem RH{e:Expr}{i:Int}(h:intOf e=some i):∃k p,e= .Constant (.int i) k p:=by
 unfold intOf at h
 split at h
 ·cases h;exact⟨_,_,rfl⟩
 ·cases h
def pC:List Expr->Option (List Int)
 |[]=>some []
 |e::r=>(intOf e).bind fun i=>(pC r).map (i:: ·)
def v8(is:List Int):TA:=fun _ H Q=>Q (is.map V.int) H
theorem IS{X:Cx}:∀{es:List Expr} {is:List Int},pC es=some is->PA X es (v8 is):=by
  intro es
  induction es with
  | nil =>
    intro is h
    have e:is=[]:=by simpa[pC] using h.symm
    subst e
    exact ak
  | cons e r ih =>
    intro is h
    unfold pC at h
    cases hi:intOf e with
    |none=>rw[hi] at h;cases h
    | some i =>
      rw[hi] at h
      obtain⟨k,p,rfl⟩:=RH hi
      obtain⟨js,hj,rfl⟩:=kj.mp (show(pC r).map (i:: ·)=some is from h)
      exact aa (te:=tC (.int i)) (t:=v8 js) ao (ih hj)
theorem VV{X:Cx}{i:Nat}{x:Str}{es:List Expr}{is:List Int}{p1 p2 p3:Pos}(hN:X.N.Nodup)(hi:X.N[i]?=some x)(hx:Loc X.env.scope x)(h:pC es=some is)(hf:X.fn x=true\/X.env.scope.names.lookup x=some .local):
  PS X (.Assign [.Name x p1] (.List es p2) p3) (i6 (nU (v8 is)) (ir i)):=aV hN hi hx (fW (IS h)) rfl hf
namespace R
section
variable{σ:St}{H:Hp}{Q:VK}{D:Ends}{ta tb te:TE}{K:PySem.W.Frag}
theorem seq{t u:TS}(h:t {D with nx:=u D} σ H):qa t u D σ H:=h
theorem asg{g:TG}(h:te σ H fun x H1=>g x σ H1 D.nx):i6 te g D σ H:=h
theorem oG{c:TT}{t u:TS}(h:c σ H fun b H1=>if b=true then t D σ H1 else u D σ H1):AV c t u D σ H:=h
theorem ret(h:te σ H D.rt):v7 te D σ H:=h
theorem next(h:D.nx σ H):CC D σ H:=h
theorem var{i:Nat}{v:V}(e:σ[i]?=some (some v))(h:Q v H):fq i σ H Q:=⟨v,e,h⟩
theorem c{v:V}(h:Q v H):tC v σ H Q:=h
theorem op{r:R2}(h:ta σ H fun x H1=>tb σ H1 fun y H2=>r x y H2 Q):cZ r ta tb σ H Q:=h
theorem test{q:Bool->Hp->Prop}(h:te σ H fun x H'=>∃k,x= .bl k/\q k H'):AD te σ H q:=h
theorem bl{P:Bool->Prop}{b:Bool}(h:P b):∃k,V.bl b= .bl k/\P k:=⟨b,rfl,h⟩
theorem and{t u:TT}{q:Bool->Hp->Prop}(h:t σ H fun c H1=>if c=true then u σ H1 q else q false H1):A0 t u σ H q:=h
theorem BC(h:ta σ H fun x H1=>∃c,x= .bl c/\if c=true then tb σ H1 Q else Q (.bl false) H1):An ta tb σ H Q:=h
theorem S9(h:ta σ H fun x H1=>∃c,x= .bl c/\Q (.bl (!c)) H1):GX ta σ H Q:=h
theorem cb{r:List V->Hp->VK->Prop}{t:TA}(h:t σ H fun vs H1=>r vs H1 Q):fN r t σ H Q:=h
theorem call{sp:Sp}{t:TA}(h:t σ H fun vs H1=>sp (vs++[]) H1 Q E0):i9 sp [] E0 t σ H Q:=h
theorem nil{q:List V->Hp->Prop}(h:q [] H):cy σ H q:=h
theorem cons{t:TA}{q:List V->Hp->Prop}(h:ta σ H fun x H1=>t σ H1 fun xs H2=>q (x::xs) H2):bR ta t σ H q:=h
theorem lst{t:TA}(h:t σ H (Dy Q)):nU t σ H Q:=h
theorem sl{r:V->Option Int->Option Int->Hp->VK->Prop}{tl th:TO}(h:te σ H fun x H1=>tl σ H1 fun l H2=>th σ H2 fun u H3=>r x l u H3 Q):qw r te tl th σ H Q:=h
theorem Ql{q:Option Int->Hp->Prop}(h:q none H):yu σ H q:=h
theorem part{q:Option Int->Hp->Prop}(h:te σ H fun x H1=>∃i,x= .int i/\q (some i) H1):zl te σ H q:=h
theorem Kv{P:Int->Prop}{i:Int}(h:P i):∃j,V.int i= .int j/\P j:=⟨i,rfl,h⟩
theorem UQ{T:String}{r:V->List V->Hp->VK->Prop}(h:te σ H fun x H1=>sQ K T x H1/\r x [] H1 Q):wo K T r te σ H Q:=h
theorem Wh{i:Int}{A:Prop}(h:A):sQ K "int" (.int i) H/\A:=⟨rfl,h⟩
theorem Jm{i:Nat}{v:V}{q:St->Hp->Prop}(h:q (σ.set i (some v)) H):ir i v σ H q:=h
theorem QS{to ti:TE}{t:ud}{v:V}{q:St->Hp->Prop}(h:to σ H fun o H1=>ti σ H1 fun i H2=>t o i v H2 fun H3=>q σ H3):rq to ti t v σ H q:=h
theorem V6{t:TG}{u:gU}{v:V}{r:List V}{q:St->Hp->Prop}(h:t v σ H fun σ' H'=>u r σ' H' q):xO t u (v::r) σ H q:=⟨v,r,rfl,h⟩
theorem KD{q:St->Hp->Prop}(h:q σ H):yL [] σ H q:=⟨rfl,h⟩
theorem U6{n:Nat}{t:gU}{a:Addr}{xs:List V}{q:St->Hp->Prop}(hq:fQ K H a xs)(hl:xs.length=n)(h:t xs σ H q):vI K n t (.ref a) σ H q:=⟨a,xs,rfl,hq,hl,h⟩
theorem qN{q:Bool->Hp->Prop}(h:q true H):rK σ H q:=h
theorem gP{g:Int->Int->V}{i j:Int}(h:Q (g i j) H):L2.gP g (.int i) (.int j) H Q:=⟨i,j,rfl,rfl,h⟩
theorem rI{C:Int->Int->Prop}{g:Int->Int->V}{i j:Int}(hc:C i j)(h:Q (g i j) H):L2.rI C g (.int i) (.int j) H Q:=⟨i,j,rfl,rfl,hc,h⟩
theorem z0{i j:Int}:decide (V.int i=V.int j)=decide (i=j):=by rw[iW];simp
theorem WT{i j:Int}(h:Q (.bl (decide (i=j))) H):zw (.int i) (.int j) H Q:=⟨rfl,by rw[z0];exact h⟩
theorem UR{i j:Int}(h:Q (.bl (decide (i≠j))) H):zH (.int i) (.int j) H Q:=⟨rfl,by rw[z0,<-decide_not];exact h⟩
theorem Jw{i:Int}(h:Q (.bl true) H):uv (.int i) .aE H Q:=⟨rfl,by rw[decide_eq_false (fun e=>V.noConfusion e)];exact h⟩
theorem Fy(h:Q (.bl false) H):uv .aE .aE H Q:=⟨rfl,by rw[decide_eq_true rfl];exact h⟩
theorem tH{p:Addr}{xs:List V}{i:Int}{v:V}(hp:H p=some (.lst xs))(e:bL xs i=some v)(h:Q v H):dU K (.ref p) (.int i) H Q:=⟨p,xs,i,v,rfl,rfl,aQ.of hp,e,h⟩
theorem BI{p:Addr}{o:HO}{xs:List V}{i:Int}{v:V}(e:bL xs i=some v)(h:Q v (upd H p (.lst xs))):dU K (.ref p) (.int i) (upd H p (.lst xs)) Q:=⟨p,xs,i,v,rfl,rfl,aQ.of aR,e,h⟩
theorem setM{p:Addr}{xs:List V}{k:Int}{j:Nat}{v:V}{q:Hp->Prop}(hp:H p=some (.lst xs))(e:fk xs.length k=some j)(h:q (upd H p (.lst (xs.set j v)))):u7 (.ref p) (.int k) v H q:=⟨p,xs,k,j,rfl,rfl,hp,e,h⟩
theorem S2{p:Addr}{xs:List V}{k:Int}{j:Nat}{v:V}{q:Hp->Prop}(e:fk xs.length k=some j)(h:q (upd H p (.lst (xs.set j v)))):u7 (.ref p) (.int k) v (upd H p (.lst xs)) q:=
 ⟨p,xs,k,j,rfl,rfl,aR,e,by rw[BH];exact h⟩
theorem Pp{p:Addr}{xs:List V}{P:List V->Prop}(hp:H p=some (.lst xs))(h:P xs):∃a ys,[V.ref p]=[.ref a]/\(aQ K H a ys\/fQ K H a ys)/\P ys:=⟨p,xs,rfl, .inl (aQ.of hp),h⟩
theorem J0{p:Addr}{xs:List V}{lo hi:Option Int}(hp:aQ K H p xs)(h:∀a,H a=none->Q (.ref a) (upd H a (.lst (kU xs lo hi)))):nB K (.ref p) lo hi H Q:=⟨p,xs,rfl,hp,h⟩
theorem Ng{a:Int}{P:Int->Prop}(h:P a):∃i,[V.int a]=[.int i]/\P i:=⟨a,rfl,h⟩
theorem bits{i:Int}{P:Int->Prop}(h:P i):∃j,V.int i= .int j/\([]:List V)=[]/\P j:=⟨i,rfl,rfl,h⟩
theorem Nn{xs:List V}(h:xs.length<=10000)(q:∀p H',cE H H'->H p=none->H' p=some (.lst xs)->Q (.ref p) H'):Dy Q xs H:=
 ⟨dB h (by decide),fun p hp=>q p _ (bQ hp) hp aR⟩
theorem JX{c A B:Prop}[Decidable c](h:c)(q:A):if c then A else B:=by rw[if_pos h];exact q
theorem Ff{c A B:Prop}[Decidable c](h:¬c)(q:B):if c then A else B:=by rw[if_neg h];exact q
theorem dT{c:Prop}[Decidable c](h:c):decide c=true:=decide_eq_true h
theorem dF{c:Prop}[Decidable c](h:¬c):¬decide c=true:=by rw[decide_eq_false h];exact bV
theorem GI{c:Prop}[Decidable c](h:¬c):(!decide c)=true:=by rw[decide_eq_false h];rfl
theorem Fg{c:Prop}[Decidable c](h:c):¬(!decide c)=true:=by rw[decide_eq_true h];decide
theorem O8{i:Int}(h:Q (.bl true) H):gE K [.int i, .ty "int"] H Q:=⟨_,_,_,true,rfl, .int i,rfl,h⟩
theorem KN{i:Int}(h:Q (.bl false) H):gE K [.int i, .ty "bool"] H Q:=⟨_,_,_,false,rfl, .int i,by with_unfolding_all rfl,h⟩
theorem VP{t:TA}{R:It->Hp->Prop}(h:t σ H fun vs H1=>∃j:Int,vs=[.int j]/\ -(2^62)<=j/\j<2^62/\R (iC 0 j.toNat) H1):tL t σ H R:=h
theorem M6{P:Int->Prop}{i:Int}(h1: -(2^62)<=i)(h2:i<2^62)(h:P i):∃j:Int,[V.int i]=[.int j]/\ -(2^62)<=j/\j<2^62/\P j:=⟨i,rfl,h1,h2,h⟩
theorem R5{t:TA}{R:It->Hp->Prop}(h:t σ H fun vs H1=>∃i j:Int,vs=[.int i, .int j]/\(-(2^62)<=i/\i<2^62/\ -(2^62)<=j/\j<2^62)/\R (iC i (j-i).toNat) H1):IU t σ H R:=h
theorem PN{P:Int->Int->Prop}{a b:Int}(h1: -(2^62)<=a/\a<2^62/\ -(2^62)<=b/\b<2^62)(h:P a b):∃i j:Int,[V.int a,V.int b]=[.int i, .int j]/\(-(2^62)<=i/\i<2^62/\ -(2^62)<=j/\j<2^62)/\P i j:=⟨a,b,rfl,h1,h⟩
theorem iL{tl:TE}{R:It->Hp->Prop}(h:tl σ H fun x H1=>∃a,x= .ref a/\(∃xs,aQ K H1 a xs)/\R (nv K a) H1):rS K tl σ H R:=h
theorem wj{P:Addr->Prop}{p:Addr}{xs:List V}(hp:aQ K H p xs)(h:P p):∃a,V.ref p= .ref a/\(∃xs,aQ K H a xs)/\P a:=⟨p,rfl,⟨xs,hp⟩,h⟩
theorem Mx{wi:TI}{g:TG}{tb:TS}(h:wi σ H fun J H1=>∃W:Nat->Nat->St->Hp->Prop,(∃m,W 0 m σ H1)/\∀i m σ H,W i m σ H->
 (J.stop i H/\D.nx σ H)\/(J.go i H/\∃N:St->Hp->Prop,(∀σ' H',N σ' H'->∃m',m'<m/\W (i+1) m' σ' H')/\∀x H',J.k7 i H x H'->g x σ H' fun σ2 H2=>tb {D with nx:=N,ct:=N,bk:=D.nx} σ2 H2)):oS wi g tb D σ H:=h
theorem comp{wi:TI}{g:TG}{tc:TT}{mp:List (Option Nat)}(h:wi σ H fun J H1=>∀acc,H1 acc=none->mO J g tc te acc (fun H'=>Q (.ref acc) H') (ef mp σ) (upd H1 acc (.lst []))):jG wi g tc te mp σ H Q:=h
end
theorem Ef{lo:Int}{n:Nat}{g:TG}{tc:TT}{te:TE}{acc:Addr}{Qe:Hp->Prop}{σ:St}{H:Hp}(Pv:Nat->St->Hp->Prop)(h0:Pv 0 σ H)
  (hs:∀i σ H,i<n->Pv i σ H->g (.int (lo+i)) σ H fun σ2 H2=>tc σ2 H2 fun b H3=>if b=true then te σ2 H3 fun v H4=>∃ys,H4 acc=some (.lst ys)/\ys.length<sizeLine/\Pv (i+1) σ2 (upd H4 acc (.lst (ys++[v]))) else Pv (i+1) σ2 H3)
  (hd:∀σ H,Pv n σ H->Qe H):mO (iC lo n) g tc te acc Qe σ H:=by
 refine⟨fun i m σ H=>m=n-i/\i<=n/\Pv i σ H,⟨n,by simp,eU _,h0⟩,?_⟩
 rintro i m σ H ⟨rfl,hi,p⟩
 by_cases hlt:i<n
 ·refine .inr ⟨hlt,Pv (i+1),fun σ' H' p'=>⟨n-(i+1),by omega,rfl,hlt,p'⟩,fun x H' y=>?_⟩
  obtain⟨e,y⟩:=y
  subst e y
  exact hs i σ _ hlt p
 ·have e:i=n:=by omega
  subst e
  exact .inl ⟨aS _,hd σ H p⟩
theorem Eh{K:PySem.W.Frag}{a:Addr}{xs:List V}{g:TG}{tc:TT}{te:TE}{acc:Addr}{Qe:Hp->Prop}{σ:St}{H:Hp}(Pv:Nat->St->Hp->Prop)(h0:Pv 0 σ H)(hl:∀i σ H,i<=xs.length->Pv i σ H->aQ K H a xs)
  (hs:∀i x σ H,xs[i]?=some x->Pv i σ H->g x σ H fun σ2 H2=>tc σ2 H2 fun b H3=>if b=true then te σ2 H3 fun v H4=>∃ys,H4 acc=some (.lst ys)/\ys.length<sizeLine/\Pv (i+1) σ2 (upd H4 acc (.lst (ys++[v]))) else Pv (i+1) σ2 H3)
  (hd:∀σ H,Pv xs.length σ H->Qe H):mO (nv K a) g tc te acc Qe σ H:=by
 refine⟨fun i m σ H=>m=xs.length-i/\i<=xs.length/\Pv i σ H,⟨xs.length,by simp,eU _,h0⟩,?_⟩
 rintro i m σ H ⟨rfl,hi,p⟩
 have q:=hl i σ H hi p
 by_cases hlt:i<xs.length
 ·refine .inr ⟨⟨xs,xs[i],q,by simp[hlt]⟩,Pv (i+1),fun σ' H' p'=>⟨xs.length-(i+1),by omega,rfl,hlt,p'⟩,fun x H' y=>?_⟩
  obtain⟨e,y⟩:=y
  subst e
  exact hs i x σ _ (y xs q) p
 ·have e:i=xs.length:=by omega
  subst e
  exact .inl ⟨⟨xs,q,aS _⟩,hd σ H p⟩
end R
end L2
set_option maxRecDepth 100000
set_option maxHeartbeats 1000000
namespace L2
open PySem PySem.Spec PyProof.Rows
@[reducible] def pairD(pr:Int×Int):PyData:= .tuple [.int pr.1, .int pr.2]
def gY:Option Int->PyData
 |none=> .none
 |some i=> .int i
def oU:Option Int->V
 |none=> .aE
 |some i=> .int i
def jE(wd:List (Option Int))(pr:Int×Int):Int:=match wd[pr.1.toNat]? with
 |some (some x)=>pr.2*x
 |_=>0
def aL(prs:List (Int×Int))(wd:List (Option Int)):Int:=(prs.map (jE wd)).sum
theorem Ic{prs:List (Int×Int)}{wd:List (Option Int)}{i:Nat}(h:i<prs.length):aL (prs.take (i+1)) wd=aL (prs.take i) wd+jE wd prs[i]:=by
 unfold aL
 rw[qL,aD h,cS,uB]
 simp
theorem VC{nb:Addr->Prop}{H:Hp}{o:Option Int}{v:V}(h:ai nb H (gY o) v):v=oU o:=by
 cases o with
 |none=>exact h.vL
 |some i=>exact h.bZ
theorem CP{nb:Addr->Prop}{H:Hp}:∀{wd:List (Option Int)} {xs:List V},af nb H (wd.map gY) xs->xs=wd.map oU
  |[],_,h=>by unfold List.map af at h;exact h
  | o :: wd, _, h => by
    rw[bh] at h
    unfold af at h
    obtain⟨y,ys,rfl,h1,h2⟩:=h
    rw[bh,VC h1,CP h2]
theorem UC{nb:Addr->Prop}{H:Hp}{pr:Int×Int}{v:V}(h:ai nb H (pairD pr) v):∃t,v= .ref t/\¬nb t/\H t=some (.tup [.int pr.1, .int pr.2]):=by
 obtain⟨t,xs,rfl,n,ht,hd⟩:=h.ofT
 unfold af at hd
 obtain⟨y,ys,rfl,h1,h2⟩:=hd
 unfold af at h2
 obtain⟨z,zs,rfl,h3,h4⟩:=h2
 unfold af at h4
 subst h4
 rw[h1.bZ,h3.bZ] at ht
 exact⟨t,rfl,n,ht⟩
def qy:Sp:=fun vs H Q _=>∃(nb:Addr->Prop) (p:Int) (va vc:V) (prs:List (Int×Int)) (wd:List (Option Int)),vs=[.int p,va,vc]/\ai nb H (.list (prs.map pairD)) va/\ai nb H (.list (wd.map gY)) vc/\0<p/\
 (∀pr∈prs,0<=pr.1/\pr.1<wd.length/\Sm pr.2)/\(∀x,some x∈wd->Sm x)/\Q (.int (aL prs wd%p)) H
theorem uq(wd:List (Option Int)):PyData.depthAll (wd.map gY)=0/\PyData.canLayAll0 (wd.map gY)=true:=by
 induction wd with
 |nil=>simp[PyData.depthAll,PyData.canLayAll0]
 |cons a r ih=>cases a<;>simp[gY,PyData.depthAll,PyData.depth,PyData.canLayAll0,PyData.canLay0,ih.2,ih.1]
def wD(r:Int):Prop:=∀d:Int,2<=d->d*d<=r->r%d≠0
def vK:List Int:=[2,3,5,7,2,11,101,10007,65537,1000003,998244353,1000000007,2147483647,1000000000039,1000000000000000003,18446744073709551557,2305843009213693951,618970019642690137449562111,162259276829213363391578010288127,170141183460469231731687303715884105727,1000000000000000000000000000000000000003,9999999999999999999999999999999999999983]
def HE(p:Int):Prop:=2<=p/\p<10^40/\(p∈vK\/wD p)
def A9:Sp:=fun vs H Q _=>∃n:Int,vs=[.int n]/\2<=n/\n<=10002/\∀(r:Int) (H':Hp),cE H H'->2<=r->r<=10100->wD r->Q (.int r) H'
def R4:Sp:=fun vs H Q _=>∃(b l:Addr),vs=[.ref b]/\cY H b l/\∀(p:Int) (H':Hp),HE p->bq (Nb b) H H'->cY H' b l->Q (.int p) H'
theorem wB{nb:Addr->Prop}{H:Hp}:∀is:List Int,af nb H (is.map PyData.int) (is.map V.int)
 |[]=>af.nil
 |i::is=>af.cons (.int i) (wB is)
theorem vP{nb:Addr->Prop}{H:Hp}:∀{is:List Int} {xs:List V},af nb H (is.map PyData.int) xs->xs=is.map V.int
  |[],_,h=>by unfold List.map af at h;exact h
  | i :: is, _, h => by
    rw[bh] at h
    unfold af at h
    obtain⟨y,ys,rfl,h1,h2⟩:=h
    rw[bh,h1.bZ,vP h2]
end L2
set_option maxRecDepth 100000
set_option maxHeartbeats 1000000
namespace L2
open PySem PySem.Spec PyProof.Rows
abbrev Bg:=Option (Addr×Addr)
def NB(B:Bg)(a:Addr):Prop:=∀b l,B=some (b,l)->a≠b
def jM(B:Bg)(H:Hp):Prop:=∀b l,B=some (b,l)->cY H b l
def iz(nb:Addr->Prop)(H:Hp):Prop:=∀a,nb a->H a≠none
structure Kp(S:Addr->Prop)(F:List Addr)(H H':Hp):Prop where
 own:∀a∈F,∀o,H a=some o->H' a=some o
 lst:∀a xs,¬S a->H a=some (.lst xs)->H' a=some (.lst xs)
 tup:∀a xs,¬S a->H a=some (.tup xs)->H' a=some (.tup xs)
 bO:∀a ps,¬S a->Rd H a (.dK ps)->Rd H' a (.dK ps)
theorem Kp.of{S:Addr->Prop}{F:List Addr}{H H':Hp}(h:∀a o,(¬S a\/a∈F)->H a=some o->H' a=some o):Kp S F H H':=
 ⟨fun a ha o e=>h a o (.inr ha) e,fun a xs n e=>h a _ (.inl n) e,fun a xs n e=>h a _ (.inl n) e,fun a ps n e=>e.elim (fun e=> .inl (h a _ (.inl n) e)) fun⟨o,e⟩=> .inr ⟨o,h a _ (.inl n) e⟩⟩
mutual
theorem ai.kp{S:Addr->Prop}{F:List Addr}{H H':Hp}(m:Kp S F H H'):∀{d:PyData} {v:V},ai S H d v->ai S H' d v
 | .none,_,h=>by unfold ai at h⊢;exact h
 | .bool _,_,h=>by unfold ai at h⊢;exact h
 | .int _,_,h=>by unfold ai at h⊢;exact h
 | .str _,_,h=>by unfold ai at h⊢;exact h
 | .list ds,_,h=>by unfold ai at h⊢;obtain⟨a,xs,e,n,s,r⟩:=h;exact⟨a,xs,e,n,m.lst _ _ n s,af.kp m r⟩
 | .tuple ds,_,h=>by unfold ai at h⊢;obtain⟨a,xs,e,n,s,r⟩:=h;exact⟨a,xs,e,n,m.tup _ _ n s,af.kp m r⟩
 | .dict kvs,_,h=>by unfold ai at h⊢;obtain⟨a,xs,e,n,s,r⟩:=h;exact⟨a,xs,e,n,m.bO _ _ n s,aq.kp m r⟩
theorem af.kp{S:Addr->Prop}{F:List Addr}{H H':Hp}(m:Kp S F H H'):∀{ds:List PyData} {vs:List V},af S H ds vs->af S H' ds vs
 |[],_,h=>by unfold af at h⊢;exact h
 |d::ds,_,h=>by unfold af at h⊢;obtain⟨y,ys,e,h1,h2⟩:=h;exact⟨y,ys,e,ai.kp m h1,af.kp m h2⟩
theorem aq.kp{S:Addr->Prop}{F:List Addr}{H H':Hp}(m:Kp S F H H'):∀{ds:List (PyData×PyData)} {vs:List (Key×V)},aq S H ds vs->aq S H' ds vs
 |[],_,h=>by unfold aq at h⊢;exact h
 |d::ds,_,h=>by unfold aq at h⊢;obtain⟨y,ys,e,h1,h2⟩:=h;exact⟨y,ys,e,cg.kp m h1,aq.kp m h2⟩
theorem cg.kp{S:Addr->Prop}{F:List Addr}{H H':Hp}(m:Kp S F H H'):∀{d:PyData×PyData} {v:Key×V},cg S H d v->cg S H' d v
 |(k,d),_,h=>by unfold cg at h⊢;exact⟨h.1,ai.kp m h.2⟩
end
structure Cu where
 v:V
 F:List Addr
 f:Bool
 P:(Addr->Prop)->Hp->Prop
 keep:∀{S:Addr->Prop} {H H':Hp},Kp S F H H'->P S H->P S H'
 av:∀{S S':Addr->Prop} {H:Hp},(∀a,S' a->S a)->P S H->P S' H
 fresh:∀{S:Addr->Prop} {H:Hp} {p:Addr},H p=none->P S H->P (fun a=>S a\/a=p) H
inductive HD where
 |d (x:PyData)|fz (o:Obj) (ps:List (Key×V))|th (c:Cu)
def gb(S:Addr->Prop)(H:Hp):HD->V->Prop
 | .d x,v=>ai S H x v
 | .fz o ps,v=>∃a,v= .ref a/\¬S a/\H a=some (.bG o (.dK ps))
 | .th c,v=>v=c.v/\(∀a∈c.F,¬S a/\H a≠none)/\c.P S H
theorem gb.keep{S:Addr->Prop}{H H':Hp}{x:HD}{v:V}(h:gb S H x v)(b:bq S H H'):gb S H' x v:=by
  cases x with
  |d x=>exact ai.keep b h
  |fz o ps=>obtain⟨a,e,n,q⟩:=h;exact⟨a,e,n,b _ _ n q⟩
  | th c =>
    obtain⟨e,n,q⟩:=h
    refine⟨e,fun a m=>⟨(n a m).1,?_⟩,c.keep (.of fun a o m q=>b a o (m.elim id fun m=>(n a m).1) q) q⟩
    cases z:H a with
    |none=>exact absurd z (n a m).2
    |some o=>rw[b a o (n a m).1 z];exact jv _
theorem gb.av{S S':Addr->Prop}{H:Hp}{x:HD}{v:V}(h:gb S H x v)(b:∀a,S' a->S a):gb S' H x v:=by
 cases x with
 |d x=>exact ai.av b h
 |fz o ps=>obtain⟨a,e,n,q⟩:=h;exact⟨a,e,fun z=>n (b a z),q⟩
 |th c=>obtain⟨e,n,q⟩:=h;exact⟨e,fun a m=>⟨fun z=>(n a m).1 (b a z),(n a m).2⟩,c.av b q⟩
theorem gb.fresh{S:Addr->Prop}{H:Hp}{x:HD}{v:V}{p:Addr}(h:gb S H x v)(hp:H p=none):gb (fun a=>S a\/a=p) H x v:=by
 cases x with
 |d x=>exact ai.fresh hp h
 |fz o ps=>obtain⟨a,e,n,q⟩:=h;exact⟨a,e,fun z=>z.elim n (gH q hp),q⟩
 |th c=>obtain⟨e,n,q⟩:=h;exact⟨e,fun a m=>⟨fun z=>z.elim (n a m).1 fun y=>(n a m).2 (by rw[y];exact hp),(n a m).2⟩,c.fresh hp q⟩
structure Gx where
 B:Bg
 H0:Hp
 A:Addr->Prop
 hold:List (Bool×HD×V):=[]
inductive Sl where
 |no|d (f:Bool) (d:PyData)|own (a:Addr) (f:Bool) (ds:List PyData)|ay|raw (v:V)|bO (a:Addr) (f:Bool) (ks:List (Int×PyData))|cu (c:Cu)
def Sl.adr:Sl->List Addr
 | .own a _ _=>[a]
 | .bO a _ _=>[a]
 | .cu c=>c.F
 |_=>[]
@[reducible] def bE(p:Int×PyData):PyData×PyData:=(.int p.1,p.2)
abbrev Rh:=List Sl
def Gx.S(G:Gx)(nb:Addr->Prop)(f:Bool):Addr->Prop:=fun a=>nb a\/G.A a\/¬NB G.B a\/(f=true/\G.H0 a≠none)
def nh(G:Gx)(nb:Addr->Prop)(H:Hp)(x:Option V):Sl->Prop
 | .no=>True
 | .d f d=>∃v,x=some v/\ai (G.S nb f) H d v
 | .own a f ds=>x=some (.ref a)/\nb a/\NB G.B a/\∃xs,H a=some (.lst xs)/\af (G.S nb f) H ds xs
 | .ay=>∃b l,G.B=some (b,l)/\x=some (.ref b)
 | .raw v=>x=some v
 | .bO a f ks=>x=some (.ref a)/\nb a/\NB G.B a/\∃ps,H a=some (.dK ps)/\aq (G.S nb f) H (ks.map bE) ps
 | .cu c=>x=some c.v/\(∀a∈c.F,nb a/\NB G.B a)/\c.P (G.S nb c.f) H
structure Wd(G:Gx)(nb:Addr->Prop)(ρ:Rh)(σ:St)(H:Hp):Prop where
 ay:jM G.B H
 live:iz nb H
 old:∀a o,NB G.B a->G.H0 a=some o->H a=some o
 c6:∀a,nb a->NB G.B a->G.H0 a=none
 gA:iz G.A G.H0
 len:σ.length=ρ.length
 gB:jM G.B G.H0
 dP:∀h∈G.hold,gb (G.S nb h.1) H h.2.1 h.2.2
 ok:∀(i:Nat) (s:Sl),ρ[i]?=some s->∃x,σ[i]?=some x/\nh G nb H x s
 apart:∀(i j:Nat) a f as c g cs,i≠j->ρ[i]?=some (.own a f as)->ρ[j]?=some (.own c g cs)->a≠c
 eE:∀(i j:Nat) a f as c g cs,i≠j->ρ[i]?=some (.bO a f as)->ρ[j]?=some (.bO c g cs)->a≠c
 dg:∀(i j:Nat) c s,i≠j->ρ[i]?=some (.cu c)->ρ[j]?=some s->∀a∈c.F,a∉s.adr
def Step(B:Bg)(H H':Hp):Prop:=(∀a o,NB B a->H a=some o->H' a=some o)/\jM B H'
section
variable{G:Gx}{B:Bg}{nb:Addr->Prop}{ρ:Rh}{σ:St}{H H1 H2 H':Hp}{f g:Bool}{d:PyData}{ds:List PyData}{v:V}{xs:List V}{a p:Addr}
theorem Step.refl(h:jM B H):Step B H H:=⟨fun _ _ _ e=>e,h⟩
theorem Step.trans(x:Step B H H1)(y:Step B H1 H2):Step B H H2:=⟨fun a o n e=>y.1 a o n (x.1 a o n e),y.2⟩
theorem jM.same(h:jM B H)(s:cE H H'):jM B H':=fun b l e=>(h b l e).same s
theorem Step.same(h:jM B H)(s:cE H H'):Step B H H':=⟨fun a o _ e=>s a o e,h.same s⟩
theorem Step.but{bC:Addr->Prop}(s:Step B H H')(h:∀a,¬NB B a->bC a):bq bC H H':=fun a o n e=>s.1 a o (gR fun z=>n (h a z)) e
theorem Step.cR(s:Step G.B H H'):bq (G.S nb f) H H':=s.but fun a h=> .inr (.inr (.inl h))
theorem cJ(h:g=true->f=true){bC:Addr->Prop}(hn:∀a,nb a->bC a):∀a,G.S nb g a->G.S bC f a:=by
 intro a z
 rcases z with z|z|z|⟨z,q⟩
 ·exact .inl (hn a z)
 ·exact .inr (.inl z)
 ·exact .inr (.inr (.inl z))
 ·exact .inr (.inr (.inr ⟨h z,q⟩))
theorem NB.lO(h:jM B H)(n:¬NB B a):H a≠none:=by
 intro e
 apply n
 intro b l hb z
 subst z
 obtain⟨_,_,_,_,_,h1,_⟩:=h _ _ hb
 rw[h1] at e;cases e
theorem Wd.kJ(W:Wd G nb ρ σ H):iz (G.S nb f) H:=by
 intro a z
 rcases z with z|z|z|⟨_,z⟩
 ·exact W.live a z
 ·by_cases n:NB G.B a
  ·cases e:G.H0 a with
   |none=>exact absurd e (W.gA a z)
   |some o=>rw[W.old a o n e];exact jv _
  ·exact NB.lO W.ay n
 ·exact NB.lO W.ay z
 ·by_cases n:NB G.B a
  ·cases e:G.H0 a with
   |none=>exact absurd e z
   |some o=>rw[W.old a o n e];exact jv _
  ·exact NB.lO W.ay n
theorem Wd.fresh(W:Wd G nb ρ σ H)(hp:H p=none):¬G.S nb f p:=fun z=>W.kJ p z hp
theorem nh.step{x:Option V}{s:Sl}(st:Step G.B H H')(h:nh G nb H x s):nh G nb H' x s:=by
  cases s with
  |no=>trivial
  |d f d=>obtain⟨v,e,h⟩:=h;exact⟨v,e,h.keep st.cR⟩
  |own a f ds=>obtain⟨e,n,q,xs,hx,hd⟩:=h;exact⟨e,n,q,xs,st.1 _ _ q hx,hd.keep st.cR⟩
  |ay=>exact h
  |raw v=>exact h
  |bO a f ks=>obtain⟨e,n,q,xs,hx,hd⟩:=h;exact⟨e,n,q,xs,st.1 _ _ q hx,hd.keep st.cR⟩
  | cu c =>
    obtain⟨e,n,p⟩:=h
    refine⟨e,n,c.keep (.of fun a o ha e=>st.1 a o ?_ e) p⟩
    rcases ha with ha|ha
    · exact gR fun z=>ha (.inr (.inr (.inl z)))
    · exact(n a ha).2
theorem JR(n:NB B a)(st:Step B H H')(h:H a≠none):H' a≠none:=by
 cases e:H a with
 |none=>exact absurd e h
 |some o=>rw[st.1 a o n e];exact jv _
theorem Wd.step(W:Wd G nb ρ σ H)(st:Step G.B H H'):Wd G nb ρ σ H' where
 ay:=st.2
 live:=fun a n=>by
  by_cases q:NB G.B a
  ·exact JR q st (W.live a n)
  ·exact NB.lO st.2 q
 old:=fun a o n e=>st.1 a o n (W.old a o n e)
 c6:=W.c6
 gA:=W.gA
 len:=W.len
 gB:=W.gB
 dP:=fun h m=>(W.dP h m).keep st.cR
 ok:=fun i s e=>by
  obtain⟨x,e1,h⟩:=W.ok i s e
  exact⟨x,e1,h.step st⟩
 apart:=W.apart
 eE:=W.eE
 dg:=W.dg
theorem Wd.set{i:Nat}{s:Sl}{x:Option V}(W:Wd G nb ρ σ H)(h:nh G nb H x s)(hs:∀a f ds,s= .own a f ds->∀j c g cs,j≠i->ρ[j]?=some (.own c g cs)->a≠c)(hd:∀a f ds,s= .bO a f ds->∀j c g cs,j≠i->ρ[j]?=some (.bO c g cs)->a≠c:=by intro _ _ _ z;cases z)(hcu:∀a∈s.adr,∀j t,j≠i->ρ[j]?=some t->(∃c,s= .cu c)\/(∃c,t= .cu c)->a∉t.adr:=by intro _ z;cases z):Wd G nb (ρ.set i s) (σ.set i x) H where
 ay:=W.ay
 live:=W.live
 old:=W.old
 c6:=W.c6
 gA:=W.gA
 len:=by rw[fX,fX];exact W.len
 gB:=W.gB
 dP:=W.dP
 ok:=fun j t e=>by
  by_cases hij:i=j
  ·subst hij
   have hl:i<ρ.length:=by have:=(bI.mp e).1;rwa[fX] at this
   rw[dh hl] at e
   cases e
   exact⟨x,dh (by rw[W.len];exact hl),h⟩
  ·rw[bN hij] at e⊢
   exact W.ok j t e
 apart:=fun j k a f as c g cs hjk e1 e2=>by
  by_cases hj:i=j
  ·subst hj
   have hl:i<ρ.length:=by have:=(bI.mp e1).1;rwa[fX] at this
   rw[dh hl] at e1
   cases e1
   rw[bN hjk] at e2
   exact hs a f as rfl k c g cs (bu hjk) e2
  ·by_cases hk:i=k
   ·subst hk
    have hl:i<ρ.length:=by have:=(bI.mp e2).1;rwa[fX] at this
    rw[dh hl] at e2
    cases e2
    rw[bN hj] at e1
    exact(hs c g cs rfl j a f as hjk e1).symm
   ·rw[bN hj] at e1
    rw[bN hk] at e2
    exact W.apart j k a f as c g cs hjk e1 e2
 eE:=fun j k a f as c g cs hjk e1 e2=>by
  by_cases hj:i=j
  ·subst hj
   have hl:i<ρ.length:=by have:=(bI.mp e1).1;rwa[fX] at this
   rw[dh hl] at e1
   cases e1
   rw[bN hjk] at e2
   exact hd a f as rfl k c g cs (bu hjk) e2
  ·by_cases hk:i=k
   ·subst hk
    have hl:i<ρ.length:=by have:=(bI.mp e2).1;rwa[fX] at this
    rw[dh hl] at e2
    cases e2
    rw[bN hj] at e1
    exact(hd c g cs rfl j a f as hjk e1).symm
   ·rw[bN hj] at e1
    rw[bN hk] at e2
    exact W.eE j k a f as c g cs hjk e1 e2
 dg:=fun j k c t hjk e1 e2 a ha=>by
  by_cases hj:i=j
  ·subst hj
   have hl:i<ρ.length:=by have:=(bI.mp e1).1;rwa[fX] at this
   rw[dh hl] at e1
   cases e1
   rw[bN hjk] at e2
   exact hcu a ha k t (bu hjk) e2 (.inl ⟨c,rfl⟩)
  ·by_cases hk:i=k
   ·subst hk
    have hl:i<ρ.length:=by have:=(bI.mp e2).1;rwa[fX] at this
    rw[dh hl] at e2
    cases e2
    rw[bN hj] at e1
    exact fun z=>hcu a z j (.cu c) hjk e1 (.inr ⟨c,rfl⟩) ha
   ·rw[bN hj] at e1
    rw[bN hk] at e2
    exact W.dg j k c t hjk e1 e2 a ha
theorem Wd.nW{i:Nat}(W:Wd G nb ρ σ H)(h:ai (G.S nb f) H d v):Wd G nb (ρ.set i (.d f d)) (σ.set i (some v)) H:=W.set ⟨v,rfl,h⟩ fun _ _ _ e=>by cases e
inductive Wk:Rh->Rh->Prop
 |nil:Wk [] []
 |no {s:Sl} {r r':Rh} (h:Wk r r'):Wk (.no::r) (s::r')
 |eq {s:Sl} {r r':Rh} (h:Wk r r'):Wk (s::r) (s::r')
theorem Wk.at:∀{r r':Rh} {i:Nat} {s:Sl},Wk r r'->r[i]?=some s->s= .no/\(∃t,r'[i]?=some t)\/r'[i]?=some s
 |_,_,_,_, .nil,e=>by simp at e
 |_,_,0,_, .no h,e=>by simp at e;subst e;exact .inl ⟨rfl,_,rfl⟩
 |_,_,0,_, .eq h,e=>by simp at e;subst e;exact .inr rfl
 |_,_,i+1,_, .no h,e=>by simpa using Wk.at (i:=i) h (by simpa using e)
 |_,_,i+1,_, .eq h,e=>by simpa using Wk.at (i:=i) h (by simpa using e)
theorem Wk.len{r r':Rh}(h:Wk r r'):r.length=r'.length:=by
 induction h with
 |nil=>rfl
 |no _ ih=>simp[ih]
 |eq _ ih=>simp[ih]
theorem Wd.wk{ρ':Rh}(W:Wd G nb ρ' σ H)(h:Wk ρ ρ'):Wd G nb ρ σ H where
 ay:=W.ay
 live:=W.live
 old:=W.old
 c6:=W.c6
 gA:=W.gA
 len:=by rw[h.len];exact W.len
 gB:=W.gB
 dP:=W.dP
 ok:=fun i s e=>by
  rcases h.at e with ⟨rfl,t,e'⟩|e'
  ·obtain⟨x,e1,_⟩:=W.ok i t e';exact⟨x,e1,trivial⟩
  ·exact W.ok i s e'
 apart:=fun i j a f as c g cs hij e1 e2=>by
  rcases h.at e1 with ⟨z,_⟩|lM
  ·cases z
  rcases h.at e2 with ⟨z,_⟩|e2'
  ·cases z
  exact W.apart i j a f as c g cs hij lM e2'
 eE:=fun i j a f as c g cs hij e1 e2=>by
  rcases h.at e1 with ⟨z,_⟩|lM
  ·cases z
  rcases h.at e2 with ⟨z,_⟩|e2'
  ·cases z
  exact W.eE i j a f as c g cs hij lM e2'
 dg:=fun i j c s hij e1 e2 a ha=>by
  rcases h.at e1 with ⟨z,_⟩|lM
  ·cases z
  rcases h.at e2 with ⟨z,_⟩|e2'
  ·subst z;exact fun z=>by cases z
  exact W.dg i j c s hij lM e2' a ha
theorem Wd.more(W:Wd G nb ρ σ H)(hp:H p=none){o:HO}:Wd G (fun a=>nb a\/a=p) ρ σ (upd H p o):=by
 have hS:cE H (upd H p o):=bQ hp
 have hN:NB G.B p:=fun b l e z=>by
  subst z
  obtain⟨_,_,_,_,_,h1,_⟩:=W.ay _ _ e
  rw[h1] at hp;cases hp
 have W':=W.step (Step.same W.ay hS)
 have hA:∀f a,G.S (fun a=>nb a\/a=p) f a->(G.S nb f a\/a=p):=fun f a z=>by
  rcases z with (z|z)|z|z|z
  ·exact .inl (.inl z)
  ·exact .inr z
  ·exact .inl (.inr (.inl z))
  ·exact .inl (.inr (.inr (.inl z)))
  ·exact .inl (.inr (.inr (.inr z)))
 refine⟨W'.ay,fun a n=>?_,W'.old,fun a n q=>?_,W.gA,W.len,W.gB,fun h m=>(((W.dP h m).fresh hp).av (hA h.1)).keep (bq.of hS),fun i s e=>?_,W.apart,W.eE,W.dg⟩
 ·rcases n with n|n
  ·exact W'.live a n
  ·subst n;rw[aR];exact jv _
 ·rcases n with n|n
  ·exact W.c6 a n q
  ·subst n
   cases e:G.H0 a with
   |none=>rfl
   |some o=>rw[W.old a o q e] at hp;cases hp
 ·obtain⟨x,e1,h⟩:=W.ok i s e
  refine⟨x,e1,?_⟩
  cases s with
  |no=>trivial
  |d f d=>obtain⟨v,e,h⟩:=h;exact⟨v,e,((h.fresh hp).av (hA f)).keep (bq.of hS)⟩
  |own a f ds=>obtain⟨e,n,q,xs,hx,hd⟩:=h;exact⟨e, .inl n,q,xs,hS _ _ hx,((hd.fresh hp).av (hA f)).keep (bq.of hS)⟩
  |ay=>exact h
  |raw v=>exact h
  |bO a f ds=>obtain⟨e,n,q,xs,hx,hd⟩:=h;exact⟨e, .inl n,q,xs,hS _ _ hx,((hd.fresh hp).av (hA f)).keep (bq.of hS)⟩
  |cu c=>obtain⟨e,n,q⟩:=h;exact⟨e,fun a ha=>⟨.inl (n a ha).1,(n a ha).2⟩,c.keep (.of fun a o _ e=>hS a o e) (c.av (hA c.f) (c.fresh hp q))⟩
theorem Wd.write(W:Wd G nb ρ σ H){o:HO}(hp:nb p)(hN:NB G.B p)(ho:∀(i:Nat) a f ds,ρ[i]?=some (.own a f ds)->a≠p)(hod:∀(i:Nat) a f ds,ρ[i]?=some (.bO a f ds)->a≠p)(hoc:∀(i:Nat) c,ρ[i]?=some (.cu c)->p∉c.F):Wd G nb ρ σ (upd H p o):=by
  have hl:∀b l,G.B=some (b,l)->p≠l:=fun b l e z=>by
    obtain⟨_,_,_,_,_,_,h2,_⟩:=W.gB b l e
    rw[<-z,W.c6 p hp hN] at h2;cases h2
  have hB:jM G.B (upd H p o):=fun b l e=>(W.ay b l e).put2 ⟨hN b l e,hl b l e⟩
  have bt:∀f,bq (G.S nb f) H (upd H p o):=fun f=>bq.set (.inl hp)
  refine⟨hB,fun a n=>?_,fun a o' n e=>?_,W.c6,W.gA,W.len,W.gB,fun h m=>(W.dP h m).keep (bt h.1),fun i s e=>?_,W.apart,W.eE,W.dg⟩
  · by_cases z:a=p
    · subst z;rw[aR];exact jv _
    · rw[aA z];exact W.live a n
  · have z:a≠p:=fun z=>by subst z;rw[W.c6 a hp n] at e;cases e
    rw[aA z];exact W.old a o' n e
  · obtain⟨x,e1,h⟩:=W.ok i s e
    refine⟨x,e1,?_⟩
    cases s with
    |no=>trivial
    |d f d=>obtain⟨v,e,h⟩:=h;exact⟨v,e,h.keep (bt f)⟩
    |own a f ds=>obtain⟨e',n,q,xs,hx,hd⟩:=h;exact⟨e',n,q,xs,by rw[aA (ho i a f ds e)];exact hx,hd.keep (bt f)⟩
    |ay=>exact h
    |raw v=>exact h
    |bO a f ds=>obtain⟨e',n,q,xs,hx,hd⟩:=h;exact⟨e',n,q,xs,by rw[aA (hod i a f ds e)];exact hx,hd.keep (bt f)⟩
    | cu c =>
      obtain⟨e',n,q⟩:=h
      refine⟨e',n,c.keep (.of fun a o' ha e''=>?_) q⟩
      rw[aA]
      · exact e''
      · rintro rfl
        rcases ha with ha|ha
        · exact ha (.inl hp)
        · exact hoc i c e ha
end
end L2
set_option maxRecDepth 100000
set_option maxHeartbeats 1000000
namespace L2
open PySem PySem.Spec PyProof.Rows
abbrev Pd:=Bool->PyData->Prop
def Ev(G:Gx)(ρ:Rh)(te:TE)(Φ:Pd):Prop:=∀nb σ H (Q:VK),Wd G nb ρ σ H->(∀f v H' d,Φ f d->Step G.B H H'->ai (G.S nb f) H' d v->Q v H')->te σ H Q
def au(G:Gx)(ρ:Rh)(te:TE)(Φ:Bool->List PyData->Prop):Prop:=∀nb σ H (Q:VK),Wd G nb ρ σ H->
 (∀f a xs H' ds,Φ f ds->Step G.B H H'->H a=none->H' a=some (.lst xs)->af (fun x=>G.S nb f x\/x=a) H' ds xs->Q (.ref a) H')->te σ H Q
def Tv(G:Gx)(ρ:Rh)(tt:TT)(Φ:Bool->Prop):Prop:=∀nb σ H (Q:Bool->Hp->Prop),Wd G nb ρ σ H->(∀b H',Φ b->Step G.B H H'->Q b H')->tt σ H Q
def Ov(G:Gx)(ρ:Rh)(to:TO)(Φ:Option Int->Prop):Prop:=∀nb σ H (Q:Option Int->Hp->Prop),Wd G nb ρ σ H->(∀o H',Φ o->Step G.B H H'->Q o H')->to σ H Q
abbrev Fd:=Bool×PyData
def ki(G:Gx)(nb:Addr->Prop)(H:Hp):List Fd->List V->Prop
 |[],vs=>vs=[]
 |e::es,vs=>∃v ws,vs=v::ws/\ai (G.S nb e.1) H e.2 v/\ki G nb H es ws
def Av(G:Gx)(ρ:Rh)(ta:TA)(Φ:List Fd->Prop):Prop:=∀nb σ H (Q:List V->Hp->Prop),Wd G nb ρ σ H->(∀es vs H',Φ es->Step G.B H H'->ki G nb H' es vs->Q vs H')->ta σ H Q
def Gv(G:Gx)(ρ:Rh)(g:TG)(f:Bool)(d:PyData)(Φ:Rh->Prop):Prop:=∀nb σ H v (Q:St->Hp->Prop),Wd G nb ρ σ H->ai (G.S nb f) H d v->(∀σ' ρ',Φ ρ'->Wd G nb ρ' σ' H->Q σ' H)->g v σ H Q
def sY(G:Gx)(ρ:Rh)(g:gU)(f:Bool)(ds:List PyData)(Φ:Rh->Prop):Prop:=∀nb σ H vs (Q:St->Hp->Prop),Wd G nb ρ σ H->af (G.S nb f) H ds vs->(∀σ' ρ',Φ ρ'->Wd G nb ρ' σ' H->Q σ' H)->g vs σ H Q
structure DE where
 nx:Rh->Prop
 rt:Pd
 bk:Rh->Prop:=fun _=>False
 ct:Rh->Prop:=fun _=>False
 rw:(Addr->Prop)->Rh->V->Hp->Prop:=fun _ _ _ _=>False
structure xm(G:Gx)(E:DE)(D:Ends):Prop where
 nx:∀nb ρ σ H,E.nx ρ->Wd G nb ρ σ H->D.nx σ H
 bk:∀nb ρ σ H,E.bk ρ->Wd G nb ρ σ H->D.bk σ H
 ct:∀nb ρ σ H,E.ct ρ->Wd G nb ρ σ H->D.ct σ H
 rt:∀nb ρ σ f v H d,E.rt f d->Wd G nb ρ σ H->ai (G.S (fun _=>False) f) H d v->D.rt v H
 rw:∀nb ρ σ v H,E.rw nb ρ v H->Wd G nb ρ σ H->D.rt v H
def Sv(G:Gx)(ρ:Rh)(ts:TS)(E:DE):Prop:=∀nb σ H D,Wd G nb ρ σ H->xm G E D->ts D σ H
def gX:PyData->Bool
 | .none=>true| .bool _=>true| .int _=>true| .str _=>true|_=>false
def toV:PyData->V
 | .bool b=> .bl b| .int i=> .int i| .str x=> .str x|_=> .aE
section
variable{nb bC:Addr->Prop}{H H':Hp}{d e:PyData}{v:V}
theorem ai.sc(h:gX d=true):ai nb H d (toV d):=by
 cases d<;>first|(cases h;done)|(unfold ai;rfl)
theorem ai.Ni(h:gX d=true)(q:ai nb H d v):v=toV d:=by
 cases d<;>first|(cases h;done)|(unfold ai at q;exact q)
theorem ai.g5(h:gX d=true)(q:ai nb H d v):ai bC H' d v:=by
 rw[q.Ni h];exact .sc h
theorem af.g5:∀{ds:List PyData} {xs:List V},ds.all gX=true->af nb H ds xs->af bC H' ds xs
  |[],_,_,q=>by unfold af at q⊢;exact q
  | d :: ds, _, h, q => by
    rw[mq,er] at h
    unfold af at q⊢
    obtain⟨y,ys,e,h1,h2⟩:=q
    exact⟨y,ys,e,h1.g5 h.1,af.g5 h.2 h2⟩
end
section
variable{G:Gx}{ρ:Rh}{Φ Ψ:Pd}{ta tb te:TE}{t:TA}{i:Nat}{f g:Bool}{d e:PyData}{ds es:List PyData}{K:PySem.W.Frag}
theorem Ev.mono(h:Ev G ρ te Ψ)(q:∀f d,Ψ f d->Φ f d):Ev G ρ te Φ:=fun nb σ H Q W z=>h nb σ H Q W fun f v H' d p=>z f v H' d (q f d p)
theorem au.ev(h:au G ρ te fun f ds=>Φ f (.list ds)):Ev G ρ te Φ:=fun nb σ H Q W z=>h nb σ H Q W fun f a xs H' ds p st n e hd=>
 z f _ H' _ p st (.lst (W.fresh n) e (hd.av fun _ x=> .inl x))
namespace Ev
theorem var(e:ρ[i]?=some (.d f d))(h:Φ f d):Ev G ρ (fq i) Φ:=fun nb σ H Q W z=>by
 obtain⟨x,e1,v,rfl,hd⟩:=W.ok i _ e
 exact⟨v,e1,z f v H d h (.refl W.ay) hd⟩
theorem int{n:Int}(h:Φ true (.int n)):Ev G ρ (tC (.int n)) Φ:=fun nb σ H Q W z=>z true _ H _ h (.refl W.ay) (.int n)
theorem bl{b:Bool}(h:Φ true (.bool b)):Ev G ρ (tC (.bl b)) Φ:=fun nb σ H Q W z=>z true _ H _ h (.refl W.ay) (.bl b)
theorem aE(h:Φ true .none):Ev G ρ (tC .aE) Φ:=fun nb σ H Q W z=>z true _ H _ h (.refl W.ay) .aE
theorem iP{r:R2}(h:Ev G ρ ta fun f x=>Ev G ρ tb fun g y=>∀nb σ H u v (Q:VK),Wd G nb ρ σ H->ai (G.S nb f) H x u->ai (G.S nb g) H y v->(∀f w H' d,Φ f d->Step G.B H H'->ai (G.S nb f) H' d w->Q w H')->r u v H Q):Ev G ρ (cZ r ta tb) Φ:=fun nb σ H Q W z=>
 h nb σ H _ W fun f v1 H1 d1 p1 s1 q1=>p1 nb σ H1 _ (W.step s1) fun g v2 H2 d2 p2 s2 q2=>p2 nb σ H2 _ _ _ ((W.step s1).step s2) (q1.keep s2.cR) q2 fun f w H' d p st q=>z f w H' d p (s1.trans (s2.trans st)) q
theorem rI{C:Int->Int->Prop}{k:Int->Int->Int}(h:Ev G ρ ta fun _ x=>∃i,x= .int i/\Ev G ρ tb fun _ y=>∃j,y= .int j/\C i j/\Φ true (.int (k i j))):Ev G ρ (cZ (L2.rI C fun i j=> .int (k i j)) ta tb) Φ:=
 iP (h.mono fun f x ⟨i,ex,q⟩=>q.mono fun g y ⟨j,ey,hc,p⟩ nb σ H u v Q W hu hv z=>by
  subst ex ey;exact⟨i,j,hu.bZ,hv.bZ,hc,z true _ H _ p (.refl W.ay) (.int _)⟩)
theorem gP{k:Int->Int->Int}(h:Ev G ρ ta fun _ x=>∃i,x= .int i/\Ev G ρ tb fun _ y=>∃j,y= .int j/\Φ true (.int (k i j))):Ev G ρ (cZ (L2.gP fun i j=> .int (k i j)) ta tb) Φ:=
 iP (h.mono fun f x ⟨i,ex,q⟩=>q.mono fun g y ⟨j,ey,p⟩ nb σ H u v Q W hu hv z=>by
  subst ex ey;exact⟨i,j,hu.bZ,hv.bZ,z true _ H _ p (.refl W.ay) (.int _)⟩)
theorem LW{k:Int->Int->Bool}(h:Ev G ρ ta fun _ x=>∃i,x= .int i/\Ev G ρ tb fun _ y=>∃j,y= .int j/\Φ true (.bool (k i j))):Ev G ρ (cZ (L2.gP fun i j=> .bl (k i j)) ta tb) Φ:=
 iP (h.mono fun f x ⟨i,ex,q⟩=>q.mono fun g y ⟨j,ey,p⟩ nb σ H u v Q W hu hv z=>by
  subst ex ey;exact⟨i,j,hu.bZ,hv.bZ,z true _ H _ p (.refl W.ay) (.bl _)⟩)
theorem un{r:V->Hp->VK->Prop}(h:Ev G ρ ta fun f x=>∀nb σ H u (Q:VK),Wd G nb ρ σ H->ai (G.S nb f) H x u->(∀f w H' d,Φ f d->Step G.B H H'->ai (G.S nb f) H' d w->Q w H')->r u H Q):Ev G ρ (Bx r ta) Φ:=fun nb σ H Q W z=>
 h nb σ H _ W fun f v1 H1 d1 p1 s1 q1=>p1 nb σ H1 _ _ (W.step s1) q1 fun f w H' d p st q=>z f w H' d p (s1.trans st) q
theorem rU{k:Int->Int}(h:Ev G ρ ta fun _ x=>∃i,x= .int i/\Φ true (.int (k i))):Ev G ρ (Bx (L2.rU fun i=> .int (k i)) ta) Φ:=
 un (h.mono fun f x ⟨i,ex,p⟩ nb σ H u Q W hu z=>by subst ex;exact⟨i,hu.bZ,z true _ H _ p (.refl W.ay) (.int _)⟩)
end Ev
inductive gm:PyData->PyData->Bool->Prop
 |ii (i j:Int):gm (.int i) (.int j) (decide (i=j))
 |ni (i:Int):gm .none (.int i) false
 |XC (i:Int):gm (.int i) .none false
 |nn:gm .none .none true
 |bb (a b:Bool):gm (.bool a) (.bool b) (a==b)
 |ss (x:Str):gm (.str x) (.str x) true
 |sd (x y:Str):gm (.str x) (.str y) (decide (x=y))
theorem gm.v{nb bC:Addr->Prop}{H:Hp}{x y:PyData}{b:Bool}{u v:V}(h:gm x y b)(hu:ai nb H x u)(hv:ai bC H y v):yM u v=true/\decide (u=v)=b:=by
 cases h<;>(unfold ai at hu hv;subst hu hv;refine⟨rfl,?_⟩)
 ·exact R.z0
 ·rfl
 ·rfl
 ·rfl
 ·rename_i a b;cases a<;>cases b<;>rfl
 ·exact decide_eq_true rfl
 ·rename_i x y
  by_cases c:x=y
  ·subst c;rw[decide_eq_true rfl,decide_eq_true rfl]
  ·rw[decide_eq_false c,decide_eq_false (fun z=>c (V.str.inj z))]
theorem gm.self{d:PyData}(h:gX d=true):gm d d true:=by
 cases d<;>first|(cases h;done)|skip
 ·exact .nn
 ·rename_i b;have:=gm.bb b b;rwa[beq_self_eq_true] at this
 ·rename_i i;have:=gm.ii i i;rwa[decide_eq_true rfl] at this
 ·exact .ss _
namespace Ev
theorem eq(h:Ev G ρ ta fun _ x=>Ev G ρ tb fun _ y=>∃b,gm x y b/\Φ true (.bool b)):Ev G ρ (cZ zw ta tb) Φ:=
 iP (h.mono fun f x q=>q.mono fun g y ⟨b,e,p⟩ nb σ H u v Q W hu hv z=>by
  obtain⟨h1,h2⟩:=e.v hu hv
  exact⟨h1,by rw[h2];exact z true _ H _ p (.refl W.ay) (.bl _)⟩)
theorem ne(h:Ev G ρ ta fun _ x=>Ev G ρ tb fun _ y=>∃b,gm x y b/\Φ true (.bool !b)):Ev G ρ (cZ zH ta tb) Φ:=
 iP (h.mono fun f x q=>q.mono fun g y ⟨b,e,p⟩ nb σ H u v Q W hu hv z=>by
  obtain⟨h1,h2⟩:=e.v hu hv
  exact⟨h1,by rw[h2];exact z true _ H _ p (.refl W.ay) (.bl _)⟩)
theorem Ri{ng:Bool}(h:Ev G ρ ta fun _ x=>Ev G ρ tb fun _ y=>SeqAt.shaped x=true/\SeqAt.shaped y=true/\Φ true (.bool (PyData.eqv x y !=ng))):Ev G ρ (cZ (yN ng) ta tb) Φ:=
 iP (h.mono fun f x q=>q.mono fun g y ⟨h1,h2,p⟩ nb σ H u v Q W hu hv z=>
  ⟨G.S nb false,x,y,hu.av (cJ (fun z=>by cases z) fun _ z=>z),hv.av (cJ (fun z=>by cases z) fun _ z=>z),h1,h2,z true _ H _ p (.refl W.ay) (.bl _)⟩)
end Ev
def uu:PyData->Bool
 | .none=>true
 |_=>false
theorem HR{nb:Addr->Prop}{H:Hp}{d:PyData}{v:V}(h:ai nb H d v):decide (v= .aE)=uu d:=by
 cases d<;>unfold ai at h
 all_goals first
  |(subst h;rfl)
  |(obtain⟨a,xs,rfl,_⟩:=h;rfl)
  |exact h.elim
namespace Ev
theorem is(h:Ev G ρ ta fun _ x=>Φ true (.bool (uu x))):Ev G ρ (cZ J2 ta (tC .aE)) Φ:=
 iP (h.mono fun f x p=>Ev.aE fun nb σ H u v Q W hu hv z=>⟨hv.vL,by rw[HR hu];exact z true _ H _ p (.refl W.ay) (.bl _)⟩)
theorem R7(h:Ev G ρ ta fun _ x=>Φ true (.bool !uu x)):Ev G ρ (cZ uv ta (tC .aE)) Φ:=
 iP (h.mono fun f x p=>Ev.aE fun nb σ H u v Q W hu hv z=>⟨hv.vL,by rw[HR hu];exact z true _ H _ p (.refl W.ay) (.bl _)⟩)
end Ev
theorem af.bL{nb:Addr->Prop}{H:Hp}{ds:List PyData}{xs:List V}{k:Int}{e:PyData}(h:af nb H ds xs)(q:L2.bL ds k=some e):∃v,L2.bL xs k=some v/\ai nb H e v:=by
 unfold L2.bL at q⊢
 rw[h.length]
 cases z:fk ds.length k with
 |none=>rw[z] at q;cases q
 |some j=>rw[z] at q;exact h.get q
namespace Ev
theorem NI(h:Ev G ρ ta fun f x=>∃ds,x= .list ds/\Ev G ρ tb fun _ y=>∃k,y= .int k/\∃e,bL ds k=some e/\Φ f e):Ev G ρ (cZ (dU K) ta tb) Φ:=
 iP (h.mono fun f x ⟨ds,ex,q⟩=>q.mono fun g y ⟨k,ey,e,he,p⟩ nb σ H u v Q W hu hv z=>by
  subst ex ey
  obtain⟨a,xs,rfl,n,hx,hd⟩:=hu.cQ
  obtain⟨w,hw,hD⟩:=hd.bL he
  exact⟨a,xs,k,w,rfl,hv.bZ, .of hx,hw,z f _ H _ p (.refl W.ay) hD⟩)
theorem Wj(h:Ev G ρ ta fun f x=>∃ds,x= .tuple ds/\Ev G ρ tb fun _ y=>∃k,y= .int k/\∃e,bL ds k=some e/\Φ f e):Ev G ρ (cZ (dD K) ta tb) Φ:=
 iP (h.mono fun f x ⟨ds,ex,q⟩=>q.mono fun g y ⟨k,ey,e,he,p⟩ nb σ H u v Q W hu hv z=>by
  subst ex ey
  obtain⟨a,xs,rfl,n,hx,hd⟩:=hu.ofT
  obtain⟨w,hw,hD⟩:=hd.bL he
  exact⟨a,xs,k,w,rfl,hv.bZ, .of hx,hw,z f _ H _ p (.refl W.ay) hD⟩)
theorem N6{a:Addr}(e:ρ[i]?=some (.own a f ds))(h:Ev G ρ tb fun _ y=>∃k,y= .int k/\∃e,bL ds k=some e/\Φ f e):Ev G ρ (cZ (dU K) (fq i) tb) Φ:=fun nb σ H Q W z=>by
 obtain⟨x,e1,h1,h2,h3,xs,hx,hd⟩:=W.ok i _ e
 subst h1
 refine⟨.ref a,e1,h nb σ H _ W fun g w H1 y ⟨k,ey,e',he,p⟩ s1 hv=>?_⟩
 subst ey
 obtain⟨u,hu,hD⟩:=(hd.keep s1.cR).bL he
 exact⟨a,xs,k,u,rfl,hv.bZ, .of (s1.1 _ _ h3 hx),hu,z f _ H1 _ p s1 hD⟩
theorem BC(h:Ev G ρ ta fun _ x=>∃b,x= .bool b/\if b=true then Ev G ρ tb Φ else Φ true (.bool false)):Ev G ρ (An ta tb) Φ:=fun nb σ H Q W z=>
 h nb σ H _ W fun f v H1 d ⟨b,e,q⟩ s1 hv=>by
  subst e
  refine⟨b,by unfold ai at hv;exact hv,?_⟩
  cases b with
  |true=>rw[if_pos rfl] at q⊢;exact q nb σ H1 _ (W.step s1) fun f v H' d p st=>z f v H' d p (s1.trans st)
  |false=>rw[if_neg bV] at q⊢;exact z true _ H1 _ q s1 (.bl false)
theorem TQ{c:TT}(h:Tv G ρ c fun b=>if b=true then Ev G ρ ta Φ else Ev G ρ tb Φ):Ev G ρ (Kn c ta tb) Φ:=fun nb σ H Q W z=>
 h nb σ H _ W fun b H1 q s1=>by
  cases b with
  |true=>rw[if_pos rfl] at q⊢;exact q nb σ H1 _ (W.step s1) fun f v H' d p st=>z f v H' d p (s1.trans st)
  |false=>rw[if_neg bV] at q⊢;exact q nb σ H1 _ (W.step s1) fun f v H' d p st=>z f v H' d p (s1.trans st)
end Ev
namespace Tv
variable{Θ:Bool->Prop}{t u:TT}
theorem test(h:Ev G ρ te fun _ x=>∃b,x= .bool b/\Θ b):Tv G ρ (AD te) Θ:=fun nb σ H Q W z=>
 h nb σ H _ W fun f v H1 d ⟨b,e,q⟩ s1 hv=>by subst e;exact⟨b,by unfold ai at hv;exact hv,z b H1 q s1⟩
theorem and(h:Tv G ρ t fun b=>if b=true then Tv G ρ u Θ else Θ false):Tv G ρ (A0 t u) Θ:=fun nb σ H Q W z=>
 h nb σ H _ W fun b H1 q s1=>by
  cases b with
  |true=>rw[if_pos rfl] at q⊢;exact q nb σ H1 _ (W.step s1) fun b H' p st=>z b H' p (s1.trans st)
  |false=>rw[if_neg bV] at q⊢;exact z false H1 q s1
theorem or(h:Tv G ρ t fun b=>if b=true then Θ true else Tv G ρ u Θ):Tv G ρ (G3 t u) Θ:=fun nb σ H Q W z=>
 h nb σ H _ W fun b H1 q s1=>by
  cases b with
  |false=>rw[if_neg bV] at q⊢;exact q nb σ H1 _ (W.step s1) fun b H' p st=>z b H' p (s1.trans st)
  |true=>rw[if_pos rfl] at q⊢;exact z true H1 q s1
theorem not(h:Tv G ρ t fun b=>Θ (!b)):Tv G ρ (IL t) Θ:=fun nb σ H Q W z=>h nb σ H _ W fun b H1 q s1=>z _ H1 q s1
theorem qN(h:Θ true):Tv G ρ rK Θ:=fun nb σ H Q W z=>z true H h (.refl W.ay)
end Tv
def JF(K:PySem.W.Frag)(ta:TE):TT:=fun σ H Q=>ta σ H fun x H1=>∃k,Bb K x H1 k/\Q k H1
theorem Tv.RM{Θ:Bool->Prop}(h:Ev G ρ te fun _ x=>∃b,x= .bool b/\Θ b):Tv G ρ (JF K te) Θ:=fun nb σ H Q W z=>
 h nb σ H _ W fun f v H1 d ⟨b,e,q⟩ s1 hv=>by subst e;exact⟨b,by unfold ai at hv;subst hv;rfl,z b H1 q s1⟩
namespace Av
variable{Θ:List Fd->Prop}
theorem nil(h:Θ []):Av G ρ cy Θ:=fun nb σ H Q W z=>z [] [] H h (.refl W.ay) rfl
theorem cons(h:Ev G ρ te fun f d=>Av G ρ t fun es=>Θ ((f,d)::es)):Av G ρ (bR te t) Θ:=fun nb σ H Q W z=>
 h nb σ H _ W fun f v H1 d p1 s1 q1=>p1 nb σ H1 _ (W.step s1) fun es vs H2 p2 s2 q2=>z _ _ H2 p2 (s1.trans s2) ⟨v,vs,rfl,q1.keep s2.cR,q2⟩
theorem K7{is:List Int}(h:Θ (is.map fun i=>(true, .int i))):Av G ρ (v8 is) Θ:=fun nb σ H Q W z=>z _ _ H h (.refl W.ay) (by
 clear h
 induction is with
 |nil=>rfl
 |cons i r ih=>exact⟨_,_,rfl, .int i,ih⟩)
end Av
def i7(es:List Fd):Bool:=es.all (·.1)
theorem ki.all{nb:Addr->Prop}{H:Hp}:∀{es:List Fd} {vs:List V} {f:Bool},ki G nb H es vs->(f=true->i7 es=true)->af (G.S nb f) H (es.map (·.2)) vs
  |[],_,_,h,_=>by unfold ki at h;subst h;exact .nil
  | e :: es, _, f, h, hf => by
    obtain⟨v,ws,rfl,h1,h2⟩:=h
    refine .cons (h1.av (cJ (fun z=>?_) fun _ z=>z)) (h2.all fun z=>?_)
    · have:=hf z;simp only[i7,mq,er] at this;exact this.1
    · have:=hf z;simp only[i7,mq,er] at this;exact this.2
theorem ki.len{nb:Addr->Prop}{H:Hp}{es:List Fd}{vs:List V}(h:ki G nb H es vs):vs.length=es.length:=by
 have:=(h.all (f:=false) (fun z=>by cases z)).length
 simpa using this
namespace Ev
theorem tup(h:Av G ρ t fun es=>es.length<=10000/\Φ (i7 es) (.tuple (es.map (·.2)))):Ev G ρ (qG t) Φ:=fun nb σ H Q W z=>
 h nb σ H _ W fun es vs H1 ⟨hl,p⟩ s1 q1=>⟨dB (by rw[q1.len];exact hl) (by decide),fun a ha=>z _ _ _ _ p (s1.trans (.same (W.step s1).ay (bQ ha)))
  (.tup ((W.step s1).fresh ha) aR ((q1.all fun z=>z).keep (bq.of (bQ ha))))⟩
end Ev
theorem au.lst{Φ:Bool->List PyData->Prop}(h:Av G ρ t fun es=>es.length<=10000/\Φ (i7 es) (es.map (·.2))):au G ρ (nU t) Φ:=fun nb σ H Q W z=>
  h nb σ H _ W fun es vs H1 ⟨hl,p⟩ s1 q1=>⟨dB (by rw[q1.len];exact hl) (by decide),fun a ha=>by
    have W1:=W.step s1
    refine z _ a vs _ _ p (s1.trans (.same W1.ay (bQ ha))) ?_ aR (((q1.all fun z=>z).fresh ha).keep (bq.of (bQ ha)))
    cases e:H a with
    |none=>rfl
    | some o =>
      by_cases n:NB G.B a
      · rw[s1.1 a o n e] at ha;cases ha
      · exact absurd ha (NB.lO s1.2 n)⟩
theorem Ev.lst(h:Av G ρ t fun es=>es.length<=10000/\Φ (i7 es) (.list (es.map (·.2)))):Ev G ρ (nU t) Φ:=(au.lst (Φ:=fun f ds=>Φ f (.list ds)) h).ev
end
end L2
set_option maxRecDepth 100000
set_option maxHeartbeats 1000000
namespace L2
open PySem PySem.Spec PyProof.Rows
def iV(K:PySem.W.Frag):List V->Hp->VK->Prop:=fun xs H Q=>∃p ys,xs=[.ref p]/\(aQ K H p ys\/fQ K H p ys)/\Q (.int ys.length) H
theorem kF{X:Cx}:eS X (.builtin "len") (iV X.K):=I0
def E9:List V->Hp->VK->Prop:=fun xs H Q=>∃i j,xs=[.int i, .int j]/\Q (.int (if j<i then j else i)) H
def Hr:List V->Hp->VK->Prop:=fun xs H Q=>(∃i,xs=[.int i]/\Q (.int i) H)\/∃k,xs=[.bl k]/\Q (.int (if k then 1 else 0)) H
theorem MR{X:Cx}(hc:X.calm=true):eS X (.builtin "min") E9:=WH hc
theorem Rm{X:Cx}:eS X (.type "int") Hr:=Li
def gQ{α:Type}(xs:List α)(lo hi:Option Int):List α:=(xs.drop (HT.dO xs.length 0 lo)).take (HT.dO xs.length xs.length hi-HT.dO xs.length 0 lo)
theorem af.cut{nb:Addr->Prop}{H:Hp}{ds:List PyData}{xs:List V}{lo hi:Option Int}(h:af nb H ds xs):af nb H (gQ ds lo hi) (kU xs lo hi):=by
 unfold gQ kU
 rw[h.length]
 exact(h.drop _).take _
def dJ(ds:List PyData):Bool:=ds.all gX
section
variable{G:Gx}{ρ:Rh}{Φ Ψ:Pd}{ta tb te:TE}{t:TA}{i:Nat}{f g:Bool}{d e:PyData}{ds es:List PyData}{K:PySem.W.Frag}
theorem Wd.none_of{nb:Addr->Prop}{σ:St}{H H1:Hp}{a:Addr}(W:Wd G nb ρ σ H)(s1:Step G.B H H1)(ha:H1 a=none):H a=none:=by
  cases e:H a with
  |none=>rfl
  | some o =>
    by_cases n:NB G.B a
    · rw[s1.1 a o n e] at ha;cases ha
    · exact absurd ha (NB.lO s1.2 n)
theorem au.fin{nb:Addr->Prop}{σ:St}{H H1:Hp}{Q:VK}{Φ:Bool->List PyData->Prop}{a:Addr}{xs:List V}(W:Wd G nb ρ σ H)(s1:Step G.B H H1)(ha:H1 a=none)(hd:af (G.S nb f) H1 ds xs)(p:Φ (f||dJ ds) ds)
  (z:∀f a xs H' ds,Φ f ds->Step G.B H H'->H a=none->H' a=some (.lst xs)->af (fun x=>G.S nb f x\/x=a) H' ds xs->Q (.ref a) H'):Q (.ref a) (upd H1 a (.lst xs)):=by
 refine z _ a xs _ ds p (s1.trans (.same s1.2 (bQ ha))) (W.none_of s1 ha) aR ?_
 cases hs:dJ ds with
 |true=>exact af.g5 hs hd
 |false=>rw[nD];exact(hd.fresh ha).keep (bq.of (bQ ha))
namespace Ov
variable{Θ:Option Int->Prop}
theorem none(h:Θ none):Ov G ρ yu Θ:=fun nb σ H Q W z=>z _ H h (.refl W.ay)
theorem some(h:Ev G ρ te fun _ x=>∃k,x= .int k/\Θ (some k)):Ov G ρ (zl te) Θ:=fun nb σ H Q W z=>
 h nb σ H _ W fun f v H1 d ⟨k,e,q⟩ s1 hv=>by subst e;exact⟨k,hv.bZ,z _ H1 q s1⟩
end Ov
namespace au
variable{Θ:Bool->List PyData->Prop}
theorem sl{tl th:TO}(h:Ev G ρ te fun f x=>∃ds,x= .list ds/\Ov G ρ tl fun lo=>Ov G ρ th fun hi=>Θ (f||dJ (gQ ds lo hi)) (gQ ds lo hi)):au G ρ (qw (nB K) te tl th) Θ:=fun nb σ H Q W z=>
 h nb σ H _ W fun f v H1 d ⟨ds,e,q⟩ s1 hv=>q nb σ H1 _ (W.step s1) fun lo H2 q2 s2=>q2 nb σ H2 _ ((W.step s1).step s2) fun hi H3 q3 s3=>by
  subst e
  obtain⟨a,xs,rfl,n,hx,hd⟩:=((hv.keep s2.cR).keep s3.cR).cQ
  exact⟨a,xs,rfl, .of hx,fun p hp=>au.fin W (s1.trans (s2.trans s3)) hp hd.cut q3 z⟩
theorem listOf(h:Ev G ρ te fun f x=>∃ds,(x= .list ds\/x= .tuple ds)/\Θ (f||dJ ds) ds):au G ρ (fN (jT K) (bR te cy)) Θ:=fun nb σ H Q W z=>
 h nb σ H _ W fun f v H1 d ⟨ds,e,q⟩ s1 hv=>by
  rcases e with e|e
  ·subst e
   obtain⟨a,xs,rfl,n,hx,hd⟩:=hv.cQ
   exact⟨a,xs,rfl, .inl (.of hx),fun p hp=>au.fin W s1 hp hd q z⟩
  ·subst e
   obtain⟨a,xs,rfl,n,hx,hd⟩:=hv.ofT
   exact⟨a,xs,rfl, .inr (.of hx),fun p hp=>au.fin W s1 hp hd q z⟩
theorem cat(h:Ev G ρ ta fun f x=>∃ds,x= .list ds/\Ev G ρ tb fun g y=>∃es,y= .list es/\ds.length+es.length<=10000/\Θ ((f && g)||dJ (ds++es)) (ds++es)):au G ρ (cZ xK ta tb) Θ:=fun nb σ H Q W z=>
 h nb σ H _ W fun f v H1 d ⟨ds,e,q⟩ s1 hv=>q nb σ H1 _ (W.step s1) fun g u H2 d2 ⟨es,e2,hl,p⟩ s2 hu=>by
  subst e e2
  obtain⟨a,xs,rfl,n,hx,hd⟩:=(hv.keep s2.cR).cQ
  obtain⟨c,ys,rfl,m,hy,hc⟩:=hu.cQ
  refine⟨a,c,xs,ys,rfl,rfl,hx,hy,dB (by rw[hd.length,hc.length];exact hl) (by decide),fun p' hp=>au.fin (f:=f && g) W (s1.trans s2) hp ?_ p z⟩
  exact af.append (hd.av (cJ (fun z=>(er _ _▸z).1) fun _ z=>z)) (hc.av (cJ (fun z=>(er _ _▸z).2) fun _ z=>z))
end au
namespace Ev
theorem sl{tl th:TO}(h:Ev G ρ te fun f x=>∃ds,x= .list ds/\Ov G ρ tl fun lo=>Ov G ρ th fun hi=>Φ (f||dJ (gQ ds lo hi)) (.list (gQ ds lo hi))):Ev G ρ (qw (nB K) te tl th) Φ:=(au.sl (Θ:=fun f ds=>Φ f (.list ds)) h).ev
theorem listOf(h:Ev G ρ te fun f x=>∃ds,(x= .list ds\/x= .tuple ds)/\Φ (f||dJ ds) (.list ds)):Ev G ρ (fN (jT K) (bR te cy)) Φ:=(au.listOf (Θ:=fun f ds=>Φ f (.list ds)) h).ev
theorem cat(h:Ev G ρ ta fun f x=>∃ds,x= .list ds/\Ev G ρ tb fun g y=>∃es,y= .list es/\ds.length+es.length<=10000/\Φ ((f && g)||dJ (ds++es)) (.list (ds++es))):Ev G ρ (cZ xK ta tb) Φ:=(au.cat (Θ:=fun f ds=>Φ f (.list ds)) h).ev
theorem min2(h:Ev G ρ ta fun _ x=>∃i,x= .int i/\Ev G ρ tb fun _ y=>∃j,y= .int j/\Φ true (.int (if j<i then j else i))):Ev G ρ (fN E9 (bR ta (bR tb cy))) Φ:=fun nb σ H Q W z=>
 h nb σ H _ W fun f v H1 d ⟨i,e,q⟩ s1 hv=>q nb σ H1 _ (W.step s1) fun g u H2 d2 ⟨j,e2,p⟩ s2 hu=>by
  subst e e2
  exact⟨i,j,by rw[hv.bZ,hu.bZ],z true _ H2 _ p (s1.trans s2) (.int _)⟩
theorem We(h:Ev G ρ ta fun _ x=>∃b,x= .bool b/\Φ true (.int (if b then 1 else 0))):Ev G ρ (fN Hr (bR ta cy)) Φ:=fun nb σ H Q W z=>
 h nb σ H _ W fun f v H1 d ⟨b,e,q⟩ s1 hv=>by subst e;unfold ai at hv;subst hv;exact .inr ⟨b,rfl,z true _ H1 _ q s1 (.int _)⟩
end Ev
abbrev DF:=List PyData->Pd->Prop
def bF(n:Nat)(F:DF):Sp:=fun vs H Q _=>vs.length=n/\∃(nb:Addr->Prop) (ds:List PyData),iz nb H/\af nb H ds vs/\F ds fun f d=>∀v H',cE H H'->ai (fun a=>nb a\/(f=true/\H a≠none)) H' d v->Q v H'
def iI(n:Nat)(F:DF):Sp:=fun vs H Q _=>vs.length=n/\∃(b l:Addr) (ws:List V) (nb:Addr->Prop) (ds:List PyData),vs= .ref b::ws/\cY H b l/\iz nb H/\nb b/\af nb H ds ws/\
 F ds fun f d=>∀v H',bq (Nb b) H H'->cY H' b l->ai (fun a=>nb a\/(f=true/\H a≠none)) H' d v->Q v H'
def dS(F:DF):Prop:=∀ds (Φ Ψ:Pd),F ds Φ->(∀f d,Φ f d->Ψ f d)->F ds Ψ
theorem Ev.dw{n:Nat}{F:DF}(hm:dS F)(h:Av G ρ t fun es=>es.length=n/\F (es.map (·.2)) fun f d=>Φ (f||i7 es) d):Ev G ρ (i9 (bF n F) [] E0 t) Φ:=fun nb σ H Q W z=>
 h nb σ H _ W fun es vs H1 ⟨hl,p⟩ s1 q1=>by
  have W1:=W.step s1
  rw[j8]
  refine⟨by rw[q1.len,hl],G.S nb (i7 es),es.map (·.2),W1.kJ,q1.all fun z=>z,hm _ _ _ p fun f d hp v H' sm hd=>z _ v H' d hp (s1.trans (.same W1.ay sm)) (hd.av fun a q=>?_)⟩
  cases f with
  |false=>rw[rQ] at q;exact .inl q
  |true=>exact .inr ⟨rfl,W1.kJ a q⟩
theorem Step.tG{b l:Addr}{H H':Hp}(hB:G.B=some (b,l))(bt:bq (Nb b) H H')(B':cY H' b l):Step G.B H H':=
 ⟨fun a o n e=>bt a o (n b l hB) e,fun b' l' e=>by rw[hB] at e;cases e;exact B'⟩
theorem Wd.wc{nb:Addr->Prop}{σ:St}{H:Hp}(W:Wd G nb ρ σ H)(e:ρ[i]?=some .ay):∃b l,G.B=some (b,l)/\σ[i]?=some (some (.ref b))/\cY H b l:=by
 obtain⟨x,e1,b,l,hB,rfl⟩:=W.ok i _ e
 exact⟨b,l,hB,e1,W.ay b l hB⟩
theorem Ev.oQ{n:Nat}{F:DF}(hm:dS F)(e:ρ[i]?=some .ay)(h:Av G ρ t fun es=>es.length+1=n/\F (es.map (·.2)) fun f d=>Φ (f||i7 es) d):Ev G ρ (i9 (iI n F) [] E0 (bR (fq i) t)) Φ:=fun nb σ H Q W z=>by
 obtain⟨b,l,hB,e1,B⟩:=W.wc e
 refine⟨.ref b,e1,h nb σ H _ W fun es vs H1 ⟨hl,p⟩ s1 q1=>?_⟩
 have W1:=W.step s1
 show iI n F ((V.ref b::vs)++[]) H1 Q E0
 rw[j8]
 have hb:∀f,G.S nb f b:=fun f=> .inr (.inr (.inl fun n=>n b l hB rfl))
 refine⟨by rw[fE,q1.len,hl],b,l,vs,G.S nb (i7 es),es.map (·.2),rfl,W1.ay b l hB,W1.kJ,hb _,q1.all fun z=>z,hm _ _ _ p fun f d hp v H' bt B' hd=>z _ v H' d hp (s1.trans (.tG hB bt B')) (hd.av fun a q=>?_)⟩
 cases f with
 |false=>rw[rQ] at q;exact .inl q
 |true=>exact .inr ⟨rfl,W1.kJ a q⟩
theorem Ev.draw(e:ρ[i]?=some .ay)(h:Ev G ρ te fun _ x=>∃m:Int,x= .int m/\0<m/\Sm m/\∀r:Int,0<=r->r<m->Φ true (.int r)):Ev G ρ (i9 lI [] E0 (bR (fq i) (bR te cy))) Φ:=fun nb σ H Q W z=>by
 obtain⟨b,l,hB,e1,B⟩:=W.wc e
 refine⟨.ref b,e1,h nb σ H _ W fun f v H1 d ⟨m,ed,h1,h2,p⟩ s1 hv=>?_⟩
 subst ed
 exact⟨b,l,m,by rw[hv.bZ];rfl,s1.2 b l hB,h1,h2,fun r H' r1 r2 bt B'=>z true _ H' _ (p r r1 r2) (s1.trans (.tG hB bt B')) (.int r)⟩
theorem Ev.prime(e:ρ[i]?=some .ay)(h:∀p:Int,HE p->Φ true (.int p)):Ev G ρ (i9 R4 [] E0 (bR (fq i) cy)) Φ:=fun nb σ H Q W z=>by
 obtain⟨b,l,hB,e1,B⟩:=W.wc e
 exact⟨.ref b,e1,b,l,rfl,B,fun p H' hp bt B'=>z true _ H' _ (h p hp) (.tG hB bt B') (.int p)⟩
theorem Ev.total(h:Av G ρ t fun es=>∃(p:Int) (prs:List (Int×Int)) (wd:List (Option Int)),es.map (·.2)=[.int p, .list (prs.map pairD), .list (wd.map gY)]/\0<p/\(∀pr∈prs,0<=pr.1/\pr.1<wd.length/\Sm pr.2)/\(∀x,some x∈wd->Sm x)/\Φ true (.int (aL prs wd%p))):
  Ev G ρ (i9 qy [] E0 t) Φ:=fun nb σ H Q W z=>
 h nb σ H _ W fun es vs H1 ⟨p,prs,wd,e,h1,h2,h3,q⟩ s1 q1=>by
  have hd:=q1.all (f:=false) (fun z=>by cases z)
  rw[e] at hd
  unfold af at hd
  obtain⟨y,ys,rfl,d1,hd⟩:=hd
  unfold af at hd
  obtain⟨y2,ys,rfl,d2,hd⟩:=hd
  unfold af at hd
  obtain⟨y3,ys,rfl,d3,hd⟩:=hd
  unfold af at hd
  subst hd
  exact⟨G.S nb false,p,y2,y3,prs,wd,by rw[d1.bZ];rfl,d2,d3,h1,h2,h3,z true _ H1 _ q s1 (.int _)⟩
theorem Ev.whole(h:Ev G ρ te fun _ x=>∃n,x= .int n/\Φ true (.bool true)):Ev G ρ (i9 yG [] E0 (bR te cy)) Φ:=fun nb σ H Q W z=>
 h nb σ H _ W fun f v H1 d ⟨n,e,q⟩ s1 hv=>by subst e;exact⟨n,by rw[hv.bZ];rfl,z true _ H1 _ q s1 (.bl _)⟩
namespace Gv
variable{Θ:Rh->Prop}
theorem name(h:Θ (ρ.set i (.d f d))):Gv G ρ (ir i) f d Θ:=fun nb σ H v Q W hv z=>z _ _ h (W.nW hv)
theorem jy(h:Θ (ρ.set i (.d false d))):Gv G ρ (ir i) f d Θ:=fun nb σ H v Q W hv z=>z _ _ h (W.nW (hv.av (cJ (fun z=>by cases z) fun _ z=>z)))
theorem FJ(hs:gX d=true)(h:Θ (ρ.set i (.d true d))):Gv G ρ (ir i) f d Θ:=fun nb σ H v Q W hv z=>z _ _ h (W.nW (hv.g5 hs))
theorem iX{n:Int}(h:Θ (ρ.set i (.d true (.int n)))):Gv G ρ (ir i) f (.int n) Θ:=FJ rfl h
theorem Lq{n:Bool}(h:Θ (ρ.set i (.d true (.bool n)))):Gv G ρ (ir i) f (.bool n) Θ:=FJ rfl h
theorem tup{n:Nat}{u:gU}(hl:ds.length=n)(h:sY G ρ u f ds Θ):Gv G ρ (vI K n u) f (.tuple ds) Θ:=fun nb σ H v Q W hv z=>by
 obtain⟨a,xs,rfl,m,hx,hd⟩:=hv.ofT
 exact⟨a,xs,rfl, .of hx,by rw[hd.length];exact hl,h nb σ H xs Q W hd z⟩
theorem xC(h:Θ ρ):sY G ρ yL f [] Θ:=fun nb σ H vs Q W hv z=>by unfold af at hv;exact⟨hv,z _ _ h W⟩
theorem qb{u:TG}{us:gU}(h:Gv G ρ u f d fun fY=>sY G fY us f ds Θ):sY G ρ (xO u us) f (d::ds) Θ:=fun nb σ H vs Q W hv z=>by
 unfold af at hv
 obtain⟨y,ys,rfl,h1,h2⟩:=hv
 exact⟨y,ys,rfl,h nb σ H y _ W h1 fun σ' ρ' q W'=>q nb σ' H ys Q W' h2 z⟩
end Gv
namespace Sv
variable{E:DE}{s u:TS}
theorem seq(h:Sv G ρ s {E with nx:=fun fY=>Sv G fY u E}):Sv G ρ (qa s u) E:=fun nb σ H D W K=>h nb σ H _ W ⟨fun bC ρ' σ' H' q W'=>q bC σ' H' D W' K,K.bk,K.ct,K.rt,K.rw⟩
theorem next(h:E.nx ρ):Sv G ρ CC E:=fun nb σ H D W K=>K.nx nb ρ σ H h W
theorem brk(h:E.bk ρ):Sv G ρ OU E:=fun nb σ H D W K=>K.bk nb ρ σ H h W
theorem cont(h:E.ct ρ):Sv G ρ RL E:=fun nb σ H D W K=>K.ct nb ρ σ H h W
theorem asg{g:TG}(h:Ev G ρ te fun f d=>Gv G ρ g f d E.nx):Sv G ρ (i6 te g) E:=fun nb σ H D W K=>h nb σ H _ W fun f v H1 d q s1 hv=>q nb σ H1 v _ (W.step s1) hv fun σ' ρ' p W'=>K.nx nb ρ' σ' H1 p W'
theorem setC(h:Ev G ρ te fun f d=>E.nx (ρ.set i (.d f d))):Sv G ρ (tR i te) E:=fun nb σ H D W K=>h nb σ H _ W fun f v H1 d q s1 hv=>K.nx nb _ _ H1 q ((W.step s1).nW hv)
theorem UJ(h:Ev G ρ te fun _ d=>E.nx (ρ.set i (.d false d))):Sv G ρ (tR i te) E:=fun nb σ H D W K=>h nb σ H _ W fun f v H1 d q s1 hv=>K.nx nb _ _ H1 q ((W.step s1).nW (hv.av (cJ (fun z=>by cases z) fun _ z=>z)))
theorem ret(h:Ev G ρ te E.rt):Sv G ρ (v7 te) E:=fun nb σ H D W K=>h nb σ H _ W fun f v H1 d q s1 hv=>K.rt nb ρ σ f v H1 d q (W.step s1) (hv.av (cJ (fun z=>z) fun _ z=>z.elim))
theorem En{a:Addr}(e:ρ[i]?=some (.own a f ds))(h:E.rt f (.list ds)):Sv G ρ (v7 (fq i)) E:=fun nb σ H D W K=>by
 obtain⟨x,e1,h1,h2,h3,xs,hx,hd⟩:=W.ok i _ e
 subst h1
 refine⟨.ref a,e1,K.rt nb ρ σ f _ H _ h W (.lst (fun z=>?_) hx (hd.av (cJ (fun z=>z) fun _ z=>z.elim)))⟩
 rcases z with z|z|z|z
 ·exact z
 ·exact W.gA a z (W.c6 a h2 h3)
 ·exact z h3
 ·exact z.2 (W.c6 a h2 h3)
theorem oG{c:TT}(h:Tv G ρ c fun b=>if b=true then Sv G ρ s E else Sv G ρ u E):Sv G ρ (AV c s u) E:=fun nb σ H D W K=>h nb σ H _ W fun b H1 q s1=>by
 cases b with
 |true=>rw[if_pos rfl] at q⊢;exact q nb σ H1 D (W.step s1) K
 |false=>rw[if_neg bV] at q⊢;exact q nb σ H1 D (W.step s1) K
theorem Gd{nb:Addr->Prop}{σ:St}{H H1:Hp}{a:Addr}{xs:List V}(W:Wd G nb ρ σ H)(s1:Step G.B H H1)(ha:H a=none)(e:H1 a=some (.lst xs))(hd:af (fun x=>G.S nb f x\/x=a) H1 ds xs):
    Wd G (fun x=>nb x\/x=a) (ρ.set i (.own a f ds)) (σ.set i (some (.ref a))) H1:=by
  have hN:NB G.B a:=fun b l e z=>by
    subst z
    obtain⟨_,_,_,_,_,h1,_⟩:=W.ay _ _ e
    rw[h1] at ha;cases ha
  have hA:∀f x,G.S (fun x=>nb x\/x=a) f x->(G.S nb f x\/x=a):=fun f x z=>by
    rcases z with (z|z)|z|z|z
    · exact .inl (.inl z)
    · exact .inr z
    · exact .inl (.inr (.inl z))
    · exact .inl (.inr (.inr (.inl z)))
    · exact .inl (.inr (.inr (.inr z)))
  have W1:=W.step s1
  have W2:Wd G (fun x=>nb x\/x=a) ρ σ H1:=by
    refine⟨W1.ay,fun x n=>?_,W1.old,fun x n q=>?_,W.gA,W.len,W.gB,fun h m=>(((W.dP h m).fresh ha).keep (s1.but fun x z=> .inl (.inr (.inr (.inl z))))).av (hA h.1),fun j s e'=>?_,W.apart,W.eE,W.dg⟩
    · rcases n with n|n
      · exact W1.live x n
      · subst n;rw[e];exact jv _
    · rcases n with n|n
      · exact W.c6 x n q
      · subst n
        cases z:G.H0 x with
        |none=>rfl
        |some o=>rw[W.old x o q z] at ha;cases ha
    · obtain⟨x,e1,h⟩:=W.ok j s e'
      refine⟨x,e1,?_⟩
      cases s with
      |no=>trivial
      |d f d=>obtain⟨v,e,h⟩:=h;exact⟨v,e,((h.fresh ha).keep (s1.but fun x z=> .inl (.inr (.inr (.inl z))))).av (hA f)⟩
      |own c f es=>obtain⟨e,n,q,xs,hx,hd⟩:=h;exact⟨e, .inl n,q,xs,s1.1 _ _ q hx,((hd.fresh ha).keep (s1.but fun x z=> .inl (.inr (.inr (.inl z))))).av (hA f)⟩
      |ay=>exact h
      |raw v=>exact h
      |bO c f es=>obtain⟨e,n,q,xs,hx,hd⟩:=h;exact⟨e, .inl n,q,xs,s1.1 _ _ q hx,((hd.fresh ha).keep (s1.but fun x z=> .inl (.inr (.inr (.inl z))))).av (hA f)⟩
      | cu c =>
        obtain⟨e,n,q⟩:=h
        refine⟨e,fun a ha=>⟨.inl (n a ha).1,(n a ha).2⟩,c.av (hA c.f) (c.keep (.of fun x o hx e=>s1.1 x o ?_ e) (c.fresh ha q))⟩
        rcases hx with hx|hx
        · exact gR fun z=>hx (.inl (.inr (.inr (.inl z))))
        · exact(n x hx).2
  refine W2.set ⟨rfl, .inr rfl,hN,xs,e,hd.av (hA f)⟩ ?_ (fun _ _ _ z=>by cases z) (fun x hx j t hj ht hc=>?_)
  rotate_left
  · have hx:x=a:=aU.mp hx
    subst hx
    rcases hc with ⟨c,z⟩|⟨c,rfl⟩
    · cases z
    · exact fun z=>W.live x ((W.ok j _ ht).choose_spec.2.2.1 x z).1 ha
  rintro a' f' ds' ⟨rfl,rfl,rfl⟩ j c g cs hj hc z
  subst z
  obtain⟨x,e1,h1,h2,h3,ys,hy,_⟩:=W.ok j _ hc
  rw[hy] at ha;cases ha
theorem rX(h:au G ρ te fun f ds=>∀a,E.nx (ρ.set i (.own a f ds))):Sv G ρ (i6 te (ir i)) E:=fun nb σ H D W K=>h nb σ H _ W fun f a xs H1 ds q s1 ha e hd=>K.nx _ _ _ H1 (q a) (Gd W s1 ha e hd)
theorem MK(h:au G ρ te fun f ds=>∀a,E.nx (ρ.set i (.own a f ds))):Sv G ρ (tR i te) E:=fun nb σ H D W K=>h nb σ H _ W fun f a xs H1 ds q s1 ha e hd=>K.nx _ _ _ H1 (q a) (Gd W s1 ha e hd)
theorem CS{nb:Addr->Prop}{σ:St}{H:Hp}{a:Addr}{xs:List V}(W:Wd G nb ρ σ H)(e:ρ[i]?=some (.own a f ds))(hd:af (G.S nb g) H es xs):Wd G nb (ρ.set i (.own a g es)) σ (upd H a (.lst xs)):=by
  obtain⟨x,e1,h1,h2,h3,ys,hy,_⟩:=W.ok i _ e
  subst h1
  have hil:i<ρ.length:=(bI.mp e).1
  have W0:Wd G nb (ρ.set i .no) (σ.set i (some (.ref a))) H:=W.set trivial fun _ _ _ z=>by cases z
  have W1:Wd G nb (ρ.set i .no) (σ.set i (some (.ref a))) (upd H a (.lst xs)):=W0.write h2 h3 (fun j c f' cs hc=>by
    by_cases hij:i=j
    · subst hij;rw[dh hil] at hc;cases hc
    · rw[bN hij] at hc
      exact(W.apart i j _ _ _ _ _ _ hij e hc).symm
   ) (fun j c f' cs hc z => by
      subst z
      have hij:i≠j:=fun z=>by subst z;rw[dh hil] at hc;cases hc
      rw[bN hij] at hc
      obtain⟨_,_,_,_,_,ps,hp,_⟩:=W.ok j _ hc
      rw[hy] at hp;cases hp) (fun j c hc z=>by
      have hij:i≠j:=fun z=>by subst z;rw[dh hil] at hc;cases hc
      rw[bN hij] at hc
      exact W.dg j i c _ (bu hij) hc e a z (aU.mpr rfl))
  have W2:=W1.set (i:=i) (s:= .own a g es) (x:=some (.ref a)) ⟨rfl,h2,h3,xs,aR,hd.keep (bq.set (.inl h2))⟩ (by
    rintro a' f' ds' ⟨rfl,rfl,rfl⟩ j c g' cs hj hc
    rw[bN (bu hj)] at hc
    exact W.apart i j _ _ _ _ _ _ (bu hj) e hc) (fun _ _ _ z=>by cases z) (fun x hx j t hj ht hc z=>by
    rw[bN (bu hj)] at ht
    have hx:x=a:=aU.mp hx
    subst hx
    rcases hc with ⟨c,q⟩|⟨c,rfl⟩
    · cases q
    · exact W.dg j i c _ hj ht e x z (aU.mpr rfl))
  rw[j7,j7] at W2
  have:σ.set i (some (.ref a))=σ:=by
    apply iy
    intro j
    by_cases hij:i=j
    · subst hij;rw[dh (by rw[W.len];exact hil),e1]
    · rw[bN hij]
  rwa[this] at W2
theorem append{a:Addr}(e:ρ[i]?=some (.own a f ds))(h:Ev G ρ te fun g d=>ds.length<10000/\E.nx (ρ.set i (.own a (f && g) (ds++[d])))):Sv G ρ (Ka (DX K "list" G8 (fq i) (bR te cy))) E:=fun nb σ H D W KK=>by
 obtain⟨x,e1,h1,h2,h3,xs,hx,hd⟩:=W.ok i _ e
 subst h1
 refine⟨.ref a,e1, .inl ⟨rfl,_,aQ.of hx⟩,h nb σ H _ W fun g v H1 d ⟨hl,q⟩ s1 hv=>?_⟩
 have W1:=W.step s1
 have QG:=s1.1 _ _ h3 hx
 refine⟨a,xs,v,rfl,rfl,QG,eg (by rw[hd.length];exact hl) (by decide),KK.nx nb _ _ _ q (CS W1 e ?_)⟩
 exact af.snoc (hv.av (cJ (fun z=>(er _ _▸z).2) fun _ z=>z)) ((hd.keep s1.cR).av (cJ (fun z=>(er _ _▸z).1) fun _ z=>z))
theorem af.set'{nb:Addr->Prop}{H:Hp}{x:V}(hd:ai nb H d x):∀{ds:List PyData} {xs:List V} (j:Nat),af nb H ds xs->af nb H (ds.set j d) (xs.set j x)
 |[],_,j,h=>by unfold af at h;subst h;exact .nil
 |e::ds,_,0,h=>by unfold af at h;obtain⟨y,ys,rfl,h1,h2⟩:=h;exact .cons hd h2
 |e::ds,_,j+1,h=>by unfold af at h;obtain⟨y,ys,rfl,h1,h2⟩:=h;exact .cons h1 (af.set' hd j h2)
theorem qt{a:Addr}(e:ρ[i]?=some (.own a f ds))(h:Ev G ρ te fun g d=>Ev G ρ tb fun _ y=>∃k j,y= .int k/\fk ds.length k=some j/\E.nx (ρ.set i (.own a (f && g) (ds.set j d)))):Sv G ρ (i6 te (rq (fq i) tb u7)) E:=fun nb σ H D W KK=>
 h nb σ H _ W fun g v H1 d q s1 hv=>by
  obtain⟨x,e1,h1,h2,h3,xs,hx,hd⟩:=(W.step s1).ok i _ e
  subst h1
  refine⟨.ref a,e1,q nb σ H1 _ (W.step s1) fun g' u H2 y ⟨k,j,ey,hj,p⟩ s2 hu=>?_⟩
  subst ey
  have W2:=(W.step s1).step s2
  refine⟨a,xs,k,j,rfl,hu.bZ,s2.1 _ _ h3 hx,by rw[hd.length];exact hj,KK.nx nb _ _ _ p (CS W2 e ?_)⟩
  exact af.set' ((hv.keep s2.cR).av (cJ (fun z=>(er _ _▸z).2) fun _ z=>z)) j ((hd.keep s2.cR).av (cJ (fun z=>(er _ _▸z).1) fun _ z=>z))
theorem share{nb:Addr->Prop}{σ:St}{H:Hp}{a:Addr}(W:Wd G nb ρ σ H)(e:ρ[i]?=some (.own a f ds)):Wd G (fun x=>nb x/\x≠a) (ρ.set i (.d f (.list ds))) σ H:=by
  obtain⟨x,e1,h1,h2,h3,xs,hx,hd⟩:=W.ok i _ e
  subst h1
  have hil:i<ρ.length:=(bI.mp e).1
  have W0:Wd G nb (ρ.set i .no) (σ.set i (some (.ref a))) H:=W.set trivial fun _ _ _ z=>by cases z
  have W1:Wd G (fun x=>nb x/\x≠a) (ρ.set i .no) (σ.set i (some (.ref a))) H:=by
    refine⟨W0.ay,fun x n=>W0.live x n.1,W0.old,fun x n=>W0.c6 x n.1,W0.gA,W0.len,W0.gB,fun h m=>(W0.dP h m).av (cJ (fun z=>z) fun _ z=>z.1),fun j s e'=>?_,W0.apart,W0.eE,W0.dg⟩
    obtain⟨x,lM,h⟩:=W0.ok j s e'
    refine⟨x,lM,?_⟩
    have hij:s≠ .no->i≠j:=fun n z=>by subst z;rw[dh hil] at e';cases e';exact n rfl
    cases s with
    |no=>trivial
    |d f d=>obtain⟨v,e,h⟩:=h;exact⟨v,e,h.av (cJ (fun z=>z) fun _ z=>z.1)⟩
    | own c f es =>
      obtain⟨e2,n,q,xs,hx,hd⟩:=h
      have hij:=hij (by intro z;cases z)
      rw[bN hij] at e'
      exact⟨e2,⟨n,(W.apart i j _ _ _ _ _ _ hij e e').symm⟩,q,xs,hx,hd.av (cJ (fun z=>z) fun _ z=>z.1)⟩
    |ay=>exact h
    |raw v=>exact h
    | bO c f es =>
      obtain⟨e2,n,q,ps,hp,hd⟩:=h
      have hca:c≠a:=fun z=>by subst z;rw[hx] at hp;cases hp
      exact⟨e2,⟨n,hca⟩,q,ps,hp,hd.av (cJ (fun z=>z) fun _ z=>z.1)⟩
    | cu c =>
      obtain⟨e2,n,q⟩:=h
      have hij:=hij (by intro z;cases z)
      rw[bN hij] at e'
      exact⟨e2,fun x hx=>⟨⟨(n x hx).1,fun z=>W.dg j i c _ (bu hij) e' e x hx (by rw[z];exact aU.mpr rfl)⟩,(n x hx).2⟩,c.av (cJ (fun z=>z) fun _ z=>z.1) q⟩
  have W2:=W1.nW (i:=i) (f:=f) (d:= .list ds) (v:= .ref a) (.lst (fun z=>by
    rcases z with z|z|z|z
    · exact z.2 rfl
    · exact W.gA a z (W.c6 a h2 h3)
    · exact z h3
    · exact z.2 (W.c6 a h2 h3)) hx (hd.av (cJ (fun z=>z) fun _ z=>z.1)))
  rw[j7,j7] at W2
  have:σ.set i (some (.ref a))=σ:=by
    apply iy
    intro j
    by_cases hij:i=j
    · subst hij;rw[dh (by rw[W.len];exact hil),e1]
    · rw[bN hij]
  rwa[this] at W2
theorem sW{a:Addr}(i:Nat)(e:ρ[i]?=some (.own a f ds))(h:Sv G (ρ.set i (.d f (.list ds))) s E):Sv G ρ s E:=fun nb σ H D W K=>h _ σ H D (share W e) K
theorem wk{ρ':Rh}(w:Wk ρ' ρ)(h:Sv G ρ' s E):Sv G ρ s E:=fun nb σ H D W K=>h nb σ H D (W.wk w) K
end Sv
end
end L2
set_option maxRecDepth 100000
set_option maxHeartbeats 1000000
namespace L2
open PySem PySem.Spec PyProof.Rows
abbrev Gx.hd(G:Gx)(f:Bool)(d:PyData)(v:V):Gx:={G with hold:=(f, .d d,v)::G.hold}
section
variable{G:Gx}{ρ bA:Rh}{Φ Ψ:Pd}{ta tb te:TE}{t:TA}{i:Nat}{f g:Bool}{d e:PyData}{ds es:List PyData}{K:PySem.W.Frag}
theorem Wd.hd{nb:Addr->Prop}{σ:St}{H:Hp}{v:V}(W:Wd G nb ρ σ H)(h:ai (G.S nb f) H d v):Wd (G.hd f d v) nb ρ σ H:=
 ⟨W.ay,W.live,W.old,W.c6,W.gA,W.len,W.gB,fun x m=>by
  rcases aP.mp m with e|m
  ·subst e;exact h
  ·exact W.dP x m,fun i s e=>by
   obtain⟨x,e1,h⟩:=W.ok i s e
   refine⟨x,e1,?_⟩
   cases s<;>exact h,W.apart,W.eE,W.dg⟩
theorem Wd.cO{nb:Addr->Prop}{σ:St}{H:Hp}{v:V}(W:Wd (G.hd f d v) nb ρ σ H):Wd G nb ρ σ H/\ai (G.S nb f) H d v:=
 ⟨⟨W.ay,W.live,W.old,W.c6,W.gA,W.len,W.gB,fun x m=>W.dP x (bJ _ m),fun i s e=>by
   obtain⟨x,e1,h⟩:=W.ok i s e
   refine⟨x,e1,?_⟩
   cases s<;>exact h,W.apart,W.eE,W.dg⟩,W.dP _ (ck ..)⟩
namespace Sv
variable{E:DE}{s:TS}{gt:TG}
def qq(G:Gx)(ρ:Rh)(n:Nat)(it:Nat->PyData->Prop)(fi:Bool)(gt:TG)(s:TS)(E:DE):Prop:=
 ∃I:Nat->Rh->Prop,I 0 ρ/\(∀i d ρ',it i d->I i ρ'->Gv G ρ' gt fi d fun sj=>Sv G sj s {nx:=I (i+1),rt:=E.rt,bk:=E.nx,ct:=I (i+1),rw:=E.rw})/\∀ρ',I n ρ'->E.nx ρ'
theorem ME{lo:Int}{n:Nat}{nb:Addr->Prop}{σ:St}{H:Hp}{D:Ends}(W:Wd G nb ρ σ H)(KK:xm G E D)(h:qq G ρ n (fun i d=>i<n/\d= .int (lo+i)) true gt s E):
  ∃W:Nat->Nat->St->Hp->Prop,(∃m,W 0 m σ H)/\∀i m σ H,W i m σ H->
   ((iC lo n).stop i H/\D.nx σ H)\/((iC lo n).go i H/\∃N:St->Hp->Prop,(∀σ' H',N σ' H'->∃m',m'<m/\W (i+1) m' σ' H')/\∀x H',(iC lo n).k7 i H x H'->gt x σ H' fun σ2 H2=>s {D with nx:=N,ct:=N,bk:=D.nx} σ2 H2):=by
 obtain⟨I,h0,ht,he⟩:=h
 refine BS (fun i σ H=>∃nb ρ',I i ρ'/\Wd G nb ρ' σ H) ⟨nb,ρ,h0,W⟩ ?_ ?_
 ·rintro i σ H hi ⟨nb,ρ',hI,W⟩
  refine ht i _ ρ' ⟨hi,rfl⟩ hI nb σ H _ _ W (.int _) fun σ2 sj q W2=>q nb σ2 H _ W2 ?_
  exact⟨fun nb ρ σ H q W=>⟨nb,ρ,q,W⟩,KK.nx,fun nb ρ σ H q W=>⟨nb,ρ,q,W⟩,KK.rt,KK.rw⟩
 ·rintro σ H ⟨nb,ρ',hI,W⟩
  exact KK.nx nb ρ' σ H (he ρ' hI) W
theorem WZ(h:Ev G ρ te fun _ x=>∃n:Int,x= .int n/\ -(2^62)<=n/\n<2^62/\qq G ρ n.toNat (fun i d=>i<n.toNat/\d= .int (0+i)) true gt s E):Sv G ρ (oS (tL (bR te cy)) gt s) E:=fun nb σ H D W KK=>
 h nb σ H _ W fun f v H1 x ⟨n,ex,h1,h2,q⟩ s1 hv=>by
  subst ex
  rw[hv.bZ]
  exact⟨n,rfl,h1,h2,ME (W.step s1) KK q⟩
theorem forL(h:Ev G ρ te fun f x=>∃ds,x= .list ds/\∀v,qq (G.hd f (.list ds) v) ρ ds.length (fun i d=>ds[i]?=some d) f gt s E):Sv G ρ (oS (rS K te) gt s) E:=fun nb σ H D W KK=>
 h nb σ H _ W fun f v H1 x ⟨ds,ex,q⟩ s1 hv=>by
  subst ex
  obtain⟨I,h0,ht,he⟩:=q v
  have W1:=(W.step s1).hd hv
  obtain⟨a,xs,rfl,n,hx,hd⟩:=hv.cQ
  have key:∀{nb ρ' σ H},Wd (G.hd f (.list ds) (.ref a)) nb ρ' σ H->∃xs,H a=some (.lst xs)/\af (G.S nb f) H ds xs:=fun W=>by
   obtain⟨a',xs',e',_,h',d'⟩:=W.cO.2.cQ
   cases e'
   exact⟨xs',h',d'⟩
  refine⟨a,rfl,⟨xs, .of hx⟩,?_⟩
  refine⟨fun i m σ H=>m=ds.length-i/\i<=ds.length/\∃nb ρ',I i ρ'/\Wd (G.hd f (.list ds) (.ref a)) nb ρ' σ H,⟨ds.length,by simp,eU _,nb,ρ,h0,W1⟩,?_⟩
  rintro i m σ H ⟨rfl,hi,nb,ρ',hI,W⟩
  obtain⟨ys,hy,hD⟩:=key W
  have hl:=hD.length
  by_cases hlt:i<ds.length
  ·refine .inr ⟨⟨ys,ys[i]'(by omega), .of hy,aD _⟩,fun σ H=>∃nb ρ',I (i+1) ρ'/\Wd (G.hd f (.list ds) (.ref a)) nb ρ' σ H,fun σ' H' q=>⟨ds.length-(i+1),by omega,rfl,hlt,q⟩,fun x H' y=>?_⟩
   obtain⟨e,y⟩:=y
   subst e
   have hx:=y ys (.of hy)
   obtain⟨x',hx',dx⟩:=hD.get (aD hlt)
   rw[hx] at hx';cases hx'
   refine ht i _ ρ' (aD hlt) hI nb σ _ _ _ W dx fun σ2 sj q W2=>q nb σ2 _ _ W2 ?_
   exact⟨fun nb ρ σ H q W=>⟨nb,ρ,q,W⟩,fun nb ρ σ H q W=>KK.nx nb ρ σ H q W.cO.1,fun nb ρ σ H q W=>⟨nb,ρ,q,W⟩,fun nb ρ σ f v H d q W hv=>KK.rt nb ρ σ f v H d q W.cO.1 hv,fun nb ρ σ v H q W=>KK.rw nb ρ σ v H q W.cO.1⟩
  ·have e:i=ds.length:=by omega
   subst e
   exact .inl ⟨⟨ys, .of hy,by omega⟩,KK.nx nb ρ' σ H (he ρ' hI) W.cO.1⟩
end Sv
def jA(mp:List (Option Nat))(ρ:Rh):Rh:=mp.map fun o=>match o with|none=> .no|some j=>match ρ[j]? with|some s=>s|none=> .no
theorem Ay{mp:List (Option Nat)}(h:(mp.filterMap id).Nodup):∀{i j k:Nat},mp[i]?=some (some k)->mp[j]?=some (some k)->i=j:=by
  induction mp with
  |nil=>intro i j k e;simp at e
  | cons o r ih =>
    intro i j k e1 e2
    have hr:(r.filterMap id).Nodup:=by
      cases o with
      |none=>simpa using h
      |some x=>rw[J7 (by rfl)] at h;exact(ic.mp h).2
    have hn:∀{m:Nat},r[m]?=some (some k)->o≠some k:=fun{m} hm e=>by
      subst e
      rw[J7 (by rfl)] at h
      exact(ic.mp h).1 (wU.mpr ⟨some k,bD hm,rfl⟩)
    cases i with
    | zero =>
      cases j with
      |zero=>rfl
      |succ j=>simp at e1 e2;exact absurd e1 (hn e2)
    | succ i =>
      cases j with
      |zero=>simp at e1 e2;exact absurd e2 (hn e1)
      |succ j=>simp at e1 e2;rw[ih hr e1 e2]
theorem Wd.ef{nb:Addr->Prop}{σ:St}{H:Hp}{mp:List (Option Nat)}(W:Wd G nb ρ σ H)(hm:(mp.filterMap id).Nodup):Wd G nb (jA mp ρ) (ef mp σ) H:=by
  have hat:∀{i:Nat} {s:Sl},(jA mp ρ)[i]?=some s->s= .no\/∃k,mp[i]?=some (some k)/\ρ[k]?=some s:=fun{i s} e=>by
    unfold jA at e
    rw[bx] at e
    obtain⟨o,ho,e⟩:=kj.mp e
    cases o with
    |none=>exact .inl e.symm
    | some k =>
      cases hk:ρ[k]? with
      |none=>simp only[hk] at e;exact .inl e.symm
      |some s'=>simp only[hk] at e;subst e;exact .inr ⟨k,ho,hk⟩
  refine⟨W.ay,W.live,W.old,W.c6,W.gA,by unfold L2.ef jA;rw[aj,aj],W.gB,W.dP,fun i s e=>?_,fun i j a f as c g cs hij e1 e2=>?_,fun i j a f as c g cs hij e1 e2=>?_,fun i j c t hij e1 e2 a ha=>?_⟩
  · have hi:i<mp.length:=by have:=(bI.mp e).1;unfold jA at this;rwa[aj] at this
    rcases hat e with rfl|⟨k,hk,hs⟩
    · exact⟨_,by unfold L2.ef;rw[bx,aD hi];rfl,trivial⟩
    · obtain⟨x,e1,h⟩:=W.ok k s hs
      refine⟨x,?_,h⟩
      unfold L2.ef
      rw[bx,hk]
      simp only[Option.map_some,e1]
  · rcases hat e1 with z|⟨k,hk,hs⟩
    · cases z
    rcases hat e2 with z|⟨k',hk',hs'⟩
    · cases z
    exact W.apart k k' a f as c g cs (fun z=>by subst z;exact hij (Ay hm hk hk')) hs hs'
  · rcases hat e1 with z|⟨k,hk,hs⟩
    · cases z
    rcases hat e2 with z|⟨k',hk',hs'⟩
    · cases z
    exact W.eE k k' a f as c g cs (fun z=>by subst z;exact hij (Ay hm hk hk')) hs hs'
  · rcases hat e1 with z|⟨k,hk,hs⟩
    · cases z
    rcases hat e2 with z|⟨k',hk',hs'⟩
    · subst z;exact fun z=>by cases z
    exact W.dg k k' c t (fun z=>by subst z;exact hij (Ay hm hk hk')) hs hs' a ha
def Fp(ρ:Rh)(acc:Addr):Prop:=(∀(j:Nat) a f ds,ρ[j]?=some (.own a f ds)->a≠acc)/\∀(j:Nat) c,ρ[j]?=some (.cu c)->acc∉c.F
def dZ(G:Gx)(bA:Rh)(n:Nat)(it:Nat->PyData->Prop)(fi:Bool)(gt:TG)(tc:TT)(te:TE)(Θ:Bool->List PyData->Prop):Prop:=
 ∃(fl:Bool) (I:Nat->List PyData->Prop),I 0 []/\(∀i d ds,it i d->ds.length<=i->I i ds->Gv G bA gt fi d fun fY=>Wk bA fY/\Tv G fY tc fun b=>if b=true then Ev G fY te fun f e=>(fl=true->f=true)/\I (i+1) (ds++[e]) else I (i+1) ds)/\
  ∀ds,ds.length<=n->I n ds->Θ (fl||dJ ds) ds
theorem su{gt:TG}{tc:TT}{nb:Addr->Prop}{acc:Addr}{σ:St}{H H1:Hp}{x:V}{fi fl:Bool}{I:Nat->List PyData->Prop}{xs:List V}{N:St->Hp->Prop}{ds:List PyData}{n:Nat}(hn:n<=10000)(hi:i<n)
    (W:Wd G nb bA σ H) (ha:nb acc) (hN:NB G.B acc) (hno:Fp bA acc) (st:Step G.B H1 H) (hacc:H1 acc=none) (hx:H acc=some (.lst xs)) (hd:af (G.S nb fl) H ds xs) (hl:ds.length<=i) (hxd:ai (G.S nb fi) H d x)
    (h:Gv G bA gt fi d fun fY=>Wk bA fY/\Tv G fY tc fun b=>if b=true then Ev G fY te fun f e=>(fl=true->f=true)/\I (i+1) (ds++[e]) else I (i+1) ds)
    (z:∀σ' H' ds' xs',Wd G nb bA σ' H'->Step G.B H1 H'->H' acc=some (.lst xs')->af (G.S nb fl) H' ds' xs'->ds'.length<=i+1->I (i+1) ds'->N σ' H'):
    gt x σ H fun σ2 H2=>tc σ2 H2 fun b H3=>if b=true then te σ2 H3 fun v H4=>∃ys,H4 acc=some (.lst ys)/\ys.length<sizeLine/\N σ2 (upd H4 acc (.lst (ys++[v]))) else N σ2 H3:=by
  refine h nb σ H x _ W hxd fun σ2 fY ⟨wk,q⟩ W2=>q nb σ2 H _ W2 fun b H3 q3 s3=>?_
  have JY:=s3.1 _ _ hN hx
  have IT:=hd.keep (s3.cR (nb:=nb) (f:=fl))
  cases b with
  | false =>
    rw[if_neg bV] at q3⊢
    exact z σ2 H3 ds xs ((W2.step s3).wk wk) (st.trans s3) JY IT (by omega) q3
  | true =>
    rw[if_pos rfl] at q3⊢
    refine q3 nb σ2 H3 _ (W2.step s3) fun f v H4 e ⟨hf,hI⟩ s4 hv=>?_
    have Eb:=s4.1 _ _ hN JY
    have Kz:=IT.keep (s4.cR (nb:=nb) (f:=fl))
    have hlen:=hd.length
    refine⟨xs,Eb,eg (show xs.length<10001 by omega) (by decide),?_⟩
    have W4:Wd G nb bA σ2 H4:=((W2.step s3).step s4).wk wk
    have bt:bq (G.S nb fl) H4 (upd H4 acc (.lst (xs++[v]))):=bq.set (.inl ha)
    have W5:Wd G nb bA σ2 (upd H4 acc (.lst (xs++[v]))):=W4.write ha hN hno.1 (fun j a f ds e z=>by
      subst z
      obtain⟨_,_,_,_,_,ps,hp,_⟩:=W4.ok j _ e
      rw[Eb] at hp;cases hp) hno.2
    refine z σ2 _ (ds++[e]) (xs++[v]) W5 ⟨fun a o n q=>?_,W5.ay⟩ aR (af.snoc ((hv.av (cJ hf fun _ z=>z)).keep bt) (Kz.keep bt)) (by rw[fF,lB];omega) hI
    have hne:a≠acc:=fun z=>by subst z;rw[hacc] at q;cases q
    rw[aA hne]
    exact(st.trans (s3.trans s4)).1 a o n q
theorem rY{nb:Addr->Prop}{σ:St}{H:Hp}{a:Addr}(W:Wd G nb ρ σ H)(ha:H a=none):Fp ρ a:=by
 refine⟨fun j c f ds e z=>?_,fun j c e z=>?_⟩
 ·subst z
  obtain⟨x,e1,h1,h2,h3,ys,hy,_⟩:=W.ok j _ e
  rw[hy] at ha;cases ha
 ·obtain⟨x,e1,h1,h2,h3⟩:=W.ok j _ e
  exact W.live a (h2 a z).1 ha
theorem KJ{nb:Addr->Prop}{a:Addr}{f:Bool}:∀x,(G.S nb f x\/x=a)->G.S (fun x=>nb x\/x=a) f x:=fun x z=>by
 rcases z with (z|z|z|z)|z
 ·exact .inl (.inl z)
 ·exact .inr (.inl z)
 ·exact .inr (.inr (.inl z))
 ·exact .inr (.inr (.inr z))
 ·exact .inl (.inr z)
theorem oY{nb:Addr->Prop}{acc:Addr}{H H1 H':Hp}{σ:St}{Q:VK}{Θ:Bool->List PyData->Prop}{xs:List V}{ds:List PyData}{fl:Bool}(W:Wd G nb ρ σ H)(s1:Step G.B H H1)(hacc:H1 acc=none)(s2:Step G.B H1 H')(hx:H' acc=some (.lst xs))(hd:af (G.S (fun x=>nb x\/x=acc) fl) H' ds xs)(p:Θ (fl||dJ ds) ds)
  (z:∀f a xs H' ds,Θ f ds->Step G.B H H'->H a=none->H' a=some (.lst xs)->af (fun x=>G.S nb f x\/x=a) H' ds xs->Q (.ref a) H'):Q (.ref acc) H':=by
 refine z _ acc xs H' ds p (s1.trans s2) (W.none_of s1 hacc) hx ?_
 cases hs:dJ ds with
 |true=>exact af.g5 hs hd
 |false=>rw[nD];exact hd.av KJ
theorem NB.new{B:Bg}{H:Hp}{a:Addr}(h:jM B H)(ha:H a=none):NB B a:=gR fun z=>NB.lO h z ha
namespace au
variable{Θ:Bool->List PyData->Prop}{gt:TG}{tc:TT}{mp:List (Option Nat)}
theorem Oe{lo:Int}{n:Nat}{nb:Addr->Prop}{σ:St}{H H1:Hp}{Q:VK}(W:Wd G nb ρ σ H)(s1:Step G.B H H1)(hm:(mp.filterMap id).Nodup)(cI:jA mp ρ=bA)(hn:n<=10000)(h:dZ G bA n (fun i d=>i<n/\d= .int (lo+i)) true gt tc te Θ)
  (z:∀f a xs H' ds,Θ f ds->Step G.B H H'->H a=none->H' a=some (.lst xs)->af (fun x=>G.S nb f x\/x=a) H' ds xs->Q (.ref a) H') (acc:Addr) (hacc:H1 acc=none):mO (iC lo n) gt tc te acc (fun H'=>Q (.ref acc) H') (ef mp σ) (upd H1 acc (.lst [])):=by
 obtain⟨fl,I,h0,ht,he⟩:=h
 have W0:Wd G nb bA (L2.ef mp σ) H1:=by rw[<-cI];exact(W.step s1).ef hm
 have W1:=W0.more hacc (o:= .lst [])
 have hN:=NB.new s1.2 hacc
 have hno:=rY W0 hacc
 have jh:Step G.B H1 (upd H1 acc (.lst [])):= .same s1.2 (bQ hacc)
 refine R.Ef (fun i σ H=>∃ds xs,Wd G (fun x=>nb x\/x=acc) bA σ H/\Step G.B H1 H/\H acc=some (.lst xs)/\af (G.S (fun x=>nb x\/x=acc) fl) H ds xs/\ds.length<=i/\I i ds) ⟨[],[],W1,jh,aR, .nil,aS _,h0⟩ ?_ ?_
 ·rintro i σ H hi ⟨ds,xs,W,st,hx,hd,hl,hI⟩
  exact su hn hi W (.inr rfl) hN hno st hacc hx hd hl (.int _) (ht i _ ds ⟨hi,rfl⟩ hl hI) fun σ' H' ds' xs' W' st' hx' hd' hl' hI'=>⟨ds',xs',W',st',hx',hd',hl',hI'⟩
 ·rintro σ H' ⟨ds,xs,W',st,hx,hd,hl,hI⟩
  exact oY W s1 hacc st hx hd (he ds hl hI) z
theorem mF{t0:TE}(hm:(mp.filterMap id).Nodup)(cI:jA mp ρ=bA)(h:Ev G ρ t0 fun _ x=>∃n:Int,x= .int n/\ -10000<=n/\n<=10000/\dZ G bA n.toNat (fun i d=>i<n.toNat/\d= .int (0+i)) true gt tc te Θ):au G ρ (jG (tL (bR t0 cy)) gt tc te mp) Θ:=fun nb σ H Q W z=>
 h nb σ H _ W fun f v H1 x ⟨n,ex,h1,h2,q⟩ s1 hv=>by
  subst ex
  rw[hv.bZ]
  exact⟨n,rfl,by omega,by omega,Oe W s1 hm cI (by omega) q z⟩
theorem gx{t0:TE}(hm:(mp.filterMap id).Nodup)(cI:jA mp ρ=bA)(h:Ev G ρ t0 fun fi x=>∃es,x= .list es/\es.length<=10000/\∀v,dZ (G.hd fi (.list es) v) bA es.length (fun i d=>es[i]?=some d) fi gt tc te Θ):au G ρ (jG (rS K t0) gt tc te mp) Θ:=fun nb σ H Q W z=>
 h nb σ H _ W fun fi v H1 x ⟨es,ex,hn,q⟩ s1 hv=>by
  subst ex
  obtain⟨fl,I,h0,ht,he⟩:=q v
  have W0:=(W.step s1).hd hv
  obtain⟨a,xs,rfl,n,hx,hd⟩:=hv.cQ
  refine⟨a,rfl,⟨xs, .of hx⟩,fun acc hacc=>?_⟩
  have mh:Wd (G.hd fi (.list es) (.ref a)) nb bA (L2.ef mp σ) H1:=by rw[<-cI];exact W0.ef hm
  have W1:=mh.more hacc (o:= .lst [])
  have hN:=NB.new s1.2 hacc
  have hno:=rY mh hacc
  have jh:Step G.B H1 (upd H1 acc (.lst [])):= .same s1.2 (bQ hacc)
  have lP:NB G.B a:=gR fun z=>n (.inr (.inr (.inl z)))
  refine R.Eh (xs:=xs) (fun i σ H=>∃ds ys,Wd (G.hd fi (.list es) (.ref a)) (fun x=>nb x\/x=acc) bA σ H/\Step G.B H1 H/\H acc=some (.lst ys)/\af (G.S (fun x=>nb x\/x=acc) fl) H ds ys/\ds.length<=i/\I i ds) ⟨[],[],W1,jh,aR, .nil,aS _,h0⟩ ?_ ?_ ?_
  ·rintro i σ H hi ⟨ds,ys,W,st,_⟩
   exact .of (st.1 _ _ lP hx)
  ·rintro i x σ H hi ⟨ds,ys,W,st,hy,hd',hl,hI⟩
   obtain⟨a',xs',e',_,h',d'⟩:=W.cO.2.cQ
   cases e'
   rw[st.1 _ _ lP hx] at h';cases h'
   have hil:i<es.length:=by have:=(bI.mp hi).1;have:=d'.length;omega
   obtain⟨x',hx',dx⟩:=d'.get (aD hil)
   rw[hi] at hx';cases hx'
   exact su (G:=G.hd fi (.list es) (.ref a)) hn hil W (.inr rfl) hN hno st hacc hy hd' hl dx (ht i _ ds (aD hil) hl hI) fun σ' H' ds' xs' W' st' hx' hd' hl' hI'=>⟨ds',xs',W',st',hx',hd',hl',hI'⟩
  ·rintro σ H' ⟨ds,ys,W',st,hy,hd',hl,hI⟩
   rw[hd.length] at hl hI
   exact oY W s1 hacc st hy hd' (he ds hl hI) z
end au
end
end L2
set_option maxRecDepth 100000
set_option maxHeartbeats 1000000
namespace L2
open PySem PySem.Spec PyProof.Rows
section
variable{ρ:Rh}{t:TS}{N:List Str}{vs:List V}{ds:List PyData}{nb:Addr->Prop}{H:Hp}{Q:VK}{Φ:Pd}{b l:Addr}
theorem jo{xs:List V}(h:af nb H ds xs){i:Nat}{s:Sl}(e:(ds.map (Sl.d false))[i]?=some s):∃v d,xs[i]?=some v/\s= .d false d/\ai nb H d v:=by
 rw[bx] at e
 obtain⟨d,hd,e⟩:=kj.mp e
 obtain⟨v,hv,q⟩:=h.get hd
 exact⟨v,d,hv,e.symm,q⟩
theorem Sv.gy(hl:iz nb H)(hd:af nb H ds vs)(aF:∀f d v H',Φ f d->cE H H'->ai (fun a=>nb a\/(f=true/\H a≠none)) H' d v->Q v H')
  (cI:ρ=ds.map (Sl.d false)++List.replicate (N.length-ds.length) .no) (h:Sv ⟨none,H,nb,[]⟩ ρ t {nx:=fun _=>Φ true .none,rt:=Φ}):t {nx:=fun _ H'=>Q .aE H',rt:=Q} (start N vs) H:=by
 have hlen:=hd.length
 have sm:∀{bC ρ' σ' H'},Wd ⟨none,H,nb,[]⟩ bC ρ' σ' H'->cE H H':=fun W a o e=>W.old a o (fun _ _ z=>(by cases z)) e
 refine h (fun _=>False) _ H _ ⟨fun _ _ z=>(by cases z),fun _ z=>z.elim,fun _ _ _ e=>e,fun _ z=>z.elim,hl,?_,fun _ _ z=>(by cases z),fun _ m=>(by cases m),fun i s e=>?_,?_,?_,?_⟩ ⟨fun bC ρ' σ' H' q W=>aF _ _ _ _ q (sm W) .aE,fun _ _ _ _ q _=>q.elim,fun _ _ _ _ q _=>q.elim,fun bC ρ' σ' f v H' d q W hv=>aF f d v H' q (sm W) (hv.av fun a z=>?_),fun _ _ _ _ _ q _=>q.elim⟩
 ·rw[cI];unfold start;simp[hlen]
 ·rw[cI] at e
  unfold start
  by_cases hi:i<ds.length
  ·rw[fT (by rw[aj];exact hi)] at e
   obtain⟨v,d,hv,rfl,q⟩:=jo hd e
   refine⟨some v,?_,v,rfl,q.av fun a z=>?_⟩
   ·rw[fT (by rw[aj,hlen];exact hi),bx,hv];rfl
   ·rcases z with z|z|z|z
    ·exact z.elim
    ·exact z
    ·exact absurd (fun _ _ z=>(by cases z)) z
    ·cases z.1
  ·rw[gk (by rw[aj];omega),eV] at e
   split at e
   ·rename_i h'
    cases e
    refine⟨none,?_,trivial⟩
    rw[aj] at h'
    rw[gk (by rw[aj];omega),eV,if_pos (by rw[aj,hlen];exact h')]
   ·cases e
 ·intro i j a f as c g cs hij e1
  rw[cI] at e1
  by_cases hi:i<ds.length
  ·rw[fT (by rw[aj];exact hi)] at e1
   obtain⟨_,_,_,z,_⟩:=jo hd e1
   cases z
  ·rw[gk (by rw[aj];omega),eV] at e1
   split at e1<;>cases e1
 ·intro i j a f as c g cs hij e1
  rw[cI] at e1
  by_cases hi:i<ds.length
  ·rw[fT (by rw[aj];exact hi)] at e1
   obtain⟨_,_,_,z,_⟩:=jo hd e1
   cases z
  ·rw[gk (by rw[aj];omega),eV] at e1
   split at e1<;>cases e1
 ·intro i j c t hij e1
  rw[cI] at e1
  by_cases hi:i<ds.length
  ·rw[fT (by rw[aj];exact hi)] at e1
   obtain⟨_,_,_,z,_⟩:=jo hd e1
   cases z
  ·rw[gk (by rw[aj];omega),eV] at e1
   split at e1<;>cases e1
 ·rcases z with z|z
  ·exact .inr (.inl z)
  ·exact .inr (.inr (.inr z))
theorem Sv.tT(hB:cY H b l)(hl:iz nb H)(hb:nb b)(hd:af nb H ds vs)(aF:∀f d v H',Φ f d->bq (Nb b) H H'->cY H' b l->ai (fun a=>nb a\/(f=true/\H a≠none)) H' d v->Q v H')
    (cI:ρ= .ay::ds.map (Sl.d false)++List.replicate (N.length-(ds.length+1)) .no) (h:Sv ⟨some (b,l),H,nb,[]⟩ ρ t {nx:=fun _=>Φ true .none,rt:=Φ}):t {nx:=fun _ H'=>Q .aE H',rt:=Q} (start N (.ref b::vs)) H:=by
  have hlen:=hd.length
  have ly:∀a,a≠b->NB (some (b,l)) a:=fun a n b' l' e=>by cases e;exact n
  have QE:∀a,¬NB (some (b,l)) a->a=b:=fun a n=>gR fun z=>n (ly a z)
  have bt:∀{bC ρ' σ' H'},Wd ⟨some (b,l),H,nb,[]⟩ bC ρ' σ' H'->bq (Nb b) H H':=fun W a o n e=>W.old a o (ly a n) e
  have bg:∀{bC ρ' σ' H'},Wd ⟨some (b,l),H,nb,[]⟩ bC ρ' σ' H'->cY H' b l:=fun W=>W.ay b l rfl
  refine h (fun _=>False) _ H _ ⟨fun b' l' e=>(by cases e;exact hB),fun _ z=>z.elim,fun _ _ _ e=>e,fun _ z=>z.elim,hl,?_,fun b' l' e=>(by cases e;exact hB),fun _ m=>(by cases m),fun i s e=>?_,?_,?_,?_⟩ ⟨fun bC ρ' σ' H' q W=>aF _ _ _ _ q (bt W) (bg W) .aE,fun _ _ _ _ q _=>q.elim,fun _ _ _ _ q _=>q.elim,fun bC ρ' σ' f v H' d q W hv=>aF f d v H' q (bt W) (bg W) (hv.av fun a z=>?_),fun _ _ _ _ _ q _=>q.elim⟩
  · rw[cI];unfold start;simp[hlen]
  · rw[cI] at e
    unfold start
    cases i with
    |zero=>simp at e;subst e;exact⟨some (.ref b),by simp,b,l,rfl,rfl⟩
    | succ i =>
      simp only[jK,jw,bh,fE] at e⊢
      by_cases hi:i<ds.length
      · rw[fT (by rw[aj];exact hi)] at e
        obtain⟨v,d,hv,rfl,q⟩:=jo hd e
        refine⟨some v,?_,v,rfl,q.av fun a z=>?_⟩
        · rw[fT (by rw[aj,hlen];exact hi),bx,hv];rfl
        · rcases z with z|z|z|z
          · exact z.elim
          · exact z
          · rw[QE a z];exact hb
          · cases z.1
      · rw[gk (by rw[aj];omega),eV] at e
        split at e
        · rename_i h'
          cases e
          refine⟨none,?_,trivial⟩
          rw[aj] at h'
          rw[gk (by rw[aj];omega),eV,if_pos (by rw[aj,hlen];exact h')]
        · cases e
  · intro i j a f as c g cs hij e1
    rw[cI] at e1
    cases i with
    |zero=>simp at e1
    | succ i =>
      simp only[jK,jw] at e1
      by_cases hi:i<ds.length
      · rw[fT (by rw[aj];exact hi)] at e1
        obtain⟨_,_,_,z,_⟩:=jo hd e1
        cases z
      · rw[gk (by rw[aj];omega),eV] at e1
        split at e1<;>cases e1
  · intro i j a f as c g cs hij e1
    rw[cI] at e1
    cases i with
    |zero=>simp at e1
    | succ i =>
      simp only[jK,jw] at e1
      by_cases hi:i<ds.length
      · rw[fT (by rw[aj];exact hi)] at e1
        obtain⟨_,_,_,z,_⟩:=jo hd e1
        cases z
      · rw[gk (by rw[aj];omega),eV] at e1
        split at e1<;>cases e1
  · intro i j c t hij e1
    rw[cI] at e1
    cases i with
    |zero=>simp at e1
    | succ i =>
      simp only[jK,jw] at e1
      by_cases hi:i<ds.length
      · rw[fT (by rw[aj];exact hi)] at e1
        obtain⟨_,_,_,z,_⟩:=jo hd e1
        cases z
      · rw[gk (by rw[aj];omega),eV] at e1
        split at e1<;>cases e1
  · rcases z with z|z
    · exact .inr (.inl z)
    · exact .inr (.inr (.inr z))
def CT(b l:Addr)(H:Hp):Gx:=⟨some (b,l),H,fun _=>False,[]⟩
theorem Pa{a:Addr}{m:Nat}(hB:cY H b l):Wd (CT b l H) (fun _=>False) (.raw (.ref a):: .ay::List.replicate m .no) (some (.ref a)::some (.ref b)::List.replicate m none) H:=by
  refine⟨fun b' l' e=>(by cases e;exact hB),fun _ z=>z.elim,fun _ _ _ e=>e,fun _ z=>z.elim,fun _ z=>z.elim,by simp,fun b' l' e=>(by cases e;exact hB),fun _ m=>(by cases m),fun i s e=>?_,?_,?_,?_⟩
  · match i with
    |0=>simp at e;subst e;exact⟨_,rfl,rfl⟩
    |1=>simp at e;subst e;exact⟨some (.ref b),rfl,b,l,rfl,rfl⟩
    | i + 2 =>
      simp only[jw,eV] at e⊢
      split at e
      · rename_i h;cases e;exact⟨none,if_pos h,trivial⟩
      · cases e
  · intro i j a f as c g cs hij e1
    match i with
    |0=>simp at e1
    |1=>simp at e1
    | i + 2 =>
      simp only[jw,eV] at e1
      split at e1<;>cases e1
  · intro i j a f as c g cs hij e1
    match i with
    |0=>simp at e1
    |1=>simp at e1
    | i + 2 =>
      simp only[jw,eV] at e1
      split at e1<;>cases e1
  · intro i j c t hij e1
    match i with
    |0=>simp at e1
    |1=>simp at e1
    | i + 2 =>
      simp only[jw,eV] at e1
      split at e1<;>cases e1
theorem Ev.Xz{G:Gx}{i:Nat}{a:Addr}{ns:List Int}{K:PySem.W.Frag}(e:ρ[i]?=some (.raw (.ref a)))(hS:aQ K G.H0 a (ns.map V.int))(h:Φ true (.int ns.length)):Ev G ρ (fN (iV K) (bR (fq i) cy)) Φ:=fun nb σ H Q W z=>by
 obtain⟨x,e1,h1⟩:=W.ok i _ e
 have h1:x=some (.ref a):=h1
 subst h1
 have hS':aQ K H a (ns.map V.int):=by
  rcases hS with hr|hk
  ·have hn:NB G.B a:=fun b l hb z=>by
    subst z
    obtain⟨_,_,_,_,_,g1,_⟩:=W.gB _ _ hb
    rcases hr with hr|⟨o,hr⟩
    ·rw[g1] at hr
     have:=HO.lst.inj (fR hr)
     cases ns with
     |nil=>cases this
     |cons n r=>rw[bh] at this;cases (wK this).1
    ·rw[g1] at hr;cases hr
   rcases hr with hr|⟨o,hr⟩
   ·exact .inl (.inl (W.old _ _ hn hr))
   ·exact .inl (.inr ⟨o,W.old _ _ hn hr⟩)
  ·exact .inr hk
 refine⟨.ref a,e1,a,_,rfl, .inl hS',?_⟩
 rw[aj]
 exact z true _ H _ h (.refl W.ay) (.int _)
theorem WY{D:Ends}(h2:∀H,D.rt (.bl true) H):xm (CT b l H) {nx:=fun _=>False,rt:=fun _ d=>d= .bool true} D:=
 ⟨fun _ _ _ _ q _=>q.elim,fun _ _ _ _ q _=>q.elim,fun _ _ _ _ q _=>q.elim,fun _ _ _ f v H d q _ hv=>by subst q;unfold ai at hv;subst hv;exact h2 H,fun _ _ _ _ _ q _=>q.elim⟩
end
namespace R
theorem di{P:Int->Prop}{i:Int}(h:P i):∃j,PyData.int i= .int j/\P j:=⟨i,rfl,h⟩
theorem db{P:Bool->Prop}{i:Bool}(h:P i):∃j,PyData.bool i= .bool j/\P j:=⟨i,rfl,h⟩
theorem dl{P:List PyData->Prop}{i:List PyData}(h:P i):∃j,PyData.list i= .list j/\P j:=⟨i,rfl,h⟩
theorem dt{P:List PyData->Prop}{i:List PyData}(h:P i):∃j,PyData.tuple i= .tuple j/\P j:=⟨i,rfl,h⟩
theorem Mf{P:List PyData->Prop}{i:List PyData}(h:P i):∃j,(PyData.list i= .list j\/PyData.list i= .tuple j)/\P j:=⟨i, .inl rfl,h⟩
theorem Uy{P:List PyData->Prop}{i:List PyData}(h:P i):∃j,(PyData.tuple i= .list j\/PyData.tuple i= .tuple j)/\P j:=⟨i, .inr rfl,h⟩
theorem NN{P:Bool->Prop}{i j:Int}(h:P (decide (i=j))):∃b,gm (.int i) (.int j) b/\P b:=⟨_, .ii i j,h⟩
theorem M3{P:Bool->Prop}{x y:Bool}(h:P (x==y)):∃b,gm (.bool x) (.bool y) b/\P b:=⟨_, .bb x y,h⟩
theorem at_{ds:List PyData}{k:Int}{e:PyData}{P:PyData->Prop}(h:bL ds k=some e)(q:P e):∃e,bL ds k=some e/\P e:=⟨e,h,q⟩
theorem Qv{A:Prop}(q:A):([]:List Fd).length<=10000/\A:=⟨by decide,q⟩
theorem L7{C A:Prop}(c:C)(q:A):C/\A:=⟨c,q⟩
end R
theorem gn{n:Nat}{F:DF}{vs:List V}{H:Hp}{Q:VK}{E:XK}(h:bF n F vs H Q E):∃(nb:Addr->Prop) (ds:List PyData) (Φ:Pd),iz nb H/\af nb H ds vs/\(∀f d v H',Φ f d->cE H H'->ai (fun a=>nb a\/(f=true/\H a≠none)) H' d v->Q v H')/\F ds Φ:=by
 obtain⟨_,nb,ds,h1,h2,h3⟩:=h
 exact⟨nb,ds,_,h1,h2,fun f d v H' q=>q v H',h3⟩
theorem uV{n:Nat}{F:DF}{vs:List V}{H:Hp}{Q:VK}{E:XK}(h:iI n F vs H Q E):∃(b l:Addr) (ws:List V) (nb:Addr->Prop) (ds:List PyData) (Φ:Pd),vs= .ref b::ws/\cY H b l/\iz nb H/\nb b/\af nb H ds ws/\(∀f d v H',Φ f d->bq (Nb b) H H'->cY H' b l->ai (fun a=>nb a\/(f=true/\H a≠none)) H' d v->Q v H')/\F ds Φ:=by
 obtain⟨_,b,l,ws,nb,ds,e,hB,h1,hb,h2,h3⟩:=h
 exact⟨b,l,ws,nb,ds,_,e,hB,h1,hb,h2,fun f d v H' q=>q v H',h3⟩
end L2
set_option maxRecDepth 100000
set_option maxHeartbeats 1000000
namespace L2
open PySem PySem.Spec PyProof.Rows
abbrev aN:=List (Int×Int)
abbrev Wo:=List (Option Int)
abbrev jR(prs:aN):PyData:= .list (prs.map pairD)
abbrev l7(wd:Wo):PyData:= .list (wd.map gY)
abbrev kc(p n:Int)(cs:List aN):PyData:= .tuple [.int p, .int n, .list (cs.map jR)]
def tU(prs:aN)(wd:Wo):Prop:=∃pr∈prs,wd[pr.1.toNat]?=some none
instance{prs:aN}{wd:Wo}:Decidable (tU prs wd):=by unfold tU;infer_instance
def pW(p:Int)(prs:aN)(wd:Wo):Option Int:=if tU prs wd then none else some (aL prs wd%p)
def yy(prs:aN)(m:Nat):Prop:=∀pr∈prs,0<=pr.1/\pr.1<m/\Sm pr.2
def DA(wd:Wo):Prop:=∀x,some x∈wd->Sm x
theorem Tg{α β:Type}{xs:List α}(φ:α->β){k:Int}{m:Nat}(h0:0<=k)(h1:k<m)(hm:m=xs.length):∃x,xs[k.toNat]?=some x/\bL (xs.map φ) k=some (φ x):=by
 have hk:k.toNat<xs.length:=by omega
 exact⟨xs[k.toNat],aD hk,gK h0 (by rw[bx,aD hk];rfl)⟩
theorem dj{α β:Type}{xs:List α}{φ:α->β}{i:Nat}{d:β}(h:(xs.map φ)[i]?=some d):∃x,xs[i]?=some x/\d=φ x:=by
 rw[bx] at h
 obtain⟨x,hx,e⟩:=kj.mp h
 exact⟨x,hx,e.symm⟩
theorem take_snoc{α:Type}{xs:List α}{i:Nat}{x:α}(h:xs[i]?=some x):xs.take (i+1)=xs.take i++[x]:=by
 rw[qL,h];rfl
theorem WC(o:Option Int):uu (gY o)=o.isNone:=by cases o<;>rfl
end L2
set_option maxRecDepth 100000
set_option maxHeartbeats 4000000
namespace L2
open PySem PySem.Spec PyProof.Rows
structure Eu(p b L lt r t:Int):Prop where
 l0:0<L
 r0:0<=r
 lp:L<=p
 rp:r<=p
 lc:∃k,L=lt*b+p*k
 rc:∃k,r=t*b+p*k
 dv:∀d,d∣L->d∣r->d∣p/\d∣b%p
 sz:(t.natAbs:Int)*L+(lt.natAbs:Int)*r<=p
theorem Eu.start{p b:Int}(hp:2<=p):Eu p b p 0 (b%p) 1:=by
 have m1:=fP b (show p≠0 by omega)
 have m2:=fZ b (show 0<p by omega)
 refine⟨by omega,m1,Am _,by omega,⟨1,by rw[ja,vD,uH]⟩,⟨-(b/p),?_⟩,fun d h1 h2=>⟨h1,h2⟩,?_⟩
 ·have:=j6 b p
  rw[qX,Int.mul_neg]
  omega
 ·show(1:Int)*p+0*(b%p)<=p
  rw[qX,ja]
  omega
theorem Eu.tb{p b L lt r t:Int}(h:Eu p b L lt r t): -p<=t/\t<=p:=by
 have h1:(t.natAbs:Int)*1<=(t.natAbs:Int)*L:=Int.mul_le_mul_of_nonneg_left (by have:=h.l0;omega) (by omega)
 have h2:0<=(lt.natAbs:Int)*r:=Int.mul_nonneg (by omega) h.r0
 have:=h.sz
 omega
theorem Eu.next{p b L lt r t:Int}(h:Eu p b L lt r t)(hr:0<r):Eu p b r t (L-L/r*r) (lt-L/r*t)/\L-L/r*r<r:=by
 have e:=j6 L r
 have m1:=fP L (show r≠0 by omega)
 have m2:=fZ L hr
 have e':L-L/r*r=L%r:=by rw[sI (L/r) r];omega
 have q0:0<=L/r:=Dg (by have:=h.l0;omega) (by omega)
 obtain⟨k1,c1⟩:=h.lc
 obtain⟨k2,c2⟩:=h.rc
 refine⟨⟨hr,by omega,h.rp,by have:=h.rp;omega,h.rc,⟨k1-L/r*k2,?_⟩,fun d d1 d2=>?_,?_⟩,by omega⟩
 ·rw[CL,C8]
  generalize L/r=q at*
  have z:q*r=q*(t*b)+q*(p*k2):=by rw[<-Int.mul_add,<-c2]
  have z1:q*(t*b)=q*t*b:=(qB q t b).symm
  have z2:q*(p*k2)=p*(q*k2):=by rw[<-qB,sI q p,qB]
  omega
 ·have dL:d∣L:=by
   have z:d∣(L-L/r*r)+L/r*r:=rB d2 (qH d1)
   have z2:(L-L/r*r)+L/r*r=L:=by omega
   rwa[z2] at z
  exact h.dv d dL d1
 ·generalize L/r=q at*
  have a1:((lt-q*t).natAbs:Int)<=(lt.natAbs:Int)+q*(t.natAbs:Int):=by
   have b1:(lt-q*t).natAbs<=lt.natAbs+(q*t).natAbs:=by omega
   have b2:((q*t).natAbs:Int)=q*(t.natAbs:Int):=by
    rw[Int.natAbs_mul]
    have:(q.natAbs:Int)=q:=by omega
    rw[Int.natCast_mul,this]
   omega
  have a2:((lt-q*t).natAbs:Int)*r<=((lt.natAbs:Int)+q*(t.natAbs:Int))*r:=Int.mul_le_mul_of_nonneg_right a1 (by omega)
  have a3:((lt.natAbs:Int)+q*(t.natAbs:Int))*r=(lt.natAbs:Int)*r+q*(t.natAbs:Int)*r:=Int.add_mul _ _ _
  have a4:(t.natAbs:Int)*(L-q*r)=(t.natAbs:Int)*L-q*(t.natAbs:Int)*r:=by
   rw[C8,<-qB,sI (t.natAbs:Int) q]
  have:=h.sz
  omega
theorem Hw{α:Type}{us:List α}(h:us.length=1):∃a,us=[a]:=by
  cases us with
  |nil=>cases h
  | cons a us =>
    cases us with
    |nil=>exact⟨a,rfl⟩
    |cons _ _=>cases h
theorem ln2{α:Type}{us:List α}(h:us.length=2):∃a b,us=[a,b]:=by
  cases us with
  |nil=>cases h
  | cons a us =>
    obtain⟨b,rfl⟩:=Hw (us:=us) (uG h)
    exact⟨a,b,rfl⟩
theorem JK{α:Type}{us:List α}(h:us.length=3):∃a b c,us=[a,b,c]:=by
  cases us with
  |nil=>cases h
  | cons a us =>
    obtain⟨b,c,rfl⟩:=ln2 (us:=us) (uG h)
    exact⟨a,b,c,rfl⟩
theorem FH{α:Type}{us:List α}(h:us.length=4):∃a b c d,us=[a,b,c,d]:=by
  cases us with
  |nil=>cases h
  | cons a us =>
    obtain⟨b,c,d,rfl⟩:=JK (us:=us) (uG h)
    exact⟨a,b,c,d,rfl⟩
theorem OR{α:Type}{us:List α}(h:us.length=5):∃a b c d e,us=[a,b,c,d,e]:=by
  cases us with
  |nil=>cases h
  | cons a us =>
    obtain⟨b,c,d,e,rfl⟩:=FH (us:=us) (uG h)
    exact⟨a,b,c,d,e,rfl⟩
end L2
set_option maxRecDepth 100000
set_option maxHeartbeats 1000000
namespace L2
open PySem PySem.Spec PyProof.Rows
def jS(xs:Array Nat):Prop:=∀(i j x y:Nat),i<j->xs[i]?=some x->xs[j]?=some y->x<y
theorem Wy{xs:Array Nat}{q:Nat}(hr:jS xs):∀(f lo hi:Nat),hi<=xs.size->lo<=hi->hi-lo<=f->(∀i x,i<lo->xs[i]?=some x->x<q)->(∀i x,hi<=i->xs[i]?=some x->q<=x)->
    lo<=SetTable.below.go xs q f lo hi/\SetTable.below.go xs q f lo hi<=hi/\(∀i x,i<SetTable.below.go xs q f lo hi->xs[i]?=some x->x<q)/\(∀i x,SetTable.below.go xs q f lo hi<=i->xs[i]?=some x->q<=x):=by
  intro f
  induction f with
  | zero =>
    intro lo hi h1 h2 h3 h4 h5
    have e:lo=hi:=by omega
    subst e
    exact⟨aS _,aS _,h4,h5⟩
  | succ f ih =>
    intro lo hi h1 h2 h3 h4 h5
    unfold SetTable.below.go
    by_cases hlt:lo<hi
    · rw[if_pos hlt]
      have hm:(lo+hi)/2<xs.size:=by omega
      have hg:xs[(lo+hi)/2]?=some xs[(lo+hi)/2]:=ko hm
      have hgd:xs.getD ((lo+hi)/2) q=xs[(lo+hi)/2]:=by rw[zJ,hg];rfl
      dsimp only
      rw[hgd]
      by_cases hc:xs[(lo+hi)/2]<q
      · rw[if_pos hc]
        obtain⟨a1,a2,a3,a4⟩:=ih ((lo+hi)/2+1) hi h1 (by omega) (by omega) (fun i x hi' e=>by
          rcases Nat.lt_or_ge i ((lo+hi)/2) with z|z
          · exact mJ (hr i _ x _ z e hg) hc
          · have:i=(lo+hi)/2:=by omega
            subst this;rw[hg] at e;cases e;exact hc) h5
        exact⟨by omega,a2,a3,a4⟩
      · rw[if_neg hc]
        obtain⟨a1,a2,a3,a4⟩:=ih lo ((lo+hi)/2) (by omega) (by omega) (by omega) h4 (fun i x hi' e=>by
          rcases Nat.lt_or_ge ((lo+hi)/2) i with z|z
          · exact je (A7 (Bh hc) (hr _ i _ x z hg e))
          · have:i=(lo+hi)/2:=by omega
            subst this;rw[hg] at e;cases e;exact Bh hc)
        exact⟨a1,by omega,a3,a4⟩
    · rw[if_neg hlt]
      have e:lo=hi:=by omega
      subst e
      exact⟨aS _,aS _,h4,h5⟩
theorem below_at{xs:Array Nat}{q:Nat}(hr:jS xs):SetTable.below xs q<=xs.size/\(∀i x,i<SetTable.below xs q->xs[i]?=some x->x<q)/\(∀i x,SetTable.below xs q<=i->xs[i]?=some x->q<=x):=by
 obtain⟨_,h2,h3,h4⟩:=Wy (q:=q) hr xs.size 0 xs.size (aS _) (eU _) (by omega) (fun i x h=>absurd h (Nat.not_lt_zero _)) (fun i x h e=>by
  have:=(qK.mp e).1;omega)
 exact⟨h2,h3,h4⟩
theorem U7{α:Type}{xs:Array α}{p:Nat}{x:α}(hp:p<=xs.size)(i:Nat):(SetTable.insertAt xs p x)[i]?=if i<p then xs[i]? else if i=p then some x else xs[i-1]?:=by
 unfold SetTable.insertAt
 rw[Array.getElem?_append]
 have e1:((xs.extract 0 p).push x).size=p+1:=by rw[Array.size_push,t6];omega
 rw[e1]
 by_cases h1:i<p
 ·rw[if_pos (show i<p+1 by omega),if_pos h1,Iz,if_neg (by rw[t6];omega),Jh (by omega)]
  simp
 ·rw[if_neg h1]
  by_cases h2:i=p
  ·rw[if_pos (show i<p+1 by omega),if_pos h2,Iz,if_pos (by rw[t6];omega)]
  ·rw[if_neg (show¬i<p+1 by omega),if_neg h2]
   by_cases h3:i-(p+1)<xs.size-p
   ·rw[Jh (by omega),<-ko,show p+(i-(p+1))=i-1 by omega]
   ·rw[Dp (by rw[t6];omega),Dp (by omega)]
theorem jS.insert{xs:Array Nat}{q:Nat}(hr:jS xs)(hq:xs[SetTable.below xs q]?≠some q):jS (SetTable.insertAt xs (SetTable.below xs q) q):=by
 obtain⟨h1,h2,h3⟩:=below_at (q:=q) hr
 have h3':∀i x,SetTable.below xs q<=i->xs[i]?=some x->q<x:=fun i x hi e=>by
  rcases BP (h3 i x hi e) with z|z
  ·exact z
  ·subst z
   rcases BP hi with z|z
   ·have hb:SetTable.below xs q<xs.size:=eg z (je (qK.mp e).1)
    have hg:xs[SetTable.below xs q]?=some xs[SetTable.below xs q]:=ko hb
    have:=hr _ i _ q z hg e
    have:=h3 _ _ (aS _) hg
    omega
   ·rw[<-z] at e;exact absurd e hq
 intro i j x y hij ex ey
 rw[U7 h1] at ex ey
 by_cases a:i<SetTable.below xs q
 ·rw[if_pos a] at ex
  by_cases b:j<SetTable.below xs q
  ·rw[if_pos b] at ey;exact hr i j x y hij ex ey
  ·rw[if_neg b] at ey
   by_cases c:j=SetTable.below xs q
   ·rw[if_pos c] at ey;cases ey;exact h2 i x a ex
   ·rw[if_neg c] at ey;exact hr i (j-1) x y (by omega) ex ey
 ·rw[if_neg a] at ex
  by_cases c:i=SetTable.below xs q
  ·rw[if_pos c] at ex;cases ex
   rw[if_neg (by omega),if_neg (by omega)] at ey
   exact h3' (j-1) y (by omega) ey
  ·rw[if_neg c] at ex
   rw[if_neg (by omega),if_neg (by omega)] at ey
   exact hr (i-1) (j-1) x y (by omega) ex ey
theorem OX{t:SetTable}{ha:Nat->Int}{h:Int}:∀(f:Nat) (p:SetTable.Probe) (j:Nat) (dm:Option Nat),(∀d,p.dummy=some d->t.slot d= .dummy)->SetTable.probe.go t ha h f p=some (.empty j dm)->t.slot j= .empty/\∀d,dm=some d->t.slot d= .dummy:=by
  intro f
  induction f with
  |zero=>intro p j dm _ e;unfold SetTable.probe.go at e;cases e
  | succ f ih =>
    intro p j dm hd e
    have Gk:∀p:SetTable.Probe,(t.advance p).dummy=p.dummy:=fun p=>by unfold SetTable.advance;split<;>rfl
    unfold SetTable.probe.go at e
    cases hs:t.slot p.j with
    |empty=>rw[hs] at e;cases e;exact⟨hs,hd⟩
    |dummy=>rw[hs] at e;exact ih _ j dm (fun d h'=>by rw[Gk] at h';cases h';exact hs) e
    | live i =>
      rw[hs] at e
      dsimp only at e
      split at e
      · cases e
      · exact ih _ j dm (fun d h'=>by rw[Gk] at h';exact hd d h') e
theorem FE{t:SetTable}{h:Int}{j:Nat}{wd:Bool}(e:t.freeSlot h=some (j,wd)):∀i,t.slot j≠ .live i:=by
 unfold SetTable.freeSlot SetTable.probe at e
 intro i z
 split at e
 ·rename_i j0 dm he
  obtain⟨h1,h2⟩:=OX (10*SetTable.turns t.mask) (t.probeStart h) j0 dm (fun d h'=>by unfold SetTable.probeStart at h';cases h') he
  cases dm with
  |none=>cases e;simp at z;rw[h1] at z;cases z
  |some d=>cases e;simp at z;rw[h2 d rfl] at z;cases z
 ·cases e
structure dM(bt:Bool)(t:SetTable):Prop where
 led:bt=false->t.led=true
 sX:t.plain=true->jS t.place
theorem dM.standIn{bt:Bool}{t:SetTable}(h:dM bt t)(n:Nat):dM bt (t.standIn n):=⟨h.led,fun z=>by cases z⟩
theorem dM.off{bt:Bool}{t:SetTable}(h:dM bt t):dM bt {t with plain:=false}:=⟨h.led,fun z=>by cases z⟩
theorem dM.put{bt:Bool}{t:SetTable}{j:Nat}(h:dM bt t)(hj:∀i,t.slot j≠ .live i):dM bt (t.put j).1:=by
 refine⟨h.led,fun z=>?_⟩
 refine jS.insert (h.sX z) fun e=>hj (SetTable.below t.place j) ?_
 unfold SetTable.slot
 dsimp only
 rw[if_pos (by rw[e];exact beq_self_eq_true _)]
theorem dM.layNew{bt:Bool}{t:SetTable}{es:Array (Int×Value)}{h:Int}{x:Value}(ok:dM bt t):dM bt (layNew t es h x).2.1:=by
 unfold PySem.layNew
 split
 ·rename_i slot wd e
  dsimp only
  unfold SetTable.orStandIn
  split
  ·exact ok.put (FE e)
  ·exact(ok.put (FE e)).standIn _
 ·exact ok.standIn _
theorem Vp(n:Nat)(φ:Nat->Option Nat):jS (((List.range n).filterMap fun j=>(φ j).map (j,·)).map (·.1)).toArray:=by
  have hp:(((List.range n).filterMap fun j=>(φ j).map (j,·)).map (·.1)).Pairwise (· < ·):=by
    have hs:List.Sublist (((List.range n).filterMap fun j=>(φ j).map (j,·)).map (·.1)) (List.range n):=by
      induction List.range n with
      |nil=>simp
      | cons a r ih =>
        rw[pL]
        cases φ a with
        |none=>exact ih.cons a
        |some y=>exact ih.cons₂ a
    exact Cw.sublist hs
  intro i j x y hij ex ey
  rw[IW] at ex ey
  obtain⟨hi,rfl⟩:=bI.mp ex
  obtain⟨hj,rfl⟩:=bI.mp ey
  exact Ij.mp hp i j hi hj hij
theorem dM.VA{bt:Bool}{t:SetTable}{es:Array (Int×Value)}{n:Nat}(ok:dM bt t):dM bt (relayAll t es n).2.1:=by
  unfold relayAll
  split
  · rename_i t' order e
    dsimp only
    split
    · unfold SetTable.relaid SetTable.laid at e
      cases hl:SetTable.layClean (SetTable.sizeAbove n-1) (es.map (·.1)) with
      |none=>rw[hl] at e;cases e
      | some owner =>
        rw[hl] at e
        cases e
        exact⟨ok.led,fun _=>Vp _ _⟩
    · exact ok.standIn _
  · exact ok.standIn _
theorem dM.fresh{bt:Bool}:dM bt (.fresh 0 0 (!bt)):=⟨fun h=>by rw[h];rfl,fun _ i j x y _ e=>by simp[SetTable.fresh] at e⟩
end L2
set_option maxRecDepth 100000
set_option maxHeartbeats 4000000
namespace L2
open PySem PySem.Spec PyProof.Rows
def gh(bt:Bool)(h:Heap)(a:Addr):Prop:=∀o es ep t,h.get? a=some o->o.data= .set es ep t->dM bt t
theorem gh.of{bt:Bool}{h:Heap}{a:Addr}{o:Obj}{es:Array (Int×Value)}{ep:Nat}{t:SetTable}(e:h.get? a=some o)(d:o.data= .set es ep t)(k:dM bt t):gh bt h a:=fun o' es' wC t' e' d'=>by
 rw[e] at e';cases e';rw[d] at d';cases d';exact k
theorem gh.keep{bt:Bool}{h h':Heap}{a:Addr}{o:Obj}(k:gh bt h a)(e:h.get? a=some o)(e':h'.get? a=some o):gh bt h' a:=fun o1 es ep t x d=>by
 rw[e'] at x;cases x;exact k o es ep t e d
section
variable{prog:Program}{w:World}{A:Around}{E:Value->Shared->Prop}{s:Shared}{a:Addr}{bt:Bool}
abbrev IK(prog:Program)(w:World):=intKind prog w
theorem Ey{o:Obj}{es es':Array (Int×Value)}{ep:Nat}{t t':SetTable}{T:Int->Bool}{h:Heap}(g1:h.get? a=some o)(g2:o.ExactSet)(g3:o.data= .set es ep t)(l1:ElemsOf (IK prog w) es'.toList)
  (l2:∀k,T k=true↔∃e∈es'.toList,(IK prog w).is k e.2=true) (l3:es'.size<scanBound) (l4:t'.fits es'.size=true) (tk:dM bt t'):
  (∃o',(h.update a (Obj.putSet es' t')).get? a=some o'/\o'.ExactSet/\o'.data= .set es' (ep+1) t')/\(h.update a (Obj.putSet es' t')).SetOf (IK prog w) a T es'.size/\gh bt (h.update a (Obj.putSet es' t')) a:=by
 obtain⟨q1,q2⟩:=SetOf_store (knd:=IK prog w) (es':=es') (t':=t') (S':=T) g1 g2 g3 l1 l2 l3 l4
 exact⟨⟨_,q1,g2,rfl⟩,q2, .of q1 rfl tk⟩
theorem II{gg:Bool->Sem Unit}(Pf:∀(b:Bool) (s₁:Shared) (Q₁:Unit->Shared->Prop),Q₁ () s₁->wpAny (model prog w) A (gg b) Q₁ E s₁){o:Obj}{es:Array (Int×Value)}{ep:Nat}{t:SetTable}
    (g1:s.heap.get? a=some o) (g2:o.ExactSet) (g3:o.data= .set es ep t) {es1:Array (Int×Value)} {t2:SetTable} {T:Int->Bool} (l1:ElemsOf (IK prog w) es1.toList) (l2:∀k,T k=true↔∃e∈es1.toList,(IK prog w).is k e.2=true)
    (l3:es1.size<scanBound) (l4:t2.fits es1.size=true) (tk:dM bt t2) {wd:Bool} {R:Option Bool->Shared->Prop}
    (fin:∀h',Heap.SameBut a s.heap h'->h'.SetOf (IK prog w) a T es1.size->gh bt h' a->R (some true) {s with heap:=h'}):
    wpAny (model prog w) A (do storeSet a es1 t2
                               if(!wd && t2.tooFull)=true then do
                                 gg (relayAll t2 es1 (SetTable.grown es1.size)).2.2
                                 storeSet a (relayAll t2 es1 (SetTable.grown es1.size)).1 (relayAll t2 es1 (SetTable.grown es1.size)).2.1
                                 pure (some true)
                               else pure (some true)) R E s:=by
  obtain⟨⟨o1,k1,k2,k3⟩,q1,q2⟩:=Ey (T:=T) g1 g2 g3 l1 l2 l3 l4 tk
  have sb:=Heap.SameBut.update s.heap a (Obj.putSet es1 t2)
  refine wpAny_bind (wpAny_storeSet_of g1 g3 ?_ (fits_of_scanBound l3))
  by_cases c:(!wd && t2.tooFull)=true
  · rw[if_pos c]
    have pp:=relayAll_perm t2 es1 (SetTable.grown es1.size)
    have pf:=relayAll_fits t2 es1 (SetTable.grown es1.size)
    have pt:=tk.VA (es:=es1) (n:=SetTable.grown es1.size)
    generalize relayAll t2 es1 (SetTable.grown es1.size)=Z at pp pf pt⊢
    obtain⟨cT,t3,KZ⟩:=Z
    dsimp only at pp pf pt⊢
    have sz:cT.size=es1.size:=by have:=pp.length_eq;rwa[jZ,jZ] at this
    have O1:∀k,T k=true↔∃e∈cT.toList,(IK prog w).is k e.2=true:=fun k=>(l2 k).trans ⟨fun⟨e,m,z⟩=>⟨e,pp.mem_iff.mpr m,z⟩,fun⟨e,m,z⟩=>⟨e,pp.mem_iff.mp m,z⟩⟩
    obtain⟨_,r1,r2⟩:=Ey (T:=T) k1 k2 k3 (l1.perm pp) O1 (by rw[sz];exact l3) pf pt
    refine wpAny_bind (Pf _ _ _ (wpAny_bind (wpAny_storeSet_of k1 k3 ?_ (fits_of_scanBound (by rw[sz];exact l3)))))
    rw[sz] at r1
    exact wpAny_pure (fin _ (sb.trans (Heap.SameBut.update _ a _)) r1 r2)
  · rw[if_neg c]
    exact wpAny_pure (fin _ sb q1 q2)
theorem WU{S:Int->Bool}{n:Nat}{k:Int}{x:Value}{Q:Bool->Shared->Prop}(hx:(IK prog w).is k x=true)(sc:x.scannable=true)(hS:s.heap.SetOf (IK prog w) a S n)(hT:gh bt s.heap a)(room:n+1<scanBound)
    (fin:∀h',Heap.SameBut a s.heap h'->h'.SetOf (IK prog w) a (fun j=>S j||decide (j=k)) (if S k then n else n+1)->gh bt h' a->Q (!S k) {s with heap:=h'}):
    wpAny (model prog w) A (setAddHashed a x ((IK prog w).hash k)) Q E s:=by
  obtain⟨o,es,ep,t,g1,g2,g3,l1,l2,l3,l4,sz⟩:=hS
  have tk:=hT o es ep t g1 g3
  unfold setAddHashed setAddHashedIn
  refine wpAny_holding (wpAny_bind (wpAny_setState_of g1 g3 l4 ?_))
  dsimp only
  rw[if_pos (byScan_of sc l3 l1)]
  unfold setAddByScan
  refine wpAny_bind (wpAny_bind (wpAny_rule (wpAny_bind (wpAny_setScan_of hx g1 g3 l4 l1 ?_))))
  cases fr:List.findIdx? (fun e=>(IK prog w).is k e.2) es.toList with
  | some j =>
    obtain⟨hj,pj,_⟩:=List.findIdx?_eq_some_iff_getElem.mp fr
    have yes:S k=true:=(l2 k).mpr ⟨_,cV hj,pj⟩
    have z:=fin s.heap (.refl a s.heap) ⟨o,es,ep,t,g1,g2,g3,l1,fun j=>by
      rw[Bool.or_eq_true,decide_eq_true_eq,<-l2 j]
      exact⟨fun q=>q.elim id fun e=>e▸yes, .inl⟩,l3,l4,by rw[if_pos yes];exact sz⟩ hT
    rw[yes] at z
    exact wpAny_pure (wpAny_pure z)
  | none =>
    have no:S k=false:=by
      cases q:S k with
      |false=>rfl
      | true =>
        obtain⟨e,m,p⟩:=(l2 k).mp q
        rw[List.findIdx?_eq_none_iff.mp fr e m] at p;cases p
    have pp:=layNew_perm t es ((IK prog w).hash k) x
    have pf:=layNew_fits t es ((IK prog w).hash k) x
    have pt:=tk.layNew (es:=es) (h:=(IK prog w).hash k) (x:=x)
    dsimp only
    generalize layNew t es ((IK prog w).hash k) x=Z at pp pf pt⊢
    obtain⟨es1,t1,wd,KZ⟩:=Z
    dsimp only at pp pf pt⊢
    rw[Array.toList_push] at pp
    have kZ:es1.size=n+1:=by have:=pp.length_eq;rw[fF,jZ,jZ,sz] at this;exact this
    have fin':∀h',Heap.SameBut a s.heap h'->h'.SetOf (IK prog w) a (fun j=>S j||decide (j=k)) es1.size->gh bt h' a->Q true {s with heap:=h'}:=fun h' x1 x2 x3=>by
      have:=fin h' x1;rw[no,if_neg bV] at this;rw[kZ] at x2;exact this x2 x3
    have gw:∀(b:Bool) (s₁:Shared) (Q₁:Unit->Shared->Prop),Q₁ () s₁->wpAny (model prog w) A (match b with|true=>rule "set.scan.the-table-gave-way" |false=>pure ()) Q₁ E s₁:=fun b s₁ Q₁ q=>by
      cases b
      · exact wpAny_pure q
      · exact wpAny_rule q
    refine wpAny_bind (gw _ _ _ ?_)
    have e1:=(l1.push hx sc).perm pp
    have e2:=mem_push_iff hx l2 pp
    have e3:es1.size<scanBound:=by rw[kZ];exact room
    by_cases pl:t1.plain=true
    · rw[if_pos pl,hashByValue_scannable 8 sc]
      refine wpAny_bind (wpAny_pure ?_)
      refine II gw g1 g2 g3 e1 e2 e3 ?_ ?_ fun h' x1 x2 x3=>wpAny_pure (fin' h' x1 x2 x3)
      · split
        · exact pf
        · exact SetTable.fits_plain_off pf
      · split
        · exact pt
        · exact pt.off
    · rw[if_neg pl]
      refine wpAny_bind (wpAny_pure ?_)
      rw[if_pos rfl]
      exact II gw g1 g2 g3 e1 e2 e3 pf pt fun h' x1 x2 x3=>wpAny_pure (fin' h' x1 x2 x3)
end
end L2
set_option maxRecDepth 100000
set_option maxHeartbeats 4000000
namespace L2
open PySem PySem.Spec PyProof.Rows
section
variable{prog:Program}{w:World}{A:Around}{R:Result->Shared->Prop}{I:Addr}{fp wr:List Addr}{G:Array GenState->Array GenState->Prop}{n:Nat}{P:Nat->Value->Prop}{St:Nat->Shared->Prop}{bt:Bool}
abbrev met(val:Nat->Int)(i:Nat):Int->Bool:=fun k=>(firstMet val i).any (· ==k)
theorem MO(W:WalksS prog w A.in1 I fp wr G n P St)(C:Addr)(nC:C∉fp)(val:Nat->Int)(hv:∀i v,P i v->∃t,v= .int (val i) t)(room:n+1<scanBound)(fuel:Nat):
    ∀(i:Nat) (s:Shared),n-i=fuel->i<=n->St i s->s.heap.SetOf (IK prog w) C (met val i) (firstMet val i).length->gh bt s.heap C->
      (∀s',Moved (C::wr) G s s'->s'.heap.SetOf (IK prog w) C (met val n) (firstMet val n).length->gh bt s'.heap C->R (.ok (.ret .none)) s')->
      codeAny (model prog w) A (.builtin "set.update.loop" ⟨[.ref C, .ref I],[]⟩) R s:=by
  have nw:C∉wr:=fun z=>nC (W.sub _ z)
  have up:∀b∈wr,b∈C::wr:=fun b z=>bJ _ z
  have mv:∀{s s':Shared} {T:Int->Bool} {m:Nat},Moved wr G s s'->s.heap.SetOf (IK prog w) C T m->gh bt s.heap C->s'.heap.SetOf (IK prog w) C T m/\gh bt s'.heap C:=fun mo q tt=>by
    obtain⟨o,es,ep,t,ho,r⟩:=q
    exact⟨⟨o,es,ep,t,mo.heap C _ nw ho,r⟩,tt.keep ho (mo.heap C _ nw ho)⟩
  induction fuel with
  | zero =>
    intro i s e1 e2 st q tt fin
    obtain rfl:i=n:=by omega
    refine codeAny_builtin F.entry_set_update_loop ?_
    rw[kY Dr _]
    refine wpAny_bind (W.done s _ _ st fun s' mo=>?_)
    exact wpAny_pure (fin s' (mo.mono up) (mv mo q tt).1 (mv mo q tt).2)
  | succ fuel ih =>
    intro i s e1 e2 st q tt fin
    have lt:i<n:=by omega
    refine codeAny_builtin F.entry_set_update_loop ?_
    rw[kY Dr _]
    refine wpAny_bind (W.item i s _ _ lt st fun v s' hP st' mo=>?_)
    obtain⟨tok,rfl⟩:=hv i v hP
    obtain⟨q',Th⟩:=mv mo q tt
    show wpAny _ A.in1 (holding [Value.int (val i) tok] (setAdd C (.int (val i) tok))>>=_) _ _ s'
    unfold setAdd
    refine wpAny_bind (wpAny_holding (wpAny_holding (wpAny_bind ((IK prog w).pyHash (k:=val i) (intKind_is _ _ _ _) ?_))))
    refine WU (bt:=bt) (s:={s' with toks:=s'.toks+1}) (intKind_is _ _ _ _) rfl q' Th (by have:=firstMet_length_le val i;omega) fun h' sb q2 SR=>?_
    have q3:h'.SetOf (IK prog w) C (met val (i+1)) (firstMet val (i+1)).length:=SetOf_congr q2 (fun j=>by unfold met;rw[firstMet_succ,step_any]) (by rw[firstMet_succ,step_length])
    refine wpAny_pure ⟨plainId_quiet Dr _,ih (i+1) _ (by omega) lt (W.frame _ s' _ _ st' (pS _) fun b hb o e=>?_) q3 SR fun s2 RI q4 Tj=>?_⟩
    · rw[sb.2 b fun z:b=C=>nC (z▸hb)];exact e
    · refine fin s2 (Moved.trans W.gtrans ((mo.mono up).then_heap (pS _) fun b o hb e=>?_) RI) q4 Tj
      rw[sb.2 b fun z:b=C=>hb (z▸ck)];exact e
end
section
variable{prog:Program}{w:World}{A:Around}{E:Value->Shared->Prop}{s:Shared}
abbrev fc(w:World):Bool:=w.params.followText "set-order"
abbrev j9(w:World):Obj:={cls:= .type "set",dict:=none,data:= .set #[] 0 (.fresh 0 0 (!fc w))}
theorem Lc(a:Value){Q₁:Value->Shared->Prop}(fin:Q₁ (.ref s.heap.objs.size) {s with heap:=s.heap.push (j9 w)}):codeAny (model prog w) A (.call (.builtin "set.__new__") ⟨[.type "set",a],[]⟩) (wants Q₁ E) s:=by
 refine codeAny_of_tree ?_
 show wpAny _ A.in1 (do checkBuiltinCall "set.__new__" ⟨[.type "set",a],[]⟩;again (.builtin "set.__new__" ⟨[.type "set",a],[]⟩)) _ _ s
 refine wpAny_bind (wpAny_of_eq (F.newCall_set_1 a) (wpAny_pure ⟨plainId_quiet F.plain_set_new _,codeAny_builtin F.entry_set_new ?_⟩))
 rw[kY F.plain_set_new _]
 unfold Builtin.«set.__new__» Builtin.Frozenset.newClass
 have hsub:=sub_set_self
 obtain⟨hp,g,d,tk,os⟩:=s
 dsimp only at fin⊢
 wp_walk
 refine wpAny_askSetting (wpAny_pure ?_)
 dsimp only
 simp only[newObj]
 exact wpAny_bind (wpAny_alloc (wpAny_pure (wpAny_pure fin)))
theorem Wu{l:Addr}{items:Array Value}{ns:List Int}{Q:Value->Shared->Prop}(hh:A.handled=none)(hl:s.heap.IsList l items)(hi:IntsAre items.toList ns)(room:items.size+1<scanBound)
    (fin:∀(h':Heap) (tk:Nat),h'.SetOf (IK prog w) s.heap.objs.size (met (fun i=>ns.getD i 0) items.size) (firstMet (fun i=>ns.getD i 0) items.size).length->gh (fc w) h' s.heap.objs.size->
      (∀b o,b<s.heap.objs.size->s.heap.get? b=some o->h'.get? b=some o)->Q (.ref s.heap.objs.size) {s with heap:=h',toks:=tk}):wpAny (model prog w) A (call (.type "set") [.ref l]) Q E s:=by
  obtain⟨c,tl,Xu⟩:=mT.mro
  have hmade:=mT.made
  have hsub:=mT.sub
  have h1:=mT.notType
  have h2:=mT.canCreate
  have hct:=F.typeCall_set_1 (.ref l)
  refine wpAny_call (codeAny_of_tree ?_)
  show wpAny _ _ (callAny (.type "set") _) _ _ _
  refine wpAny_pure ⟨Code.quiet_builtin _ (by decide+kernel),codeAny_builtin F.entry_type_call ?_⟩
  rw[Around.under_plain (weight_type_call_type "set" [.ref l] []) rfl]
  repeat (any_goals (first|assumption|wp_step))
  refine codeAny_mono (Lc (.ref l) (E:=E) (Q₁:=fun obj s₁=>obj= .ref s.heap.objs.size/\s₁={s with heap:=s.heap.push (j9 w)}) ⟨rfl,rfl⟩) fun r s₁ hr=>?_
  cases r with
  |error e=>exact hr
  | ok fl =>
    cases fl with
    | ret obj =>
      obtain⟨rfl,rfl⟩:=hr
      have hS:(s.heap.push (j9 w)).get? s.heap.objs.size=some (j9 w):=dX _ rfl
      have hT:Shared.TypeIs {s with heap:=s.heap.push (j9 w)} (.ref s.heap.objs.size) "set":=⟨_,hS,rfl⟩
      have hli:=mT.init.lookup
      have hbi:=mT.init.bind (.ref s.heap.objs.size)
      repeat (any_goals (first|assumption|wp_step))
      refine codeAny_mono (codeAny_call_builtin (R:=wants (fun r s₂=>r= .none/\∃h' tk,s₂={s with heap:=h',toks:=tk}/\h'.SetOf (IK prog w) s.heap.objs.size (met (fun i=>ns.getD i 0) items.size) (firstMet (fun i=>ns.getD i 0) items.size).length/\gh (fc w) h' s.heap.objs.size/\
          (∀b o,b<s.heap.objs.size->s.heap.get? b=some o->h'.get? b=some o)) E) mT.init.plain F.entry_set_init (check_set_init_1 hT ?_)) fun r₂ s₂ w4=>?_
      · obtain⟨ol,fK,hcl,nl,hdl⟩:=hl
        obtain⟨XJ,XM,XG,Yk⟩:=ol
        simp only at hcl hdl
        subst hcl;subst hdl
        have Vt:=bH (j9 w) fK
        have Yi:=F.sub_list_set
        have XQ:=F.sub_list_frozenset
        have hne:(Value.type "list"==Value.type "dict")=false:=by decide
        have hl1:(s.heap.push (j9 w)).IsList l items:=⟨_,Vt,rfl,nl,rfl⟩
        unfold Builtin.«set.__init__» noKeywords Builtin.Frozenset.updateFrom
        generalize P0:pyIter=PI
        wp_walk
        subst P0
        refine wpAny_pyIter_list hl1 (wpAny_bind (wpAny_runValue ?_))
        have hlS:l<s.heap.objs.size:=bw fK
        have kZ:(s.heap.push (j9 w)).objs.size=s.heap.objs.size+1:=jW ..
        have n1:l≠(s.heap.push (j9 w)).objs.size:=by rw[kZ];exact cG (oj hlS)
        have n2:s.heap.objs.size∉[(s.heap.push (j9 w)).objs.size,l]:=by
          rw[kZ];intro z;rcases aP.mp z with z|z
          · exact absurd z (cG (n6 _))
          · exact absurd (aU.mp z) (oA hlS)
        have h3:A.in1.in1.in1.handled=none:=by simp[hh]
        have hS':=bH ({cls:= .type "list_iterator",data:= .fields #[.ref l, .int 0 0]}:Obj) hS
        refine MO (bt:=fc w) ((Walks.list h3 _ l n1 items).toS) s.heap.objs.size n2 (fun i=>ns.getD i 0) (fun i v e=>IntsAre.int_at hi i v (by rw[oH];exact e)) room (items.size-0) 0 _ (by omega) (eU _)
          ⟨⟨_,dX _ rfl,rfl,rfl⟩,(hl1.push _)⟩ (SetOf_congr ((setObjOf_fresh (knd:=IK prog w) (!fc w)).setOf hS' (by unfold scanBound;omega)) (fun _=>rfl) rfl) (.of hS' rfl .fresh) ?_
        intro s' mo q tt
        obtain⟨h',g',d',tk',os'⟩:=s'
        obtain rfl:g'=s.gens:=mo.gens
        obtain rfl:d'=s.drawn:=mo.drawn
        obtain rfl:os'=s.os:=mo.os
        refine wpAny_pure (wpAny_pure ⟨rfl,h',tk',rfl,q,tt,fun b o hb e=>?_⟩)
        refine mo.heap b o (fun z=>?_) (bH _ (bH _ e))
        rcases aP.mp z with z|z
        · exact absurd z (cG hb)
        · rw[kZ] at z;exact absurd (aU.mp z) (cG (oj hb))
      · cases r₂ with
        |error e=>exact w4
        | ok fl₂ =>
          cases fl₂ with
          | ret r =>
            obtain⟨rfl,h',tk,rfl,q1,q2,q3⟩:=w4
            repeat (any_goals (first|assumption|wp_step))
            exact fin _ _ q1 q2 q3
          |_=>exact w4.elim
    |_=>exact hr.elim
end
end L2
set_option maxRecDepth 100000
set_option maxHeartbeats 4000000
namespace L2
open PySem PySem.Spec PyProof.Rows
theorem iU:Slot "set_iterator" "__next__" "set_iterator.__next__":= .of (owner:="set_iterator") (n:="__next__") (by rw[typeLookup_type,builtinLookup_eq_fast];kernel_rfl) (by decide+kernel) (by decide+kernel) (by decide+kernel) (by first|exact .inl (by decide+kernel)|exact .inr (by decide+kernel)) (by rw[isSubtype_type];kernel_rfl)
theorem uP:entryFor table "set_iterator.__next__"=some Builtin.«set_iterator.__next__» :=entryFor_of_tree (by kernel_rfl)
theorem um(a:Value):argsOk "set_iterator.__next__" ⟨[a],[]⟩:=by unfold argsOk;kernel_rfl
theorem GD:Slot "set" "__iter__" "set.__iter__":= .of (owner:="set") (n:="__iter__") (by rw[typeLookup_type,builtinLookup_eq_fast];kernel_rfl) (by decide+kernel) (by decide+kernel) (by decide+kernel) (by first|exact .inl (by decide+kernel)|exact .inr (by decide+kernel)) (by rw[isSubtype_type];kernel_rfl)
theorem Pu:entryFor table "set.__iter__"=some Builtin.«frozenset.__iter__» :=entryFor_alias (id':="frozenset.__iter__") (by kernel_rfl) rfl (by decide+kernel) (by kernel_rfl)
theorem NO(a:Value):argsOk "set.__iter__" ⟨[a],[]⟩:=by unfold argsOk;kernel_rfl
theorem oO:Slot "set_iterator" "__iter__" "set_iterator.__iter__":= .of (owner:="set_iterator") (n:="__iter__") (by rw[typeLookup_type,builtinLookup_eq_fast];kernel_rfl) (by decide+kernel) (by decide+kernel) (by decide+kernel) (by first|exact .inl (by decide+kernel)|exact .inr (by decide+kernel)) (by rw[isSubtype_type];kernel_rfl)
theorem BJ:entryFor table "set_iterator.__iter__"=some Builtin.«dict_keyiterator.__iter__» :=entryFor_alias (id':="dict_keyiterator.__iter__") (by kernel_rfl) rfl (by decide+kernel) (by kernel_rfl)
theorem zW(a:Value):argsOk "set_iterator.__iter__" ⟨[a],[]⟩:=by unfold argsOk;kernel_rfl
end L2
set_option maxRecDepth 100000
set_option maxHeartbeats 4000000
namespace L2
open PySem PySem.Spec PyProof.Rows
section
variable{prog:Program}{w:World}{A:Around}{E:Value->Shared->Prop}{s:Shared}{a it tp:Addr}{o:Obj}{es:Array (Int×Value)}{ep:Nat}{t:SetTable}
theorem AW{α:Type}:∀{l:List α} {i:Nat} (h:i<l.length),(l[i]::l.eraseIdx i).Perm l
  |b::r,0,_=>by simp
  | b :: r, i + 1, h => by
    have:=AW (l:=r) (i:=i) (by simpa using h)
    simp only[List.getElem_cons_succ,List.eraseIdx_cons_succ]
    exact(List.Perm.swap b _ _).trans (this.cons b)
theorem BD{α:Type}(nx:Nat->Nat):∀(f k:Nat) (l:List α) (out:Array α),l.length<=f->(pickOrder.go nx f k l out).toList.Perm (out.toList++l):=by
  intro f
  induction f with
  | zero =>
    intro k l out h
    have:l=[]:=oF.mp (by omega)
    subst this
    unfold pickOrder.go
    simp
  | succ f ih =>
    intro k l out h
    unfold pickOrder.go
    cases l with
    |nil=>simp
    | cons b r =>
      have hlt:nx k%(b::r).length<(b::r).length:=vW _ (by simp)
      rw[aD hlt]
      dsimp only
      refine(ih (k+1) _ _ (by rw[DQ hlt];omega)).trans ?_
      rw[Array.toList_push,wM]
      refine List.Perm.append_left _ ?_
      exact AW hlt
theorem HJ(bt:fc w=true)(g1:s.heap.get? a=some o)(g3:o.data= .set es ep t)(g4:t.fits es.size=true){i sl:Nat}{Q:Option (Value×Nat)->Shared->Prop}
  (h:Q (((pickOrder (w.params.setOrder a ep) es)[i]?).map fun e=>(e.2,sl)) s):wpAny (model prog w) A (setNext a sl i ep) Q E s:=by
 unfold setNext
 refine wpAny_bind (wpAny_setState_of g1 g3 g4 ?_)
 dsimp only
 unfold setsByText
 refine wpAny_bind (wpAny_bind (wpAny_askSetting (wpAny_pure ?_)))
 show wpAny _ _ (if fc w=true then _ else _) _ _ _
 rw[if_pos bt]
 rw[if_neg (by simp)]
 refine wpAny_bind ?_
 unfold setWalk
 refine wpAny_bind (wpAny_setState_of g1 g3 g4 ?_)
 dsimp only
 unfold setsByText
 refine wpAny_bind (wpAny_bind (wpAny_askSetting (wpAny_pure ?_)))
 show wpAny _ _ (if fc w=true then _ else _) _ _ _
 rw[if_pos bt]
 refine wpAny_bind (wpAny_askSetting (wpAny_pure ?_))
 exact wpAny_pure h
theorem Iw(bt:fc w=false)(g1:s.heap.get? a=some o)(g3:o.data= .set es ep t)(g4:t.fits es.size=true)(tk:dM (fc w) t)(pl:t.plain=true\/es.size<=1){i sl:Nat}{Q:Option (Value×Nat)->Shared->Prop}
  (h:Q (match es[SetTable.below t.place sl]?,t.place[SetTable.below t.place sl]? with|some (_,x),some j=>some (x,j+1)|_,_=>none) s):wpAny (model prog w) A (setNext a sl i ep) Q E s:=by
 unfold setNext
 refine wpAny_bind (wpAny_setState_of g1 g3 g4 ?_)
 dsimp only
 unfold setsByText
 refine wpAny_bind (wpAny_bind (wpAny_askSetting (wpAny_pure ?_)))
 show wpAny _ _ (if fc w=true then _ else _) _ _ _
 rw[bt,if_neg bV]
 show wpAny _ _ (if(!t.plain && decide (es.size>1))=true then _ else _) _ _ _
 rw[if_neg (by
  intro z
  rw[er,Bool.not_eq_true',decide_eq_true_eq] at z
  rcases pl with p|p
  ·rw[p] at z;cases z.1
  ·omega)]
 refine wpAny_bind ?_
 show wpAny _ _ (if(!t.led && !es.isEmpty)=true then _ else _) _ _ _
 rw[if_neg (by rw[tk.led bt];simp)]
 refine wpAny_pure ?_
 exact wpAny_pure h
theorem VH(g1:s.heap.get? a=some o)(g3:o.data= .set es ep t)(g4:t.fits es.size=true){pl:Nat}{hx:Int}{x:Value}{Q:Value->Shared->Prop}(e:es[pl]?=some (hx,x))(h:Q x s):wpAny (model prog w) A (setNextDrawn a pl ep) Q E s:=by
 unfold setNextDrawn
 refine wpAny_bind (wpAny_setState_of g1 g3 g4 ?_)
 dsimp only
 rw[if_neg (by simp)]
 rw[e]
 exact wpAny_pure h
def jf(h:Heap)(it a:Addr)(first:Value)(i n ep:Nat):Prop:=∃o,h.get? it=some o/\o.cls= .type "set_iterator" /\o.data= .fields #[first, .int i 0, .ref a, .int n 0, .int ep 0]
theorem jf.ty{first:Value}{i n:Nat}(h:jf s.heap it a first i n ep):s.TypeIs (.ref it) "set_iterator":=let ⟨o,e,c,_⟩:=h;⟨o,e,c⟩
theorem vZ{first:Value}{i n:Nat}{QQ:Fin->Shared->Prop}{EE:Value->Shared->Prop}(hit:jf s.heap it a first i n ep)(g1:s.heap.get? a=some o)(g3:o.data= .set es ep t)(g4:t.fits es.size=true)(hn:es.size=n)
    (h:wpAny (model prog w) A (match first with
      | .int slot _ => (do
        match<-setNext a slot.toNat i ep with
        | some (x, next) => do
          setField (.ref it) 0 (rawInt next)
          setField (.ref it) 1 (rawInt ((i:Int)+1))
          ret x
        | none => do
          setField (.ref it) 2 .none
          raiseNew (<-newExc (.type "StopIteration") []))
      | _ => (do
        let some places<-seqItems? first|unsupported "internal:set_iterator"
        match places[i]? with
        | some (.int place _) => do
          let x<-setNextDrawn a place.toNat ep
          setField (.ref it) 1 (rawInt ((i:Int)+1))
          ret x
        |some _=>unsupported "internal:set_iterator"
        | none => do
          setField (.ref it) 0 (rawInt 0)
          setField (.ref it) 2 .none
          raiseNew (<-newExc (.type "StopIteration") []))) QQ EE s):wpAny (model prog w) A (Builtin.«set_iterator.__next__» ⟨[.ref it],[]⟩) QQ EE s:=by
  obtain⟨oi,ho,hc,hd⟩:=hit
  unfold Builtin.«set_iterator.__next__»
  refine wpAny_bind (wpAny_pure ?_)
  refine wpAny_bind (wpAny_fieldsOf ho hd ?_)
  dsimp only
  refine wpAny_bind (wpAny_setEntries_of g1 g3 g4 ?_)
  rw[if_neg (by rw[hn];simp)]
  cases first<;>exact h
theorem uM{h:Heap}{first:Value}{i n k:Nat}{x:Value}{oi:Obj}{vs:Array Value}(ho:h.get? it=some oi)(hc:oi.cls= .type "set_iterator")(hd:oi.data= .fields vs):
  (h.update it (Obj.mapFields (·.setIfInBounds k x))).get? it=some (Obj.mapFields (·.setIfInBounds k x) oi)/\(Obj.mapFields (·.setIfInBounds k x) oi).cls= .type "set_iterator" /\(Obj.mapFields (·.setIfInBounds k x) oi).data= .fields (vs.setIfInBounds k x):=by
 refine⟨ux _ ho (Obj.isFreed_of_fields (Obj.data_mapFields hd _)),(Obj.cls_mapFields ..).trans hc,Obj.data_mapFields hd _⟩
theorem Ew{sl i n nx:Nat}{x:Value}{Q:Option Value->Shared->Prop}(hit:jf s.heap it a (.int sl 0) i n ep)(g1:s.heap.get? a=some o)(g3:o.data= .set es ep t)(g4:t.fits es.size=true)(hn:es.size=n)
  (hN:∀(Q:Option (Value×Nat)->Shared->Prop) (E:Value->Shared->Prop),Q (some (x,nx)) s->wpAny (model prog w) A.in1 (setNext a sl i ep) Q E s)
  (hQ:∀h',jf h' it a (.int nx 0) (i+1) n ep->(∀b,b≠it->h'.get? b=s.heap.get? b)->Q (some x) {s with heap:=h'}):wpAny (model prog w) A (pyNext (.ref it)) Q E s:=by
 obtain⟨oi,ho,hc,hd⟩:=id hit
 unfold pyNext
 refine wpAny_bind (wpAny_attempt (wpAny_callSpecial?_slot (name:=Str.ofString "__next__") hit.ty iU (wpAny_call_entry iU hit.ty uP ?_ (um _))))
 refine vZ hit g1 g3 g4 hn ?_
 dsimp only
 refine wpAny_bind (hN _ _ ?_)
 dsimp only
 obtain⟨u1,u2,u3⟩:=uM (first:= .none) (i:=0) (n:=0) (k:=0) (x:=rawInt nx) ho hc hd
 obtain⟨w1,w2,w3⟩:=uM (first:= .none) (i:=0) (n:=0) (k:=1) (x:=rawInt ((i:Int)+1)) u1 u2 u3
 refine wpAny_bind (wpAny_setField ho hd (by simp) ?_)
 refine wpAny_bind (wpAny_setField u1 u3 (by simp) ?_)
 refine wpAny_pure ⟨x,rfl,wpAny_pure (hQ _ ⟨_,w1,w2,?_⟩ fun b hb=>?_)⟩
 ·rw[w3];simp[rawInt]
 ·exact((kE _ _ (bu hb))).trans (kE _ _ (bu hb))
theorem JJ{QQ:Fin->Shared->Prop}{B:Around}{Q:Option Value->Shared->Prop}(hh:B.handled=none)(hQ:∀o1 o2,Q none {s with heap:=(s.heap.push o1).push o2}):wpAny (model prog w) B (do raiseNew (<-newExc (.type "StopIteration") [])) QQ
  (fun e s'=>wpAny (model prog w) A (do if<-isInstance e (.type "StopIteration") then pure none else throw e) Q E s') s:=by
 refine wpAny_bind ?_
 simp only[newExc,newTuple]
 refine wpAny_bind (wpAny_newObj_type ?_ (by size_fits))
 refine wpAny_bind (m:=firstArgMember _ _) (wpAny_of_eq (a:=Value.none) (by first|rfl|(simp only[firstArgMember];rfl)) (wpAny_newObj_type ?_ (by size_fits)))
 simp only[raiseNew]
 refine wpAny_bind (wpAny_handled ?_)
 rw[hh]
 refine wpAny_bind (wpAny_pure (wpAny_throw ?_))
 refine wpAny_bind (wpAny_isInstance (b:=true) (T:="StopIteration") ⟨_,dX _ rfl,rfl⟩ isSubtype_stop ?_)
 exact wpAny_pure (hQ _ _)
theorem J9{sl i n:Nat}{Q:Option Value->Shared->Prop}(hh:A.handled=none)(hit:jf s.heap it a (.int sl 0) i n ep)(g1:s.heap.get? a=some o)(g3:o.data= .set es ep t)(g4:t.fits es.size=true)(hn:es.size=n)
  (hN:∀(Q:Option (Value×Nat)->Shared->Prop) (E:Value->Shared->Prop),Q none s->wpAny (model prog w) A.in1 (setNext a sl i ep) Q E s)
  (hQ:∀h',(∀b o,b≠it->s.heap.get? b=some o->h'.get? b=some o)->Q none {s with heap:=h'}):wpAny (model prog w) A (pyNext (.ref it)) Q E s:=by
 obtain⟨oi,ho,hc,hd⟩:=id hit
 unfold pyNext
 refine wpAny_bind (wpAny_attempt (wpAny_callSpecial?_slot (name:=Str.ofString "__next__") hit.ty iU (wpAny_call_entry iU hit.ty uP ?_ (um _))))
 refine vZ hit g1 g3 g4 hn ?_
 dsimp only
 refine wpAny_bind (hN _ _ ?_)
 dsimp only
 refine wpAny_bind (wpAny_setField ho hd (by simp) ?_)
 exact JJ (B:=A.in1) hh fun o1 o2=>hQ _ fun b o hb e=>bH _ (bH _ ((kE _ _ (bu hb)).trans e))
theorem Vn{i n pl:Nat}{hx:Int}{x:Value}{qk:Array Value}{Q:Option Value->Shared->Prop}(hit:jf s.heap it a (.ref tp) i n ep)(g1:s.heap.get? a=some o)(g3:o.data= .set es ep t)(g4:t.fits es.size=true)(hn:es.size=n)
  (htp:∃ot m,s.heap.get? tp=some ot/\ot.data= .seq qk m) (hp:qk[i]?=some (.int pl 0)) (he:es[pl]?=some (hx,x))
  (hQ:∀h',jf h' it a (.ref tp) (i+1) n ep->(∀b,b≠it->h'.get? b=s.heap.get? b)->Q (some x) {s with heap:=h'}):wpAny (model prog w) A (pyNext (.ref it)) Q E s:=by
 obtain⟨oi,ho,hc,hd⟩:=id hit
 obtain⟨ot,m,t1,t2⟩:=htp
 unfold pyNext
 refine wpAny_bind (wpAny_attempt (wpAny_callSpecial?_slot (name:=Str.ofString "__next__") hit.ty iU (wpAny_call_entry iU hit.ty uP ?_ (um _))))
 refine vZ hit g1 g3 g4 hn ?_
 dsimp only
 refine wpAny_bind (wpAny_seqItems t1 t2 ?_)
 dsimp only
 rw[hp]
 dsimp only
 refine wpAny_bind (VH g1 g3 g4 (by simpa using he) ?_)
 obtain⟨w1,w2,w3⟩:=uM (first:= .none) (i:=0) (n:=0) (k:=1) (x:=rawInt ((i:Int)+1)) ho hc hd
 refine wpAny_bind (wpAny_setField ho hd (by simp) (wpAny_pure ⟨x,rfl,wpAny_pure (hQ _ ⟨_,w1,w2,?_⟩ fun b hb=>kE _ _ (bu hb))⟩))
 rw[w3];simp[rawInt]
theorem UO{i n:Nat}{qk:Array Value}{Q:Option Value->Shared->Prop}(hh:A.handled=none)(hit:jf s.heap it a (.ref tp) i n ep)(g1:s.heap.get? a=some o)(g3:o.data= .set es ep t)(g4:t.fits es.size=true)(hn:es.size=n)
  (htp:∃ot m,s.heap.get? tp=some ot/\ot.data= .seq qk m) (hp:qk[i]?=none)
  (hQ:∀h',(∀b o,b≠it->s.heap.get? b=some o->h'.get? b=some o)->Q none {s with heap:=h'}):wpAny (model prog w) A (pyNext (.ref it)) Q E s:=by
 obtain⟨oi,ho,hc,hd⟩:=id hit
 obtain⟨ot,m,t1,t2⟩:=htp
 unfold pyNext
 refine wpAny_bind (wpAny_attempt (wpAny_callSpecial?_slot (name:=Str.ofString "__next__") hit.ty iU (wpAny_call_entry iU hit.ty uP ?_ (um _))))
 refine vZ hit g1 g3 g4 hn ?_
 dsimp only
 refine wpAny_bind (wpAny_seqItems t1 t2 ?_)
 dsimp only
 rw[hp]
 dsimp only
 obtain⟨u1,u2,u3⟩:=uM (first:= .none) (i:=0) (n:=0) (k:=0) (x:=rawInt 0) ho hc hd
 refine wpAny_bind (wpAny_setField ho hd (by simp) (wpAny_bind (wpAny_setField u1 u3 (by simp) ?_)))
 exact JJ (B:=A.in1) hh fun o1 o2=>hQ _ fun b o hb e=>bH _ (bH _ ((kE _ _ (bu hb)).trans ((kE _ _ (bu hb)).trans e)))
end
end L2
set_option maxRecDepth 100000
set_option maxHeartbeats 4000000
namespace L2
open PySem PySem.Spec PyProof.Rows
def slotAt(xs:Array Nat):Nat->Nat
 |0=>0
 |i+1=>xs.getD i 0+1
theorem Oh(xs:Array Nat):slotAt xs 0=0:=rfl
theorem Ih(xs:Array Nat)(i:Nat):slotAt xs (i+1)=xs.getD i 0+1:=rfl
theorem DU{xs:Array Nat}(hr:jS xs){i:Nat}(hi:i<=xs.size):SetTable.below xs (slotAt xs i)=i:=by
  obtain⟨h1,h2,h3⟩:=below_at (q:=slotAt xs i) hr
  have g:∀{j:Nat},j<xs.size->∃y,xs[j]?=some y/\xs.getD j 0=y:=fun{j} hj=>⟨xs[j],ko hj,by rw[zJ,ko hj];rfl⟩
  rcases wX (SetTable.below xs (slotAt xs i)) i with z|z|z
  · obtain⟨y,e,_⟩:=g (eg z hi)
    have:=h3 _ y (aS _) e
    cases i with
    |zero=>omega
    | succ i =>
      obtain⟨y',e',d'⟩:=g (j:=i) (by omega)
      have es:=Ih xs i
      rw[d'] at es
      rcases BP (Nat.le_of_lt_succ z) with z|z
      · have:=hr _ _ _ _ z e e';omega
      · rw[z,e'] at e;cases e;omega
  · exact z
  · obtain⟨y,e,d⟩:=g (j:=i) (by omega)
    have:=h2 i y z e
    cases i with
    |zero=>rw[Oh] at this;omega
    | succ i =>
      obtain⟨y',e',d'⟩:=g (j:=i) (by omega)
      rw[Ih,d'] at this
      have:=hr i (i+1) _ _ (by omega) e' e
      omega
section
variable{prog:Program}{w:World}{a I tp:Addr}{o:Obj}{es:Array (Int×Value)}{ep:Nat}{t:SetTable}
theorem Eo(h:t.fits es.size=true):t.place.size=es.size:=by
 unfold SetTable.fits at h
 rw[er] at h
 exact eq_of_beq h.1
theorem NQ{A:Around}(hh:A.handled=none)(bt:fc w=true)(g3:o.data= .set es ep t)(g4:t.fits es.size=true)(hne:a≠I):
  Walks prog w A I [I,a] [I] es.size (fun i v=>((pickOrder (w.params.setOrder a ep) es).toList.map (·.2))[i]?=some v) (fun i h=>jf h I a (.int (0:Nat) 0) i es.size ep/\h.get? a=some o) where
 sub:=fun b hb=>by simp at hb;simp[hb]
 frame:=fun i h h' st hk=>by
  obtain⟨⟨oi,h1,h2,h3⟩,h4⟩:=st
  exact⟨⟨oi,hk I (by simp) _ h1,h2,h3⟩,hk a (by simp) _ h4⟩
 item:=fun i s Q E hi st hQ=>by
  have hsz:(pickOrder (w.params.setOrder a ep) es).toList.length=es.size:=by
   have:=(BD (w.params.setOrder a ep) es.size 0 es.toList #[] (by simp)).length_eq
   simpa[pickOrder] using this
  have hlt:i<(pickOrder (w.params.setOrder a ep) es).toList.length:=by omega
  have e1:(pickOrder (w.params.setOrder a ep) es)[i]?=some (pickOrder (w.params.setOrder a ep) es).toList[i]:=by rw[<-oH];exact aD hlt
  refine Ew st.1 st.2 g3 g4 rfl (x:=(pickOrder (w.params.setOrder a ep) es).toList[i].2) (nx:=0) (fun Q E q=>HJ bt st.2 g3 g4 (by rw[e1];exact q)) fun h' x1 x2=>?_
  refine hQ _ h' s.toks (by rw[bx,aD hlt];rfl) ⟨x1,(x2 a hne).trans st.2⟩ fun b o' hb e=>(x2 b (fun z=>hb (by simp[z]))).trans e
 done:=fun s Q E st hQ=>by
  have hsz:(pickOrder (w.params.setOrder a ep) es).toList.length=es.size:=by
   have:=(BD (w.params.setOrder a ep) es.size 0 es.toList #[] (by simp)).length_eq
   simpa[pickOrder] using this
  refine J9 hh st.1 st.2 g3 g4 rfl (fun Q E q=>HJ bt st.2 g3 g4 (by rw[<-oH,eO (by omega)];exact q)) fun h' x1=>hQ h' s.toks fun b o' hb e=>x1 b o' (fun z=>hb (by simp[z])) e
 self:=fun i s Q E st hQ=>by
  refine wpAny_pyIter_slot st.1.ty oO (wpAny_call_entry oO st.1.ty BJ ?_ (zW _))
  exact wpAny_pure ⟨_,rfl,"set_iterator",_,st.1.ty,iU.lookup,hQ⟩
theorem Ve{A:Around}(hh:A.handled=none)(bt:fc w=false)(g3:o.data= .set es ep t)(g4:t.fits es.size=true)(tk:dM (fc w) t)(pl:t.plain=true\/es.size<=1)(hne:a≠I):
  Walks prog w A I [I,a] [I] es.size (fun i v=>(es.toList.map (·.2))[i]?=some v) (fun i h=>jf h I a (.int (slotAt t.place i) 0) i es.size ep/\h.get? a=some o) where
 sub:=fun b hb=>by simp at hb;simp[hb]
 frame:=fun i h h' st hk=>by
  obtain⟨⟨oi,h1,h2,h3⟩,h4⟩:=st
  exact⟨⟨oi,hk I (by simp) _ h1,h2,h3⟩,hk a (by simp) _ h4⟩
 item:=fun i s Q E hi st hQ=>by
  have hps:=Eo g4
  have hr:jS t.place:=by
   rcases pl with p|p
   ·exact tk.sX p
   ·intro i j x y hij ex ey
    have:=(qK.mp ey).1;omega
  have hlt:i<es.toList.length:=by simpa using hi
  have e1:es[i]?=some es.toList[i]:=by rw[<-oH];exact aD hlt
  have e2:t.place[i]?=some (t.place.getD i 0):=by rw[zJ,ko (by omega)];rfl
  refine Ew st.1 st.2 g3 g4 rfl (x:=es.toList[i].2) (nx:=slotAt t.place (i+1)) (fun Q E q=>Iw bt st.2 g3 g4 tk pl (by rw[DU hr (by omega),e1,e2];exact q)) fun h' x1 x2=>?_
  refine hQ _ h' s.toks (by rw[bx,aD hlt];rfl) ⟨x1,(x2 a hne).trans st.2⟩ fun b o' hb e=>(x2 b (fun z=>hb (by simp[z]))).trans e
 done:=fun s Q E st hQ=>by
  have hps:=Eo g4
  have hr:jS t.place:=by
   rcases pl with p|p
   ·exact tk.sX p
   ·intro i j x y hij ex ey
    have:=(qK.mp ey).1;omega
  refine J9 hh st.1 st.2 g3 g4 rfl (fun Q E q=>Iw bt st.2 g3 g4 tk pl (by rw[DU hr (by omega),Dp (aS _)];exact q)) fun h' x1=>hQ h' s.toks fun b o' hb e=>x1 b o' (fun z=>hb (by simp[z])) e
 self:=fun i s Q E st hQ=>by
  refine wpAny_pyIter_slot st.1.ty oO (wpAny_call_entry oO st.1.ty BJ ?_ (zW _))
  exact wpAny_pure ⟨_,rfl,"set_iterator",_,st.1.ty,iU.lookup,hQ⟩
theorem Rq{A:Around}{ks:List Nat}(hh:A.handled=none)(g3:o.data= .set es ep t)(g4:t.fits es.size=true)(hk:ks.Perm (List.range es.size))(hne:a≠I)(hnt:tp≠I):
    Walks prog w A I [I,a,tp] [I] es.size (fun i v=>((ks.filterMap (es[·]?)).map (·.2))[i]?=some v) (fun i h=>jf h I a (.ref tp) i es.size ep/\h.get? a=some o/\∃ot m,h.get? tp=some ot/\ot.data= .seq (ks.map fun(k:Nat)=>rawInt k).toArray m) where
  sub:=fun b hb=>by simp at hb;simp[hb]
  frame:=fun i h h' st hk=>by
    obtain⟨⟨oi,h1,h2,h3⟩,h4,ot,m,h5,h6⟩:=st
    exact⟨⟨oi,hk I (by simp) _ h1,h2,h3⟩,hk a (by simp) _ h4,ot,m,hk tp (by simp) _ h5,h6⟩
  item:=fun i s Q E hi st hQ=>by
    have hlen:ks.length=es.size:=by rw[hk.length_eq];simp
    have hin:∀k∈ks,k<es.size:=fun k m=>by simpa using hk.mem_iff.mp m
    have hi':i<ks.length:=by omega
    have hki:=hin ks[i] (cV hi')
    have e1:es[ks[i]]?=some es[ks[i]]:=ko hki
    have fm:∀(l:List Nat),(∀k∈l,k<es.size)->∀j (hj:j<l.length),(l.filterMap (es[·]?))[j]?=es[l[j]]?:=by
      intro l
      induction l with
      |nil=>intro _ j hj;simp at hj
      | cons b r ih =>
        intro hl j hj
        have hb:=hl b (ck ..)
        rw[pL,ko hb]
        cases j with
        |zero=>simp[ko hb]
        |succ j=>simpa using ih (fun k m=>hl k (bJ _ m)) j (by simpa using hj)
    refine Vn st.1 st.2.1 g3 g4 rfl st.2.2 (pl:=ks[i]) (hx:=es[ks[i]].1) (x:=es[ks[i]].2) (by simp[aD hi',rawInt]) e1 fun h' x1 x2=>?_
    obtain⟨ot,m,t1,t2⟩:=st.2.2
    refine hQ _ h' s.toks ?_ ⟨x1,(x2 a hne).trans st.2.1,ot,m,(x2 tp hnt).trans t1,t2⟩ fun b o' hb e=>(x2 b (fun z=>hb (by simp[z]))).trans e
    rw[bx,fm ks hin i hi',e1];rfl
  done:=fun s Q E st hQ=>by
    have hlen:ks.length=es.size:=by rw[hk.length_eq];simp
    exact UO hh st.1 st.2.1 g3 g4 rfl st.2.2 (by simp;omega) fun h' x1=>hQ h' s.toks fun b o' hb e=>x1 b o' (fun z=>hb (by simp[z])) e
  self:=fun i s Q E st hQ=>by
    refine wpAny_pyIter_slot st.1.ty oO (wpAny_call_entry oO st.1.ty BJ ?_ (zW _))
    exact wpAny_pure ⟨_,rfl,"set_iterator",_,st.1.ty,iU.lookup,hQ⟩
end
section
variable{prog:Program}{w:World}{A:Around}{E:Value->Shared->Prop}{s:Shared}{a:Addr}{o:Obj}{es:Array (Int×Value)}{ep:Nat}{t:SetTable}
theorem FY{α:Type}:∀l:List α,(List.range l.length).filterMap (fun i=>l[i]?)=l
  |[]=>rfl
  | x :: l => by
    have:=FY l
    rw[fE,xH,pL,List.filterMap_map]
    simpa[Function.comp_def] using this
theorem U0{src:Source}{n:Nat}{Q:Nat->Shared->Prop}(hn:n≠0)(h:∀i d',i<n->Q i {s with drawn:=d'}):wpAny (model prog w) A (choose src n) Q E s:=fun Γ p _=>⟨hn,h _ _ (vW _ (Nat.pos_of_ne_zero hn))⟩
theorem EK{α:Type}:∀(n:Nat) (xs:List α) (s:Shared) (Q:List α->Shared->Prop),xs.length<=n->(∀ks d',ks.Perm xs->Q ks {s with drawn:=d'})->wpAny (model prog w) A (drawOrder n xs) Q E s
  | 0, xs, s, Q, hl, h => by
    have:xs=[]:=oF.mp (by omega)
    subst this
    unfold drawOrder
    exact wpAny_pure (h [] s.drawn .nil)
  | n + 1, [], s, Q, hl, h => by
    unfold drawOrder
    exact wpAny_pure (h [] s.drawn .nil)
  | n + 1, x :: xs, s, Q, hl, h => by
    unfold drawOrder
    refine wpAny_bind (U0 (by simp) fun i d' hi=>?_)
    rw[aD hi]
    dsimp only
    refine wpAny_bind (EK n _ _ _ (by rw[DQ hi];simp at hl⊢;omega) fun ks d2 hk=>?_)
    exact wpAny_pure (h _ d2 ((hk.cons _).trans (AW hi)))
theorem RZ(g1:s.heap.get? a=some o)(g3:o.data= .set es ep t)(g4:t.fits es.size=true){Q:Bool->Shared->Prop}(h:Q (!fc w &&(!t.plain && decide (es.size>1))) s):wpAny (model prog w) A (setDrawn a) Q E s:=by
 unfold setDrawn
 refine wpAny_bind (wpAny_setState_of g1 g3 g4 ?_)
 dsimp only
 unfold setsByText
 refine wpAny_bind (wpAny_bind (wpAny_askSetting (wpAny_pure ?_)))
 exact wpAny_pure h
theorem Kg(g1:s.heap.get? a=some o)(g3:o.data= .set es ep t)(g4:t.fits es.size=true){Q:Nat->Shared->Prop}(h:Q ep s):wpAny (model prog w) A (setEpoch a) Q E s:=by
 unfold setEpoch
 exact wpAny_bind (wpAny_setState_of g1 g3 g4 (wpAny_pure h))
theorem Rj{Q:Value->Shared->Prop}(hb:es.size<scanBound)(g1:s.heap.get? a=some o)(g2:o.ExactSet)(g3:o.data= .set es ep t)(g4:t.fits es.size=true)(tk:dM (fc w) t)
    (hQ:∀(I:Addr) (h':Heap) d' (items:List Value) (fp:List Addr) (St:Nat->Heap->Prop),(∀b o,s.heap.get? b=some o->h'.get? b=some o)->s.heap.objs.size<=I->(∀b∈fp,b=a\/s.heap.objs.size<=b)->I∈fp->(∀b∈fp,b<h'.objs.size)->items.Perm (es.toList.map (·.2))->
      (∀B:Around,B.handled=none->Walks prog w B I fp [I] items.length (fun i v=>items[i]?=some v) St)->St 0 h'->Q (.ref I) {s with heap:=h',drawn:=d'}):wpAny (model prog w) A (pyIter (.ref a)) Q E s:=by
  have hT:s.TypeIs (.ref a) "set":=⟨o,g1,g2.1⟩
  have hlt:=bw g1
  refine wpAny_pyIter_slot hT GD (wpAny_call_entry GD hT Pu ?_ (NO _))
  unfold Builtin.«frozenset.__iter__»
  unfold Builtin.Frozenset.slot0 slotArgs
  simp only[List.isEmpty_nil,Bool.not_true,Bool.false_eq_true,↓reduceIte,bind_assoc,List.length_nil,bne_self_eq_false]
  unfold Builtin.Frozenset.addrOf Builtin.Frozenset.sizeOf
  refine wpAny_bind (wpAny_pure ?_)
  try dsimp only
  refine wpAny_bind (wpAny_pure ?_)
  refine wpAny_bind (wpAny_bind (wpAny_setEntries_of g1 g3 g4 (wpAny_pure ?_)))
  refine wpAny_bind (RZ g1 g3 g4 ?_)
  by_cases c:(!fc w &&(!t.plain && decide (es.size>1)))=true
  · rw[if_pos c]
    refine wpAny_bind (EK es.size (List.range es.size) s _ (by simp) fun ks d' hk=>?_)
    unfold newTuple
    refine wpAny_bind (wpAny_newObj_type ?_ ?_)
    rotate_left
    · have hk0:ks.length=es.size:=by rw[hk.length_eq];simp
      show(List.map (fun(i:Nat)=>rawInt i) ks).toArray.size<=sizeLine
      rw[cN,aj,hk0]
      exact fits_of_scanBound hb
    have kr:=bH ({cls:= .type "tuple",data:= .seq (ks.map fun(i:Nat)=>rawInt i).toArray}:Obj) g1
    refine wpAny_bind (Kg (s:={s with heap:=_,drawn:=d'}) kr g3 g4 ?_)
    unfold newFields
    refine wpAny_bind (wpAny_newObj_type ?_)
    have hk0:ks.length=es.size:=by rw[hk.length_eq];simp
    have fin:=hQ
    clear hQ
    have kZ:(s.heap.push ({cls:= .type "tuple",data:= .seq (ks.map fun(i:Nat)=>rawInt i).toArray}:Obj)).objs.size=s.heap.objs.size+1:=jW ..
    have gT:(s.heap.push ({cls:= .type "tuple",data:= .seq (ks.map fun(i:Nat)=>rawInt i).toArray}:Obj)).get? s.heap.objs.size=some {cls:= .type "tuple",data:= .seq (ks.map fun(i:Nat)=>rawInt i).toArray}:=dX _ rfl
    have gO:∀b o,s.heap.get? b=some o->(s.heap.push ({cls:= .type "tuple",data:= .seq (ks.map fun(i:Nat)=>rawInt i).toArray}:Obj)).get? b=some o:=fun b o e=>bH _ e
    generalize NV:s.heap.push ({cls:= .type "tuple",data:= .seq (ks.map fun(i:Nat)=>rawInt i).toArray}:Obj)=h1 at kr kZ gT gO⊢
    have gI:(h1.push ({cls:= .type "set_iterator",data:= .fields #[.ref s.heap.objs.size,rawInt 0, .ref a,rawInt es.size,rawInt ep]}:Obj)).get? h1.objs.size=some {cls:= .type "set_iterator",data:= .fields #[.ref s.heap.objs.size,rawInt 0, .ref a,rawInt es.size,rawInt ep]}:=dX _ rfl
    have gS:=bH ({cls:= .type "set_iterator",data:= .fields #[.ref s.heap.objs.size,rawInt 0, .ref a,rawInt es.size,rawInt ep]}:Obj) kr
    have NS:=bH ({cls:= .type "set_iterator",data:= .fields #[.ref s.heap.objs.size,rawInt 0, .ref a,rawInt es.size,rawInt ep]}:Obj) gT
    have UP:(h1.push ({cls:= .type "set_iterator",data:= .fields #[.ref s.heap.objs.size,rawInt 0, .ref a,rawInt es.size,rawInt ep]}:Obj)).objs.size=h1.objs.size+1:=jW ..
    subst NV
    refine wpAny_pure ⟨_,rfl,"set_iterator",_,⟨_,gI,rfl⟩,iU.lookup,?_⟩
    have pp:(ks.filterMap (es[·]?)).Perm es.toList:=by
      have:=hk.filterMap (es[·]?)
      have e:(List.range es.size).filterMap (es[·]?)=es.toList:=by
        have:=FY es.toList
        simpa using this
      rwa[e] at this
    have hn:((ks.filterMap (es[·]?)).map (·.2)).length=es.size:=by rw[aj,pp.length_eq];simp
    have pM:=BY (n6 s.heap.objs.size) kZ.symm
    refine fin _ _ d' ((ks.filterMap (es[·]?)).map (·.2)) [_,a,s.heap.objs.size] _ (fun b o e=>bH _ (gO b o e)) (je pM) (fun b m=>?_) (ck ..) (fun b m=>?_) (pp.map _) (fun B hB=>by rw[hn];exact Rq hB g3 g4 hk (cG (mJ hlt pM)) (cG pM)) ?_
    · rcases aP.mp m with e|m
      · exact .inr (by rw[e];exact je pM)
      · rcases aP.mp m with e|m
        · exact .inl e
        · exact .inr (nN (aU.mp m).symm)
    · refine BY ?_ UP.symm
      rcases aP.mp m with e|m
      · rw[e];exact n6 _
      · rcases aP.mp m with e|m
        · rw[e];exact oj (mJ hlt pM)
        · rw[aU.mp m];exact oj pM
    · exact⟨⟨_,gI,rfl,rfl⟩,gS,_,_,NS,rfl⟩
  · rw[if_neg c]
    refine wpAny_bind (wpAny_pure ?_)
    refine wpAny_bind (Kg g1 g3 g4 ?_)
    unfold newFields
    refine wpAny_bind (wpAny_newObj_type ?_)
    have gI:(s.heap.push ({cls:= .type "set_iterator",data:= .fields #[rawInt 0,rawInt 0, .ref a,rawInt es.size,rawInt ep]}:Obj)).get? s.heap.objs.size=some {cls:= .type "set_iterator",data:= .fields #[rawInt 0,rawInt 0, .ref a,rawInt es.size,rawInt ep]}:=dX _ rfl
    have gS:=bH ({cls:= .type "set_iterator",data:= .fields #[rawInt 0,rawInt 0, .ref a,rawInt es.size,rawInt ep]}:Obj) g1
    have hfp:∀b∈[s.heap.objs.size,a],b=a\/s.heap.objs.size<=b:=fun b m=>by
      rcases aP.mp m with e|m
      · exact .inr (nN e.symm)
      · exact .inl (aU.mp m)
    have hsz:(s.heap.push ({cls:= .type "set_iterator",data:= .fields #[rawInt 0,rawInt 0, .ref a,rawInt es.size,rawInt ep]}:Obj)).objs.size=s.heap.objs.size+1:=jW ..
    have G9:∀b∈[s.heap.objs.size,a],b<(s.heap.push ({cls:= .type "set_iterator",data:= .fields #[rawInt 0,rawInt 0, .ref a,rawInt es.size,rawInt ep]}:Obj)).objs.size:=fun b m=>by
      rw[hsz]
      rcases aP.mp m with e|m
      · rw[e];exact n6 _
      · rw[aU.mp m];exact oj hlt
    refine wpAny_pure ⟨_,rfl,"set_iterator",_,⟨_,gI,rfl⟩,iU.lookup,?_⟩
    cases bt:fc w with
    | true =>
      have pp:(pickOrder (w.params.setOrder a ep) es).toList.Perm es.toList:=by simpa[pickOrder] using BD (w.params.setOrder a ep) es.size 0 es.toList #[] (by simp)
      have hn:((pickOrder (w.params.setOrder a ep) es).toList.map (·.2)).length=es.size:=by rw[aj,pp.length_eq];simp
      refine hQ _ _ s.drawn ((pickOrder (w.params.setOrder a ep) es).toList.map (·.2)) [s.heap.objs.size,a] _ (fun b o e=>bH _ e) (aS _) hfp (by simp) G9 (pp.map _) (fun B hB=>by rw[hn];exact NQ hB bt g3 g4 (cG hlt)) ?_
      exact⟨⟨_,gI,rfl,rfl⟩,gS⟩
    | false =>
      have pl:t.plain=true\/es.size<=1:=by
        rw[bt,Bool.not_false,Bool.true_and] at c
        cases hp:t.plain with
        |true=>exact .inl rfl
        | false =>
          rw[hp,Bool.not_false,Bool.true_and,decide_eq_true_eq] at c
          exact .inr (by omega)
      have hn:(es.toList.map (·.2)).length=es.size:=by simp
      refine hQ _ _ s.drawn (es.toList.map (·.2)) [s.heap.objs.size,a] _ (fun b o e=>bH _ e) (aS _) hfp (by simp) G9 (.refl _) (fun B hB=>by rw[hn];exact Ve hB bt g3 g4 tk pl (cG hlt)) ?_
      exact⟨⟨_,gI,rfl,rfl⟩,gS⟩
end
end L2
set_option maxRecDepth 100000
set_option maxHeartbeats 4000000
namespace L2
open PySem PySem.Spec PyProof.Rows
section
variable{prog:Program}{w:World}{A:Around}{E:Value->Shared->Prop}{s:Shared}{a:Addr}{o:Obj}{es:Array (Int×Value)}{ep:Nat}{t:SetTable}
theorem U5{Q:Bool->Shared->Prop}(hT:s.TypeIs (.ref a) "set")(h:Q false s):wpAny (model prog w) A (Builtin.List.listLengthHint (.ref a)) Q E s:=by
 unfold Builtin.List.listLengthHint
 refine wpAny_bind (wpAny_specialOf hT PySem.F.slot_set_len.lookup ?_)
 generalize hid:("set.__len__":String)=id0
 wp_delta
 rw[show splitId id0=some ("set","__len__") from by subst hid;decide+kernel]
 subst hid
 refine wpAny_bind (wpAny_isInstance (b:=true) (T:="set") hT (by rw[isSubtype_type];kernel_rfl) ?_)
 refine wpAny_ite_split (fun z=>absurd z (by decide)) fun _=>wpAny_ite_split (fun _=>?_) fun z=>absurd (by decide+kernel) z
 exact wpAny_bind (wpAny_typeOf hT (wpAny_pure h))
theorem O4{items:List Value}{acc:Array Value}(h:ItemsOf (fun i v=>items[i]?=some v) acc items.length):acc.toList=items:=by
 apply iy
 intro i
 by_cases hi:i<acc.size
 ·have e:acc[i]?=some acc[i]:=ko hi
  rw[oH,e,h.2 i _ e]
 ·have:=h.1
  rw[eO (by simp;omega),eO (by omega)]
theorem SX{Q:List Value->Shared->Prop}(hh:A.handled=none)(hb:es.size<scanBound)(g1:s.heap.get? a=some o)(g2:o.ExactSet)(g3:o.data= .set es ep t)(g4:t.fits es.size=true)(tk:dM (fc w) t)
  (hQ:∀h' d' tk' items,(∀b o,s.heap.get? b=some o->h'.get? b=some o)->s.heap.objs.size<=h'.objs.size->items.Perm (es.toList.map (·.2))->Q items {s with heap:=h',drawn:=d',toks:=tk'}):wpAny (model prog w) A (collect (.ref a)) Q E s:=by
 have hlt:=bw g1
 unfold collect
 refine wpAny_bind (wpAny_runValue (codeAny_builtin E7 ?_))
 rw[kY HU _]
 show wpAny _ A.in1 (newList []>>=fun l=>again (.builtin "list.__iadd__" ⟨[l, .ref a],[]⟩)) _ _ s
 refine wpAny_bind (wpAny_newObj_type ?_)
 refine wpAny_pure ⟨plainId_quiet tS _,codeAny_builtin Ea ?_⟩
 rw[kY tS _]
 have gL:(s.heap.push ({cls:= .type "list",data:= .seq ([]:List Value).toArray}:Obj)).get? s.heap.objs.size=some {cls:= .type "list",data:= .seq ([]:List Value).toArray}:=dX _ rfl
 have gA:=bH ({cls:= .type "list",data:= .seq ([]:List Value).toArray}:Obj) g1
 have Gg:(s.heap.push ({cls:= .type "list",data:= .seq ([]:List Value).toArray}:Obj)).objs.size=s.heap.objs.size+1:=jW ..
 show wpAny _ A.in1 (Builtin.List.listExtendWith (.ref s.heap.objs.size) (.ref a) (.ref s.heap.objs.size)) _ _ {s with heap:=s.heap.push ({cls:= .type "list",data:= .seq ([]:List Value).toArray}:Obj)}
 have hkeep:∀b o,s.heap.get? b=some o->(s.heap.push ({cls:= .type "list",data:= .seq ([]:List Value).toArray}:Obj)).get? b=some o:=fun b o e=>bH _ e
 generalize s.heap.push ({cls:= .type "list",data:= .seq ([]:List Value).toArray}:Obj)=h1 at gL gA Gg hkeep⊢
 unfold Builtin.List.listExtendWith
 refine wpAny_bind (wpAny_typeOf (T:="set") ⟨o,gA,g2.1⟩ ?_)
 have n1:Builtin.List.listSameRef (.ref s.heap.objs.size) (.ref a)=false:=by
  show(s.heap.objs.size==a)=false
  exact beq_eq_false_iff_ne.mpr (oA hlt)
 have n2:(Value.type "set"==Value.type "list")=false:=by decide
 have n3:(Value.type "set"==Value.type "tuple")=false:=by decide
 simp only[n1,n2,n3,nD,Bool.false_eq_true,if_false]
 refine wpAny_bind (Rj (s:={s with heap:=h1}) hb gA g2 g3 g4 tk fun I h2 d' items fp St k1 k2 k3 k4 k5 pp W st=>?_)
 have VZ:=k1 _ _ gA
 have C4:=k1 _ _ gL
 refine wpAny_bind (wpAny_holding (U5 (s:={s with heap:=h2,drawn:=d'}) ⟨o,VZ,g2.1⟩ ?_))
 have lS:s.heap.objs.size<h1.objs.size:=BY (n6 _) Gg.symm
 have nS:s.heap.objs.size∉fp:=fun m=>by
  rcases k3 _ m with e|e
  ·exact absurd e (oA hlt)
  ·exact absurd (eg lS e) (iG _)
 have hil:items.length<=sizeLine:=by
  rw[pp.length_eq,aj,jZ];exact fits_of_scanBound hb
 have key:∀(h3:Heap) (c:Nat),St 0 h3->(∀b o,b≠s.heap.objs.size->h2.get? b=some o->h3.get? b=some o)->h3.get? s.heap.objs.size=some {cls:= .type "list",data:= .seq #[] c}->
   codeAny (model prog w) A (.builtin "list.extend.loop" ⟨[.ref s.heap.objs.size, .ref I, .ref s.heap.objs.size],[]⟩) (fun r s'=>match r with
    | .ok (.ret v)=>wpAny (model prog w) A (match v with| .ref x=>(do match(<-load x).data with| .seq xs _=>pure xs.toList|_=>unsupported "internal:collect")|_=>unsupported "internal:collect") Q E s'
    | .ok _=>False
    | .error e=>E e s') {s with heap:=h3,drawn:=d'}:=by
  intro h3 c st3 q1 q2
  refine codeAny_extend_loopS ((W A.in1 hh).toS) hil _ nS _ items.length 0 _ #[] c rfl (eU _) st3 q2 (ItemsOf.nil _) fun s' acc c' mo q3 q4=>?_
  refine wpAny_bind (wpAny_load q3 (wpAny_pure ?_))
  rw[O4 q4,Moved.eq_with mo]
  refine hQ s'.heap d' s'.toks items (fun b o e=>?_) ?_ pp
  ·have nb:b≠s.heap.objs.size:=cG (bw e)
   refine mo.heap b o (fun m=>?_) (q1 b o nb (k1 b o (hkeep b o e)))
   rcases aP.mp m with z|z
   ·exact nb z
   ·have z:=aU.mp z
    rw[z] at e
    exact absurd (eg (mJ (bw e) lS) k2) (iG _)
  ·exact je (bw q3)
 refine wpAny_ite_split (fun _=>?_) fun _=>wpAny_pure ⟨plainId_quiet Kc _,key h2 _ st (fun _ _ _ e=>e) C4⟩
 refine wpAny_bind (wpAny_rule (wpAny_bind ?_))
 show wpAny _ A.in1 (updateSeq s.heap.objs.size (·.push .none)>>=fun _=>updateSeq s.heap.objs.size (·.pop)) _ _ _
 have u1:=ux (Obj.mapSeq (·.push Value.none)) C4 rfl
 have u2:=ux (Obj.mapSeq (·.pop)) u1 rfl
 refine wpAny_bind (wpAny_updateSeq C4 rfl (wpAny_updateSeq (hz:=by seq_fits) u1 rfl ?_))
 have Hh:∀b o,b≠s.heap.objs.size->h2.get? b=some o->((h2.update s.heap.objs.size (Obj.mapSeq (·.push Value.none))).update s.heap.objs.size (Obj.mapSeq (·.pop))).get? b=some o:=fun b o nb e=>(kE _ _ (bu nb)).trans ((kE _ _ (bu nb)).trans e)
 exact wpAny_pure ⟨plainId_quiet Kc _,key _ _ ((W A.in1 hh).frame 0 _ _ st fun b m o e=>Hh b o (fun z=>nS (z▸m)) e) Hh u2⟩
theorem FT{ks:List Int->Prop}:∀{vs:List Value},(∀v∈vs,∃k t,v= .int k t)->∃ns,IntsAre vs ns
  |[],_=>⟨[], .nil⟩
  | v :: vs, h => by
    obtain⟨k,t,rfl⟩:=h v (ck ..)
    obtain⟨ns,hn⟩:=FT (ks:=ks) fun v m=>h v (bJ _ m)
    exact⟨k::ns, .cons k t hn⟩
theorem Jl:∀{vs:List Value} {ns:List Int},IntsAre vs ns->∀k,k∈ns↔∃t, .int k t∈vs
  |_,_, .nil,k=>by simp
  | _, _, .cons j t h, k => by
    rw[aP,Jl h k]
    constructor
    · rintro(rfl|⟨t',m⟩)
      · exact⟨_,ck ..⟩
      · exact⟨t',bJ _ m⟩
    · rintro⟨t',m⟩
      rcases aP.mp m with e|m
      · cases e;exact .inl rfl
      · exact .inr ⟨t',m⟩
theorem Ur{S:Int->Bool}{n:Nat}{Q:Value->Shared->Prop}(hh:A.handled=none)(hS:s.heap.SetOf (IK prog w) a S n)(hT:gh (fc w) s.heap a)(h64:n<64)
  (h : ∀ h' d' tk' (l : Addr) (out : List Value) (ns : List Int) (e : Nat), (∀ b o, s.heap.get? b = some o -> h'.get? b = some o) -> s.heap.objs.size <= l -> h'.get? l = some (seqObj "list" out.toArray e) -> IntsAre out ns -> ns.Pairwise (· <= ·) -> (∀ k, S k = true ↔ k ∈ ns) -> ns.length = n ->
   Q (.ref l) {s with heap:=h',drawn:=d',toks:=tk'}):wpAny (model prog w) A (call (.builtin "sorted") [.ref a]) Q E s:=by
 obtain⟨o,es,ep,t,g1,g2,g3,l1,l2,l3,l4,sz⟩:=hS
 refine Eg kind_sorted plain_sorted entry_sorted (args_sorted1 _) ?_
 unfold Builtin.«sorted»
 refine wpAny_bind (m:=checkCount "sorted" 1 1 _) (wpAny_pure (wpAny_bind ?_))
 refine SX (A:=A.in1) hh l3 g1 g2 g3 l4 (hT o es ep t g1 g3) fun h1 d1 yq items k1 k2 pp=>?_
 have hint:∀v∈items,∃k t,v= .int k t:=fun v m=>by
  obtain⟨e,m',rfl⟩:=aI.mp (pp.mem_iff.mp m)
  obtain⟨⟨k,hk,_⟩,_⟩:=l1 e m'
  obtain⟨t,ht⟩:=rL hk
  exact⟨k,t,ht⟩
 obtain⟨ns,hI⟩:=FT (ks:=fun _=>True) hint
 have hlen:items.length=n:=by rw[pp.length_eq,aj,jZ,sz]
 refine wpAny_bind (wpAny_newList ?_)
 have gL:(h1.push (seqObj "list" items.toArray 0)).get? h1.objs.size=some (seqObj "list" items.toArray 0):=dX _ rfl
 refine wpAny_bind (wpAny_holding (wpAny_call_entry slot_list_sort ⟨_,gL,rfl⟩ entry_list_sort (list_sort_tree gL hI (by omega) fun out ns' a1 a2 a3=>⟨_,rfl,?_⟩) (args_list_sort _)))
 obtain⟨e,he⟩:=sortedHeap_at (out:=out) gL
 refine wpAny_pure ⟨_,rfl,h _ d1 yq h1.objs.size out.toList ns' e (fun b o q=>?_) k2 (by simpa using he) a1 a3 (fun k=>?_) ?_⟩
 ·have lb:=bw (k1 b o q)
  rw[sortedHeap_old (cG lb) (by rw[jW];exact oj lb)]
  exact bH _ (k1 b o q)
 ·rw[a2.mem_iff,Jl hI,l2 k]
  constructor
  ·rintro⟨e,m,q⟩
   obtain⟨t,ht⟩:=rL q
   exact⟨t,pp.mem_iff.mpr (ht▸aI.mpr ⟨e,m,rfl⟩)⟩
  ·rintro⟨t,m⟩
   obtain⟨e,m',q⟩:=aI.mp (pp.mem_iff.mp m)
   exact⟨e,m',by rw[q];exact intKind_is _ _ _ _⟩
 ·rw[a2.length_eq,<-hI.length,hlen]
end
end L2
set_option maxRecDepth 100000
set_option maxHeartbeats 4000000
namespace L2
open PySem PySem.Spec PyProof.Rows
def sJ(P:Program)(w:World)(a:Addr)(S:Int->Bool)(n:Nat):HO:= .ext fun h=>h.SetOf (IK P w) a S n/\gh (fc w) h a
theorem Inv.dr{X:Cx}{pins:List (Addr×Obj)}{σ:St}{H:Hp}{s:Shared}(I:Inv X pins σ H s)(d:Drawn):Inv X pins σ H {s with drawn:=d}:=
 ⟨I.ok,I.os,I.bare,I.base,I.loc,I.cell,I.free,I.i8,I.pin,I.hok,I.len⟩
theorem zB:∀{ns:List Int} {us:List Value},Vals (ns.map V.int) us->IntsAre us ns
  |[],_, .nil=> .nil
  | n :: ns, _, .cons r t => by
    obtain⟨k,rfl⟩:=r
    exact .cons n k (zB t)
theorem xA:∀{us:List Value} {ns:List Int},IntsAre us ns->Vals (ns.map V.int) us
 |_,_, .nil=> .nil
 |_,_, .cons k t h=> .cons ⟨t,rfl⟩ (xA h)
theorem UA{σ:List Int}{k:Int}(h:σ.Nodup):(step_dedup σ k).Nodup:=by
 unfold step_dedup
 split
 ·exact h
 ·rename_i q
  rw[qd]
  refine⟨h,by simp,fun x hx y hy=>?_⟩
  rw[aU.mp hy]
  intro e
  subst e
  exact q (by simp[hx])
theorem Ju(val:Nat->Int):∀i,(firstMet val i).Nodup
 |0=>List.nodup_nil
 |i+1=>by rw[firstMet_succ];exact UA (Ju val i)
theorem GR:∀{ds ns:List Int},ds.Nodup->(∀k∈ds,k∈ns)->ns.length<=ds.length->ds.Perm ns
  | [], ns, _, _, hl => by
    have:ns=[]:=oF.mp (by simpa using hl)
    rw[this]
  | d :: ds, ns, hd, hs, hl => by
    have hm:=hs d (ck ..)
    obtain⟨h1,h2⟩:=ic.mp hd
    have hp:=List.perm_cons_erase hm
    refine(List.Perm.cons d (GR h2 (fun k hk=>?_) ?_)).trans hp.symm
    · rcases aP.mp (hp.mem_iff.mp (hs k (bJ _ hk))) with e|e
      · subst e;exact absurd hk h1
      · exact e
    · have:=hp.length_eq;simp at this hl⊢;omega
def Ca(P:Program)(w:World)(K:PySem.W.Frag):List V->Hp->VK->Prop:=fun xs H Q=>∃p,∃ns:List Int,xs=[.ref p]/\aQ K H p (ns.map V.int)/\ns.length<=4000/\∀a (ms:List Int),H a=none->ms.Nodup->(∀k,k∈ms↔k∈ns)->Q (.ref a) (upd H a (sJ P w a (fun k=>ms.any (· ==k)) ms.length))
def C5(P:Program)(w:World):List V->Hp->VK->Prop:=fun xs H Q=>∃a,∃ms:List Int,xs=[.ref a]/\H a=some (sJ P w a (fun k=>ms.any (· ==k)) ms.length)/\ms.Nodup/\ms.length<64/\
 ∀l (rs:List Int),H l=none->rs.Pairwise (· < ·)->(∀k,k∈rs↔k∈ms)->Q (.ref l) (upd H l (.lst (rs.map V.int)))
section
variable{X:Cx}
theorem P9(hc:X.calm=true):eS X (.type "set") (Ca X.prog X.w X.K):=by
 intro pins s σ H xs us Q I rv h
 obtain⟨p,ns,rfl,hp,hn,q⟩:=h
 obtain⟨u,rfl,ru⟩:=vals1 rv
 cases ru
 obtain⟨its,rs,il,hz⟩:=I.list hp
 have hI:=zB rs
 have hlen:=hI.length
 refine Wu (I.ok.hd hc) il.isList (by simpa using hI) (by rw[cN];unfold scanBound;omega) fun h' tk q1 q2 q3=>?_
 have hmem:∀k,k∈firstMet (fun i=>ns.getD i 0) its.toArray.size↔k∈ns:=fun k=>by
  have e:=firstMet_any (fun i=>ns.getD i 0) its.toArray.size k
  have e2:(List.range its.toArray.size).map (fun i=>ns.getD i 0)=ns:=by
   rw[cN,hlen]
   apply rG
   ·simp
   ·intro i h1 h2
    simp[bU,aD h2]
  rw[e2] at e
  have a1:∀(l:List Int),(l.any (· ==k))=true↔k∈l:=fun l=>by
   rw[pX]
   exact⟨fun⟨x,m,z⟩=>(beq_iff_eq.mp z)▸m,fun m=>⟨k,m,beq_self_eq_true _⟩⟩
  rw[<-a1,<-a1,e]
 have kp:∀b u,s.heap.get? b=some u->h'.get? b=some u:=fun b u e=>q3 b u (bw e) e
 have new:bK X.prog X.w (upd H s.heap.objs.size (sJ X.prog X.w s.heap.objs.size (fun k=>(firstMet (fun i=>ns.getD i 0) its.toArray.size).any (· ==k)) (firstMet (fun i=>ns.getD i 0) its.toArray.size).length)) h' s.heap.objs.size (sJ X.prog X.w s.heap.objs.size (fun k=>(firstMet (fun i=>ns.getD i 0) its.toArray.size).any (· ==k)) (firstMet (fun i=>ns.getD i 0) its.toArray.size).length):=by
  refine⟨⟨q1,q2⟩,?_,fun h1 h2 z k=>?_⟩
  ·obtain⟨o,_,_,_,ho,_⟩:=q1;exact⟨o,ho⟩
  ·obtain⟨⟨o,es,ep,t,ho,r⟩,tt⟩:=z
   exact⟨⟨o,es,ep,t,k o ho,r⟩,tt.keep ho (k o ho)⟩
 exact⟨.ref s.heap.objs.size,_,I.laid (t':=tk) kp (aS _) new,rfl,q _ _ (I.hok.fresh (aS _)) (Ju _ _) hmem⟩
theorem Nh(hc:X.calm=true):eS X (.builtin "sorted") (C5 X.prog X.w):=by
 intro pins s σ H xs us Q I rv h
 obtain⟨a,ms,rfl,hH,nd,h64,q⟩:=h
 obtain⟨u,rfl,ru⟩:=vals1 rv
 cases ru
 obtain⟨⟨q1,q2⟩,_,_⟩:=I.hok a _ hH
 refine Ur (I.ok.hd hc) q1 q2 h64 fun h' d' tk' l out ns e kp hl gl hI pw hm hn=>?_
 have a1:∀k,(ms.any (· ==k))=true↔k∈ms:=fun k=>by
  rw[pX]
  exact⟨fun⟨x,m,z⟩=>(beq_iff_eq.mp z)▸m,fun m=>⟨k,m,beq_self_eq_true _⟩⟩
 have hm':∀k,k∈ns↔k∈ms:=fun k=>by rw[<-hm k,a1]
 have pp:=GR nd (fun k m=>(hm' k).mpr m) (nN hn)
 have WE:ns.Nodup:=pp.nodup_iff.mp nd
 have lt:ns.Pairwise (· < ·):=by
  have:=pw.and WE
  exact this.imp fun⟨x,y⟩=>by omega
 have new:bK X.prog X.w (upd H l (.lst (ns.map V.int))) h' l (.lst (ns.map V.int)):=by
  refine⟨?_,out,e,xA hI,gl⟩
  rw[aj,hn];exact dB (je h64) (by decide)
 exact⟨.ref l,_,(I.laid (t':=tk') kp hl new).dr d',rfl,q _ _ (I.hok.fresh hl) lt hm'⟩
end
theorem au.K8{G:Gx}{ρ:Rh}{te:TE}{P:Program}{w:World}{K:PySem.W.Frag}{Θ:Bool->List PyData->Prop}(h:Ev G ρ te fun _ x=>∃ns:List Int,x= .list (ns.map .int)/\ns.length<64/\∀rs:List Int,rs.Pairwise (· < ·)->(∀k,k∈rs↔k∈ns)->Θ true (rs.map .int)):
  au G ρ (fN (C5 P w) (bR (fN (Ca P w K) (bR te cy)) cy)) Θ:=fun nb σ H Q W z=>
 h nb σ H _ W fun f v H1 x ⟨ns,ex,hn,q⟩ s1 hv=>by
  subst ex
  obtain⟨a,xs,rfl,na,hx,hd⟩:=hv.cQ
  have e:=vP hd
  subst e
  refine⟨a,ns,rfl, .of hx,by omega,fun b ms hb nd hm=>?_⟩
  have hms:ms.length<=ns.length:=vQ nd fun k m=>(hm k).mp m
  refine⟨b,ms,rfl,aR,nd,by omega,fun l rs hl lt hm'=>?_⟩
  have s2:Step G.B H1 (upd H1 b (sJ P w b (fun k=>ms.any (· ==k)) ms.length)):= .same s1.2 (bQ hb)
  exact au.fin (f:=true) W (s1.trans s2) hl (wB rs) (q rs lt fun k=>(hm' k).trans (hm k)) z
theorem HZ{ms:List Int}{m:Int}(nd:ms.Nodup)(h:∀k∈ms,0<=k/\k<m):ms.length<=m.toNat:=by
 have:=vQ nd (l₂:=(List.range m.toNat).map fun(i:Nat)=>(i:Int)) fun k hk=>by
  have:=h k hk
  exact aI.mpr ⟨k.toNat,dI.mpr (by omega),by omega⟩
 rwa[aj,gG] at this
end L2
set_option maxRecDepth 100000
set_option maxHeartbeats 4000000
set_option maxRecDepth 100000
set_option maxHeartbeats 4000000
set_option maxRecDepth 100000
set_option maxHeartbeats 4000000
set_option maxRecDepth 100000
set_option maxHeartbeats 4000000
set_option maxRecDepth 100000
set_option maxHeartbeats 4000000
set_option maxRecDepth 100000
set_option maxHeartbeats 4000000
set_option maxRecDepth 100000
set_option maxHeartbeats 4000000
set_option maxRecDepth 100000
set_option maxHeartbeats 4000000
set_option maxRecDepth 100000
set_option maxHeartbeats 4000000
set_option maxRecDepth 100000
set_option maxHeartbeats 4000000
set_option maxRecDepth 100000
set_option maxHeartbeats 4000000
set_option maxRecDepth 100000
set_option maxHeartbeats 4000000
namespace L2
open PySem PySem.Spec PyProof.Rows
def EY:List V->Hp->VK->Prop:=fun xs H Q=>∃j:Int,xs=[.int j]/\∀a,H a=none->Q (.ref a) (upd H a (.mY 0 j))
def Ib:List V->Hp->VK->Prop:=fun xs H Q=>∃(a:Addr) (lo hi:Int),xs=[.ref a]/\H a=some (.mY lo hi)/\(-10000<=lo/\lo<=10000/\ -10000<=hi/\hi<=10000)/\∀l,H l=none->Q (.ref l) (upd H l (.lst (((List.range (hi-lo).toNat).map fun(i:Nat)=>lo+(i:Int)).map V.int)))
def De(K:PySem.W.Frag):List V->Hp->VK->Prop:=fun xs H Q=>∃p,∃ns:List Int,xs=[.ref p]/\aQ K H p (ns.map V.int)/\Q (.int ns.sum) H
def sP(K:PySem.W.Frag):List V->Hp->VK->Prop:=fun xs H Q=>∃p,∃bs:List Bool,xs=[.ref p]/\aQ K H p (bs.map V.bl)/\Q (.bl (bs.all id)) H
section
variable{X:Cx}
theorem Nq:eS X (.type "range") EY:=by
 intro pins s σ H xs us Q I rv h
 obtain⟨j,rfl,q⟩:=h
 obtain⟨u,rfl,ru⟩:=vals1 rv
 obtain⟨t,rfl⟩:=ru
 refine call_range_1 ?_
 exact⟨.ref s.heap.objs.size,_,I.laid (t':=s.toks+1+1) (o:= .mY 0 j) (fun b o e=>bH _ e) (aS _) ⟨_,_,_,dX _ rfl⟩,rfl,q _ (I.hok.fresh (aS _))⟩
theorem N4(hc:X.calm=true):eS X (.type "list") Ib:=by
  intro pins s σ H xs us Q I rv h
  obtain⟨a,lo,hi,rfl,hH,hb,q⟩:=h
  obtain⟨u,rfl,ru⟩:=vals1 rv
  cases ru
  obtain⟨t,u,v,e⟩:=(show bK X.prog X.w H s.heap a (.mY lo hi) from I.hok a _ hH)
  refine call_list_range (n:=(hi-lo).toNat) (I.ok.hd hc) (show IsRange s.heap a lo hi 1 t u v from e) (small_one (by omega) (by omega) (by omega) (by omega)) (rangeSize_nat lo hi) (by omega) fun h' tk acc c' kp hl hi'=>?_
  have vv:Vals (((List.range (hi-lo).toNat).map fun(i:Nat)=>lo+(i:Int)).map V.int) acc.toList:=by
    have key:∀(n:Nat) (l:List Value),l.length=n->∀b:Int,(∀(j:Nat) (v:Value),l[j]?=some v->∃t,v=Value.int (b+(j:Int)) t)->Vals (((List.range n).map fun(i:Nat)=>b+(i:Int)).map V.int) l:=by
      intro n
      induction n with
      |zero=>intro l hl b _;rw[oF.mp hl];exact .nil
      | succ n ih =>
        intro l hl b hv
        cases l with
        |nil=>cases hl
        | cons x r =>
          obtain⟨t,e⟩:=hv 0 x rfl
          rw[xH,bh,bh]
          refine .cons ⟨t,by simpa using e⟩ ?_
          have:=ih r (by simpa using hl) (b+1) (fun j v e=>by
            obtain⟨t,z⟩:=hv (j+1) v (by simpa using e)
            exact⟨t,by rw[z];congr 1;omega⟩)
          rw[fO] at this⊢
          rw[fO]
          have e:∀i:Nat,((V.int∘fun(i:Nat)=>b+(i:Int))∘Nat.succ) i=(V.int∘fun(i:Nat)=>b+1+(i:Int)) i:=fun i=>by
            show V.int (b+((i+1:Nat):Int))=V.int (b+1+(i:Int));congr 1;omega
          rw[mH fun i _=>e i]
          exact this
    refine key _ _ (by rw[jZ];exact hi'.1) lo fun j v e=>?_
    obtain⟨t,z⟩:=hi'.2 j v (by rw[<-oH];exact e)
    exact⟨t,by rw[z];congr 1;omega⟩
  refine⟨.ref s.heap.objs.size,_,I.laid (t':=tk) (o:= .lst (((List.range (hi-lo).toNat).map fun(i:Nat)=>lo+(i:Int)).map V.int)) kp (aS _) ⟨?_,acc.toList,c',vv,by simpa using hl⟩,rfl,q _ (I.hok.fresh (aS _))⟩
  rw[aj,aj,gG]
  exact dB (show(hi-lo).toNat<=20000 by omega) (by decide)
theorem VG(hc:X.calm=true):eS X (.builtin "sum") (De X.K):=by
 intro pins s σ H xs us Q I rv h
 obtain⟨p,ns,rfl,hp,q⟩:=h
 obtain⟨u,rfl,ru⟩:=vals1 rv
 cases ru
 obtain⟨its,rs,il,hz⟩:=I.list hp
 have hI:=zB rs
 obtain⟨ys,e⟩:=hI.allInts.items
 have hn:=hI.numsOf
 refine sum_intListG (xs:=ys) (I.ok.hd hc) (by rw[<-e];exact il.isList) fun h' tk t' kp=>?_
 have e2:preSum (numAt ys) ys.size=ns.sum:=by
  rw[preSum_eq,wz (by simp),<-nums_intItems,<-e,<-hn]
 rw[e2]
 exact⟨.int ns.sum,H,I.kept kp,⟨_,rfl⟩,q⟩
theorem AF(hc:X.calm=true):eS X (.builtin "all") (sP X.K):=by
  intro pins s σ H xs us Q I rv h
  obtain⟨p,bs,rfl,hp,q⟩:=h
  obtain⟨u,rfl,ru⟩:=vals1 rv
  cases ru
  obtain⟨its,rs,il,hz⟩:=I.list hp
  have hl:=rs.length
  have hv:∀(i:Nat) (v:Value),its.toArray[i]?=some v->v= .bool (bs.getD i false):=fun i v e=>by
    have hi:i<bs.length:=by
      have:=(qK.mp e).1
      rw[aj] at hl
      simp at this;omega
    obtain⟨u,hu,ru⟩:=rs.get (i:=i) (x:= .bl bs[i]) (by rw[bx,aD hi];rfl)
    rw[IW,hu] at e
    cases e
    rw[bU,aD hi]
    exact ru
  have ll:=il.isList
  have hlt:p<s.heap.objs.size:=by obtain⟨o,e,_⟩:=ll;exact bw e
  refine call_all_walk (wpAny_pyIter_list ll ⟨s.heap.objs.size,_,_,_,_,_,fun i=>bs.getD i false,rfl,Walks.list (A:=X.A.in1) (I.ok.hd hc) _ p (cG hlt) its.toArray,⟨⟨_,dX _ rfl,rfl,rfl⟩,ll.push _⟩,fun i v s Q E hP hQ=>?_,fun h' tk kp=>?_⟩)
  · rw[hv i v hP];exact wpAny_truthy_bool hQ
  · have e:(List.range its.toArray.size).all (fun i=>bs.getD i false)=bs.all id:=by
      have hs:its.toArray.size=bs.length:=by rw[aj] at hl;simp;omega
      rw[hs]
      clear hv hl rs q hp hs hz
      induction bs with
      |nil=>rfl
      | cons b r ih =>
        rw[fE,xH,mq,mq,zv]
        simpa[Function.comp_def] using congrArg (b && ·) ih
    rw[e]
    refine⟨.bl (bs.all id),H,I.kept fun b o q=>kp b o (fun m=>?_) (bH _ q),rfl,q⟩
    have:=aU.mp m
    rw[this] at q
    exact absurd (bw q) (iG _)
end
section
variable{G:Gx}{ρ:Rh}{te:TE}{K:PySem.W.Frag}{Φ:Pd}
theorem au.KU{Θ:Bool->List PyData->Prop}(h:Ev G ρ te fun _ x=>∃n:Int,x= .int n/\ -10000<=n/\n<=10000/\Θ true (((List.range n.toNat).map fun(i:Nat)=>(0:Int)+(i:Int)).map .int)):au G ρ (fN Ib (bR (fN EY (bR te cy)) cy)) Θ:=fun nb σ H Q W z=>
 h nb σ H _ W fun f v H1 x ⟨n,ex,h1,h2,q⟩ s1 hv=>by
  subst ex
  rw[hv.bZ]
  refine⟨n,rfl,fun a ha=>⟨a,0,n,rfl,aR,by omega,fun l hl=>?_⟩⟩
  rw[uA]
  exact au.fin (f:=true) W (s1.trans (.same s1.2 (bQ ha))) hl (wB _) q z
theorem Ev.sum(h:Ev G ρ te fun _ x=>∃ns:List Int,x= .list (ns.map .int)/\Φ true (.int ns.sum)):Ev G ρ (fN (De K) (bR te cy)) Φ:=fun nb σ H Q W z=>
 h nb σ H _ W fun f v H1 x ⟨ns,ex,q⟩ s1 hv=>by
  subst ex
  obtain⟨a,xs,rfl,na,hx,hd⟩:=hv.cQ
  have e:=vP hd
  subst e
  exact⟨a,ns,rfl, .of hx,z true _ H1 _ q s1 (.int _)⟩
theorem DG{nb:Addr->Prop}{H:Hp}:∀{is:List Bool} {xs:List V},af nb H (is.map PyData.bool) xs->xs=is.map V.bl
  |[],_,h=>by unfold List.map af at h;exact h
  | i :: is, _, h => by
    rw[bh] at h
    unfold af at h
    obtain⟨y,ys,rfl,h1,h2⟩:=h
    unfold ai at h1
    rw[bh,h1,DG h2]
theorem Ev.all(h:Ev G ρ te fun _ x=>∃bs:List Bool,x= .list (bs.map .bool)/\Φ true (.bool (bs.all id))):Ev G ρ (fN (sP K) (bR te cy)) Φ:=fun nb σ H Q W z=>
 h nb σ H _ W fun f v H1 x ⟨bs,ex,q⟩ s1 hv=>by
  subst ex
  obtain⟨a,xs,rfl,na,hx,hd⟩:=hv.cQ
  have e:=DG hd
  subst e
  exact⟨a,bs,rfl, .of hx,z true _ H1 _ q s1 (.bl _)⟩
end
end L2
set_option maxRecDepth 100000
set_option maxHeartbeats 4000000
namespace L2
open PySem PySem.Spec PyProof.Rows
def iB:PyData->String->Bool
 | .bool _,T=>T=="bool" ||T=="int"
 | .int _,T=>T=="int"
 | .str _,T=>T=="str"
 | .list _,T=>T=="list"
 | .tuple _,T=>T=="tuple"
 |_,_=>false
def zx:PyData->String
 | .none=> "NoneType" | .bool _=> "bool" | .int _=> "int" | .str _=> "str" | .list _=> "list" | .tuple _=> "tuple" | .dict _=> "dict"
theorem JZ(ds:List PyData):iB (.list ds) "list"=true/\iB (.list ds) "tuple"=false:=⟨rfl,rfl⟩
theorem JS(ds:List PyData):iB (.tuple ds) "list"=false/\iB (.tuple ds) "tuple"=true:=⟨rfl,rfl⟩
theorem Vm{K:PySem.W.Frag}{nb:Addr->Prop}{H:Hp}{d:PyData}{v:V}(h:ai nb H d v):g6 K H v (.type (zx d)):=by
 cases d<;>unfold ai at h
 ·subst h;exact .aE
 ·subst h;exact .bl _
 ·subst h;exact .int _
 ·subst h;exact .str _
 ·obtain⟨a,xs,rfl,_,e,_⟩:=h;exact .lst e
 ·obtain⟨a,xs,rfl,_,e,_⟩:=h;exact .tup e
 ·obtain⟨a,xs,rfl,_,e,_⟩:=h;exact e.elim .dK fun⟨_,e⟩=> .E8 e
def o9(T:String):Prop:=T="int" \/T="bool" \/T="list" \/T="tuple" \/T="str"
theorem Gh{K:PySem.W.Frag}{d:PyData}{T:String}(hT:o9 T):PySem.W.kitOne K (.type (zx d)) (.type T)=some (iB d T):=by
 rcases hT with rfl|rfl|rfl|rfl|rfl<;>cases d<;>(with_unfolding_all rfl)
theorem Hy{K:PySem.W.Frag}{d:PyData}:∀{Ts:List String},(∀T∈Ts,o9 T)->PySem.W.kitAny K (.type (zx d)) (Ts.map Value.type)=some (Ts.any (iB d))
  |[],_=>rfl
  | T :: r, h => by
    rw[bh]
    unfold PySem.W.kitAny
    rw[Gh (h T (ck ..)),k9]
    cases iB d T with
    |true=>rfl
    |false=>exact Hy fun T m=>h T (bJ _ m)
def wO:List V->Hp->VK->Prop:=fun xs H Q=>∃(x:V) (tp:Addr) (Ts:List String) (nb:Addr->Prop) (d:PyData),xs=[x, .ref tp]/\H tp=some (.tup (Ts.map V.ty))/\ai nb H d x/\(∀T∈Ts,o9 T)/\Q (.bl (Ts.any (iB d))) H
theorem Gi:∀{Ts:List String} {us:List Value},Vals (Ts.map V.ty) us->us=Ts.map Value.type
 |[],_, .nil=>rfl
 |T::r,_, .cons h t=>by rw[bh,Gi t,show _=Value.type T from h]
section
variable{X:Cx}
theorem JT:eS X (.builtin "isinstance") wO:=by
 intro pins s σ H xs us Q I rv h
 obtain⟨x,tp,Ts,nb,d,rfl,ht,hd,h5,q⟩:=h
 obtain⟨u,v,rfl,ru,rv⟩:=rv.two
 cases (show v=Value.ref tp from rv)
 obtain⟨_,its,vt,o,ho,hc,n,hdat⟩:=(show bK X.prog X.w H s.heap tp (.tup (Ts.map V.ty)) from I.hok tp _ ht)
 have e:=Gi vt
 subst e
 obtain⟨c0,d0,dt,sl⟩:=o
 dsimp only at hc hdat
 subst hc hdat
 have fin:∀tk,EP X pins σ Q (.bool (Ts.any (iB d))) {s with toks:=tk}:=fun tk=>⟨.bl _,H,I.tok tk,rfl,q⟩
 have ka:=Hy (K:=X.K) (d:=d) h5
 cases d<;>unfold ai at hd
 ·subst hd;cases (show u=Value.none from ru);exact nR PySem.W.kitx_none I.cK True.intro ho ka (fun z=>nomatch z) fin
 ·subst hd;cases (show u=Value.bool _ from ru);exact nR PySem.W.kitx_bool I.cK True.intro ho ka (fun z=>nomatch z) fin
 ·subst hd;obtain⟨t,rfl⟩:=(show∃t,u=Value.int _ t from ru);exact nR PySem.W.kitx_int I.cK True.intro ho ka (fun z=>nomatch z) fin
 ·subst hd;obtain⟨t,rfl⟩:=(show∃t,u=Value.str _ t from ru);exact nR PySem.W.kitx_str I.cK True.intro ho ka (fun z=>nomatch z) fin
 ·obtain⟨a,ys,rfl,_,ea,_⟩:=hd
  cases (show u=Value.ref a from ru)
  obtain⟨_,_,n,_,h1⟩:=(show bK X.prog X.w H s.heap a (.lst ys) from I.hok a _ ea)
  exact nR BG I.cK ⟨_,h1,rfl⟩ ho ka (fun z=>nomatch z) fin
 ·obtain⟨a,ys,rfl,_,ea,_⟩:=hd
  cases (show u=Value.ref a from ru)
  obtain⟨_,_,_,o',h1,h2,_⟩:=(show bK X.prog X.w H s.heap a (.tup ys) from I.hok a _ ea)
  exact nR PySem.W.kitx_tuple I.cK ⟨o',h1,h2⟩ ho ka (fun z=>nomatch z) fin
 ·obtain⟨a,ys,rfl,_,ea,_⟩:=hd
  cases (show u=Value.ref a from ru)
  obtain⟨_,_,vs,_,dd⟩:=(show bK X.prog X.w H s.heap a (.dK ys) from ea.ok I.hok)
  exact nR u5 I.cK dd.typeIs ho ka (fun z=>nomatch z) fin
end
section
variable{G:Gx}{ρ:Rh}{ta tb te:TE}{K:PySem.W.Frag}{Φ:Pd}{T U:String}
theorem Ev.Lh(hT:o9 T)(h:Ev G ρ te fun _ x=>Φ true (.bool (iB x T))):Ev G ρ (fN (gE K) (bR te (bR (tC (.ty T)) cy))) Φ:=fun nb σ H Q W z=>
 h nb σ H _ W fun f v H1 d q s1 hv=>⟨v,T,_,_,rfl,Vm hv,Gh hT,z true _ H1 _ q s1 (.bl _)⟩
theorem Ev.QK(hT:o9 T)(hU:o9 U)(h:Ev G ρ te fun _ x=>Φ true (.bool (iB x T||iB x U))):Ev G ρ (fN wO (bR te (bR (qG (bR (tC (.ty T)) (bR (tC (.ty U)) cy))) cy))) Φ:=fun nb σ H Q W z=>
 h nb σ H _ W fun f v H1 d q s1 hv=>by
  refine⟨by show 2<=sizeLine;decide,fun p hp=>⟨v,p,[T,U],G.S nb f,d,rfl,aR,hv.keep (bq.of (bQ hp)),fun S m=>?_,?_⟩⟩
  ·rcases aP.mp m with e|m
   ·rw[e];exact hT
   ·rw[aU.mp m];exact hU
  ·rw[k9,k9,List.any_nil,nD]
   exact z true _ _ _ q (s1.trans (.same s1.2 (bQ hp))) (.bl _)
theorem Ev.Uv(h:Ev G ρ te fun _ x=>∃ds,(x= .list ds\/x= .tuple ds)/\Φ true (.int ds.length)):Ev G ρ (fN (iV K) (bR te cy)) Φ:=fun nb σ H Q W z=>
 h nb σ H _ W fun f v H1 d ⟨ds,e,q⟩ s1 hv=>by
  rcases e with e|e
  ·subst e
   obtain⟨a,xs,rfl,n,hx,hd⟩:=hv.cQ
   exact⟨a,xs,rfl, .inl (.of hx),by rw[hd.length];exact z true _ H1 _ q s1 (.int _)⟩
  ·subst e
   obtain⟨a,xs,rfl,n,hx,hd⟩:=hv.ofT
   exact⟨a,xs,rfl, .inr (.of hx),by rw[hd.length];exact z true _ H1 _ q s1 (.int _)⟩
theorem Ev.BI(h:Ev G ρ ta fun f x=>∃ds,(x= .list ds\/x= .tuple ds)/\Ev G ρ tb fun _ y=>∃k,y= .int k/\∃e,bL ds k=some e/\Φ f e):Ev G ρ (cZ (tX K) ta tb) Φ:=
 Ev.iP (h.mono fun f x ⟨ds,ex,q⟩=>q.mono fun g y ⟨k,ey,e,he,p⟩ nb σ H u v Q W hu hv z=>by
  subst ey
  rcases ex with ex|ex
  ·subst ex
   obtain⟨a,xs,rfl,n,hx,hd⟩:=hu.cQ
   obtain⟨w,hw,hD⟩:=hd.bL he
   exact .inl ⟨a,xs,k,w,rfl,hv.bZ, .of hx,hw,z f _ H _ p (.refl W.ay) hD⟩
  ·subst ex
   obtain⟨a,xs,rfl,n,hx,hd⟩:=hu.ofT
   obtain⟨w,hw,hD⟩:=hd.bL he
   exact .inr (.inl ⟨a,xs,k,w,rfl,hv.bZ, .of hx,hw,z f _ H _ p (.refl W.ay) hD⟩))
end
theorem Callee.void{P:Program}{w:World}{K:PySem.W.Frag}{mg:Str->Option Value}{base:Heap}{x:Str}{st:Stmt}{k:Nat}{ps:List Str}{sp:Sp}{f:Addr}{fd:FuncData}(F:bP K x x st f fd)(b:Binds K fd ps [])(m:mg x=some (.ref f))(hv:∀vs H Q E,¬sp vs H Q E):Callee P w K mg base x k ps sp:=
 ⟨f,fd,⟨fun vs H Q E h=>(hv vs H Q E h).elim,fun A outer s H args us vs Q E _ _ _ _ h=>(hv vs H Q E h).elim⟩,b,F.kp,m⟩
end L2
set_option maxRecDepth 100000
set_option maxHeartbeats 4000000
namespace L2
open PySem PySem.Spec PyProof.Rows
section
variable{G:Gx}{ρ bA:Rh}{te:TE}{gt:TG}{n i:Nat}{it:Nat->PyData->Prop}{fi:Bool}{Θ:Bool->List PyData->Prop}{E:DE}
theorem nY(os:List Int):dJ (os.map PyData.int)=true:=by
 unfold dJ
 rw[jz]
 intro x hx
 obtain⟨y,_,rfl⟩:=aI.mp hx
 rfl
theorem dZ.ints(P:Int->Prop)(ht:∀i d,it i d->Gv G bA gt fi d fun fY=>Wk bA fY/\Ev G fY te fun _ e=>∃r:Int,e= .int r/\P r)(h:∀os:List Int,os.length=n->(∀x∈os,P x)->Θ true (os.map .int)):dZ G bA n it fi gt rK te Θ:=by
 refine⟨false,fun i ds=>ds.length=i/\∃os:List Int,ds=os.map .int/\∀x∈os,P x,⟨rfl,[],rfl,fun _ h=>nomatch h⟩,?_,?_⟩
 ·rintro i d ds hd hl ⟨hl2,os,rfl,ho⟩
  refine fun nb σ H v Q W hv z=>ht i d hd nb σ H v Q W hv fun σ' ρ' ⟨w,q⟩ W'=>z σ' ρ' ⟨w,Tv.qN (tw (q.mono fun f e ⟨r,ee,hr⟩=>⟨fun z=>(by cases z),?_,os++[r],?_,fun x hx=>?_⟩))⟩ W'
  ·rw[fF,lB,hl2]
  ·rw[ee];simp
  ·rcases ez.mp hx with h|h
   ·exact ho x h
   ·rw[aU.mp h];exact hr
 ·rintro ds hl ⟨hl2,os,rfl,ho⟩
  rw[nY,Dk]
  exact h os (by rw[aj] at hl2;exact hl2) ho
theorem dZ.rel{α:Type}(φ:α->PyData)(fl:Bool)(P:Nat->α->Prop)(ht:∀i d,it i d->Gv G bA gt fi d fun fY=>Wk bA fY/\Ev G fY te fun f e=>(fl=true->f=true)/\∃r:α,e=φ r/\P i r)
  (h:∀os:List α,os.length=n->(∀(i:Nat) x,os[i]?=some x->P i x)->Θ (fl||dJ (os.map φ)) (os.map φ)):dZ G bA n it fi gt rK te Θ:=by
 refine⟨fl,fun i ds=>ds.length=i/\∃os:List α,ds=os.map φ/\∀(i:Nat) x,os[i]?=some x->P i x,⟨rfl,[],rfl,fun j x e=>by simp at e⟩,?_,?_⟩
 ·rintro i d ds hd hl ⟨hl2,os,rfl,ho⟩
  refine fun nb σ H v Q W hv z=>ht i d hd nb σ H v Q W hv fun σ' ρ' ⟨w,q⟩ W'=>z σ' ρ' ⟨w,Tv.qN (tw (q.mono fun f e ⟨hf,r,ee,hr⟩=>⟨hf,?_,os++[r],?_,fun j x hj=>?_⟩))⟩ W'
  ·rw[fF,lB,hl2]
  ·rw[ee];simp
  ·rw[aj] at hl2
   rcases wX j os.length with h|h|h
   ·exact ho j x (by rwa[fT h] at hj)
   ·subst h
    simp at hj
    subst hj
    rw[hl2];exact hr
   ·rw[eO (by rw[fF,lB];omega)] at hj
    cases hj
 ·rintro ds hl ⟨hl2,os,rfl,ho⟩
  exact h os (by rw[aj] at hl2;exact hl2) ho
theorem Sv.Ho(h:∀a,E.nx (ρ.set i (.own a true []))):Sv G ρ (i6 (nU cy) (ir i)) E:=Sv.rX (au.lst (Av.nil ⟨by decide,fun a=>h a⟩))
end
def Sq:R2:=fun x y H Q=>∃a b:Bool,x= .bl a/\y= .bl b/\Q (.bl (a==b)) H
theorem Ev.Xm{G:Gx}{ρ:Rh}{ta:TE}{b:Bool}{Φ:Pd}(h:Ev G ρ ta fun _ x=>∃a,x= .bool a/\Φ true (.bool (a==b))):Ev G ρ (cZ Sq ta (tC (.bl b))) Φ:=fun nb σ H Q W z=>
 h nb σ H _ W fun f v H1 d ⟨a,e,q⟩ s1 hv=>by
  subst e
  unfold ai at hv
  subst hv
  exact⟨a,b,rfl,rfl,z true _ H1 _ q s1 (.bl _)⟩
theorem lA{X:Cx}{K:PySem.W.Frag}{a:Expr}{ta:TE}(hK:X.K=K)(ha:PE X a ta)(he:∀whole,isTrue a X.env whole=(do let v<-whole;standAt a.pos;holding [v] (truthy v))):PT X a (JF K ta):=by
 subst hK
 exact O2 ha he
theorem kM{X:Cx}{K:PySem.W.Frag}{es:List Expr}{k:Nat}{t:gU}{n:Nat}{pos:Pos}(hK:X.K=K)(hc:X.calm=true)(h:qU X es t)(hn:(assignEach es X.env).length=n:=by rfl)(hst:(assignEach es X.env).findIdx? (·.1)=none:=by rfl):PG X (.Tuple es k pos) (vI K n t):=by
 subst hK
 exact Je hc h hn hst
theorem HX{α β:Type}{os:List β}{xs:List α}{φ:α->β}(hl:os.length=xs.length)(h:∀(i:Nat) o,os[i]?=some o->∃x,xs[i]?=some x/\o=φ x):os=xs.map φ:=by
 apply iy
 intro i
 by_cases hi:i<os.length
 ·obtain⟨x,hx,e⟩:=h i _ (aD hi)
  rw[aD hi,bx,hx,e];rfl
 ·rw[eO (by omega),bx,eO (by omega)];rfl
theorem S1(ds:List PyData):PyData.eqv (.list ds) (.list [])=ds.isEmpty:=by cases ds<;>simp[PyData.eqv,PyData.eqvAll]
theorem Sv.qY{G:Gx}{ρ:Rh}{s:TS}{E:DE}(I:Rh->Prop)(h:Sv G ρ s {E with nx:=I})(hI:∀ρ',I ρ'->E.nx ρ'):Sv G ρ s E:=fun nb σ H D W K=>h nb σ H D W ⟨fun nb ρ σ H q W=>K.nx nb ρ σ H (hI ρ q) W,K.bk,K.ct,K.rt,K.rw⟩
theorem Ev.WK{G:Gx}{ρ:Rh}{tb:TE}{K:PySem.W.Frag}{Φ:Pd}(h:Ev G ρ tb fun _ y=>∃wd:Wo,y=l7 wd/\Φ true (.bool (decide (none∈wd)))):Ev G ρ (cZ (vF K false) (tC .aE) tb) Φ:=fun nb σ H Q W z=>
 h nb σ H _ W fun f v H1 d ⟨wd,e,q⟩ s1 hv=>by
  subst e
  obtain⟨a,xs,rfl,na,hx,hd⟩:=hv.cQ
  have ex:=CP hd
  subst ex
  refine⟨a,wd.map oU,rfl, .inl (.of hx),rfl,?_,?_⟩
  ·rw[jz]
   intro x hx
   obtain⟨o,_,rfl⟩:=aI.mp hx
   cases o<;>rfl
  ·have e:mw V.aE (wd.map oU)=decide (none∈wd):=by
    unfold mw
    rw[List.any_map,iW,pX,decide_eq_true_eq]
    constructor
    ·rintro⟨o,m,h⟩
     cases o with
     |none=>exact m
     |some x=>cases h
    ·intro m
     exact⟨none,m,rfl⟩
   show Q (.bl (if false=true then _ else _)) H1
   rw[if_neg bV,e]
   exact z true _ H1 _ q s1 (.bl _)
def FG(p:Int):Prop:=2<=p/\p<=10^60
def l5(p:Int)(cs:List aN)(wd:Wo):Prop:=none∉wd/\∀prs∈cs,aL prs wd%p=0
instance{p:Int}{cs:List aN}{wd:Wo}:Decidable (l5 p cs wd):=by unfold l5;infer_instance
theorem pick{L:List Int}{k:Int}(h0:0<=k)(h1:k<L.length)(P:Int->Prop)(hP:∀x∈L,P x):∃x,bL (L.map PyData.int) k=some (.int x)/\P x:=by
 have hL:k.toNat<L.length:=by omega
 exact⟨L[k.toNat],gK h0 (by rw[bx,aD hL];rfl),hP _ (cV hL)⟩
end L2
set_option maxRecDepth 100000
set_option maxHeartbeats 4000000
namespace L2
open PySem PySem.Spec PyProof.Rows
theorem GN{α:Type}{xs:List α}{k:Int}(h0:0<=k)(h1:k<=xs.length):gQ xs none (some k)=xs.take k.toNat:=by
 unfold gQ HT.dO
 simp only[uC,yQ]
 congr 1
 first|omega|(split<;>omega)
theorem DS(a b:aN)(wd:Wo):aL (a++b) wd=aL a wd+aL b wd:=by
 unfold aL;rw[cS,uB]
theorem uI(a:Int×Int)(b:aN)(wd:Wo):aL (a::b) wd=jE wd a+aL b wd:=by
 unfold aL;rw[bh,nM]
end L2
set_option maxRecDepth 100000
set_option maxHeartbeats 4000000
namespace L2
open PySem PySem.Spec PyProof.Rows
theorem Ia:∀xs ys:List Int,PyData.eqvAll (xs.map PyData.int) (ys.map PyData.int)=decide (xs=ys)
  |[],[]=>by simp[PyData.eqvAll]
  |[],y::ys=>by simp[PyData.eqvAll]
  |x::xs,[]=>by simp[PyData.eqvAll]
  | x :: xs, y :: ys => by
    simp only[bh,PyData.eqvAll,Ia xs ys]
    have:PyData.eqv (.int x) (.int y)=decide (x=y):=by rw[iW];simp[PyData.eqv]
    rw[this,iW]
    simp
theorem Lm(xs ys:List Int):PyData.eqv (.list (xs.map .int)) (.list (ys.map .int))=decide (xs=ys):=by
 simp only[PyData.eqv]
 exact Ia xs ys
theorem shaped_ints(xs:List Int):SeqAt.shaped (.list (xs.map .int))=true:=by
 have h:=uq (xs.map some)
 have e:(xs.map some).map gY=xs.map PyData.int:=by rw[fO];rfl
 rw[e] at h
 unfold SeqAt.shaped
 simp[PyData.canLay0,PyData.depth,h.1,h.2]
def gD(p:Int)(xs:List Int)(a:Int)(ys:List Int)(b:Int):List Int:=List.zipWith (fun x y=>(a*x+b*y)%p) xs ys
theorem pY{w:List Int}{pr:Int×Int}{x:Int}(h:w[pr.1.toNat]?=some x):jE (w.map some) pr=pr.2*x:=by
 unfold jE
 rw[bx,h];rfl
theorem GZ{p a b:Int}{xs ys:List Int}(hl:xs.length=ys.length):∀{prs:aN},(∀pr∈prs,0<=pr.1/\pr.1<xs.length)->
    aL prs ((gD p xs a ys b).map some)%p=(a*(aL prs (xs.map some)%p)+b*(aL prs (ys.map some)%p))%p
  |[],_=>by simp[aL]
  | pr :: prs, h => by
    have ih:=GZ (p:=p) (a:=a) (b:=b) hl (prs:=prs) fun q hq=>h q (bJ _ hq)
    obtain⟨h0,h1⟩:=h pr (ck ..)
    have k1:pr.1.toNat<xs.length:=by omega
    have k2:pr.1.toNat<ys.length:=by omega
    have e1:=pY (w:=xs) (aD k1)
    have e2:=pY (w:=ys) (aD k2)
    have e3:jE ((gD p xs a ys b).map some) pr=pr.2*((a*xs[pr.1.toNat]+b*ys[pr.1.toNat])%p):=by
      refine pY ?_
      unfold gD
      rw[lD,aD k1,aD k2]
    rw[uI,uI,uI,e1,e2,e3]
    generalize xs[pr.1.toNat]=x
    generalize ys[pr.1.toNat]=y
    generalize aL prs ((gD p xs a ys b).map some)=M at*
    generalize aL prs (xs.map some)=A at*
    generalize aL prs (ys.map some)=B at*
    have m1:=j6 M p
    have m2:=j6 (a*(A%p)+b*(B%p)) p
    have m3:=j6 A p
    have m4:=j6 B p
    have m5:=j6 (a*x+b*y) p
    have m6:=j6 (pr.2*x+A) p
    have m7:=j6 (pr.2*y+B) p
    generalize pr.2=f at*
    generalize M/p=q1 at*
    generalize (a*(A%p)+b*(B%p))/p=q2 at*
    generalize A/p=q3 at*
    generalize B/p=q4 at*
    generalize (a*x+b*y)/p=q5 at*
    generalize (f*x+A)/p=q6 at*
    generalize (f*y+B)/p=q7 at*
    generalize (a*x+b*y)%p=r5 at*
    generalize (f*x+A)%p=r6 at*
    generalize (f*y+B)%p=r7 at*
    generalize A%p=r3 at*
    generalize B%p=r4 at*
    have key:f*r5+M=a*r6+b*r7+p*(a*q6+b*q7-f*q5+q1-q2-a*q3-b*q4):=by
      have e5:r5=a*x+b*y-p*q5:=by omega
      have e6:r6=f*x+A-p*q6:=by omega
      have e7:r7=f*y+B-p*q7:=by omega
      have eM:M=a*r3+b*r4-p*q2+p*q1:=by omega
      have eA:A=p*q3+r3:=by omega
      have eB:B=p*q4+r4:=by omega
      rw[e5,e6,e7,eM,eA,eB]
      grind
    rw[key,B8]
theorem Cf{p a b:Int}{xs ys:List Int}(h:xs.length=ys.length):(gD p xs a ys b).length=xs.length:=by
 unfold gD;rw[rR];omega
theorem Ge{p a b:Int}{xs ys:List Int}(hp:0<p):∀x∈gD p xs a ys b,0<=x/\x<p:=by
  intro x hx
  obtain⟨k,hk⟩:=iO hx
  unfold gD at hk
  rw[lD] at hk
  cases e1:xs[k]? with
  |none=>rw[e1] at hk;cases hk
  | some u =>
    cases e2:ys[k]? with
    |none=>rw[e1,e2] at hk;cases hk
    | some v =>
      rw[e1,e2] at hk
      cases hk
      exact⟨fP _ (by omega),fZ _ hp⟩
end L2
set_option maxRecDepth 100000
set_option maxHeartbeats 4000000
namespace L2
open PySem PySem.Spec PyProof.Rows
def ED(K:PySem.W.Frag)(te:TE)(ts:TO):TE:=fun σ H Q=>te σ H fun x H1=>ts σ H1 fun k H2=>k=some (-1)/\∃a xs,x= .ref a/\aQ K H2 a xs/\∀p,H2 p=none->Q (.ref p) (upd H2 p (.lst xs.reverse))
theorem af.rev{nb:Addr->Prop}{H:Hp}:∀{ds:List PyData} {xs:List V},af nb H ds xs->af nb H ds.reverse xs.reverse
  |[],xs,h=>by unfold af at h;subst h;exact .nil
  | d :: ds, xs, h => by
    unfold af at h
    obtain⟨y,ys,e,h1,h2⟩:=h
    subst e
    rw[List.reverse_cons,List.reverse_cons]
    exact af.append (af.rev h2) (.cons h1 .nil)
section
variable{G:Gx}{ρ:Rh}{Φ:Pd}{ta tb te:TE}{K:PySem.W.Frag}
theorem au.rev{ts:TO}{Θ:Bool->List PyData->Prop}(h:Ev G ρ te fun f x=>∃ds,x= .list ds/\Ov G ρ ts fun o=>o=some (-1)/\Θ (f||dJ ds.reverse) ds.reverse):au G ρ (ED K te ts) Θ:=fun nb σ H Q W z=>
 h nb σ H _ W fun f v H1 d ⟨ds,e,q⟩ s1 hv=>q nb σ H1 _ (W.step s1) fun o H2 ⟨eo,q2⟩ s2=>by
  subst e
  obtain⟨a,xs,rfl,n,hx,hd⟩:=(hv.keep s2.cR).cQ
  exact⟨eo,a,xs,rfl, .of hx,fun p hp=>au.fin W (s1.trans s2) hp hd.rev q2 z⟩
theorem Ev.rev{ts:TO}(h:Ev G ρ te fun f x=>∃ds,x= .list ds/\Ov G ρ ts fun o=>o=some (-1)/\Φ (f||dJ ds.reverse) (.list ds.reverse)):Ev G ρ (ED K te ts) Φ:=(au.rev (Θ:=fun f ds=>Φ f (.list ds)) h).ev
theorem IM{X:Cx}{K:PySem.W.Frag}(hK:X.K=K):cU X (compareOp .In) (vF K false):=by subst hK;exact RW
theorem Ev.E4{ng:Bool}(h:Ev G ρ ta fun _ x=>∃k:Int,x= .int k/\Ev G ρ tb fun _ y=>∃ns:List Int,y= .list (ns.map .int)/\Φ true (.bool (decide (k∈ns) !=ng))):Ev G ρ (cZ (vF K ng) ta tb) Φ:=fun nb σ H Q W z=>
 h nb σ H _ W fun f v H1 d ⟨k,e,q⟩ s1 hv=>q nb σ H1 _ (W.step s1) fun g u H2 d2 ⟨ns,e2,p⟩ s2 hu=>by
  subst e e2
  have hk:=hv.bZ
  subst hk
  obtain⟨a,xs,rfl,na,hx,hd⟩:=hu.cQ
  have ex:=vP hd
  subst ex
  refine⟨a,ns.map V.int,rfl, .inl (.of hx),rfl,?_,?_⟩
  ·rw[jz]
   intro x hx
   obtain⟨o,_,rfl⟩:=aI.mp hx
   rfl
  ·have e:mw (V.int k) (ns.map V.int)=decide (k∈ns):=by
    unfold mw
    rw[List.any_map,iW,pX,decide_eq_true_eq]
    constructor
    ·rintro⟨o,m,h⟩
     have:o=k:=eq_of_beq h
     exact this▸m
    ·intro m
     exact⟨k,m,beq_self_eq_true k⟩
   have e2:(if ng=true then !mw (V.int k) (ns.map V.int) else mw (V.int k) (ns.map V.int))=(decide (k∈ns) !=ng):=by
    rw[e]
    cases ng<;>simp
   rw[e2]
   exact z true _ H2 _ p (s1.trans s2) (.bl _)
end
end L2
set_option maxRecDepth 100000
set_option maxHeartbeats 1000000
namespace PC
def aG(n:Nat):Prop:=2<=n/\∀d,d∣n->d=1\/d=n
def tr(q:Nat):Nat->Nat->Bool
 |0,_=>false
 |f+1,d=>if q<d*d then true else if q%d=0 then false else tr q f (d+1)
theorem GP{q:Nat}:∀{f d:Nat},tr q f d=true->∀e,d<=e->e*e<=q->q%e≠0
  |0,_,h=>by simp[tr] at h
  | f + 1, d, h => by
    intro e hde hee
    unfold tr at h
    by_cases h1:q<d*d
    · have:=Nat.mul_le_mul hde hde
      omega
    · rw[if_neg h1] at h
      by_cases h2:q%d=0
      · rw[if_pos h2] at h;cases h
      · rw[if_neg h2] at h
        by_cases h3:d=e
        · rw[<-h3];exact h2
        · exact GP h e (by omega) hee
theorem FP{q:Nat}(h2:2<=q)(h:∀e,2<=e->e*e<=q->q%e≠0):aG q:=by
 refine⟨h2,fun d hd=>?_⟩
 obtain⟨e,he⟩:=hd
 by_cases d1:d=1
 ·exact .inl d1
 by_cases e1:e=1
 ·right;rw[he,e1,tQ]
 exfalso
 have d0:d≠0:=fun z=>by rw[z,tP] at he;omega
 have e0:e≠0:=fun z=>by rw[z,Nat.mul_zero] at he;omega
 by_cases hle:d<=e
 ·refine h d (by omega) (by rw[he];exact Nat.mul_le_mul_left d hle) ?_
  rw[he];exact Nat.mul_mod_right d e
 ·refine h e (by omega) (by rw[he];exact Nat.mul_le_mul_right e (by omega)) ?_
  rw[he];exact Nat.mul_mod_left d e
theorem bT(f:Nat){q:Nat}(h2:2<=q)(h:tr q f 2=true):aG q:=FP h2 (GP h)
def pw(N:Nat):Nat->Nat->Nat->Nat->Nat
 |0,_,_,acc=>acc
 |f+1,e,g,acc=>pw N f (e/2) (g*g%N) (if e%2=1 then acc*g%N else acc)
theorem Jv{N:Nat}:∀(f e g acc:Nat),e<2^f->pw N f e g acc%N=acc*g^e%N
  | 0, e, g, acc, h => by
    have:e=0:=by simp at h;exact h
    subst this
    simp[pw]
  | f + 1, e, g, acc, h => by
    have h2:e/2<2^f:=by rw[ye] at h;omega
    unfold pw
    rw[Jv f _ _ _ h2]
    have e2:g^e=(g*g)^(e/2)*g^(e%2):=by
      conv=>lhs;rw[<-zP e 2]
      rw[tM,Nat.pow_mul,Nat.pow_two]
    have m1:(g*g%N)^(e/2)%N=(g*g)^(e/2)%N:=(Nat.pow_mod _ _ _).symm
    rw[e2]
    by_cases ho:e%2=1
    · rw[if_pos ho,ho,Nat.pow_one,lC,m1,Dz,<-lC]
      congr 1
      rw[oW,mj g]
    · have ho':e%2=0:=by omega
      rw[if_neg ho,ho',Bk,tQ,lC,m1,<-lC]
theorem VS{P:Nat->Prop}:∀n,P n->∃m,P m/\∀k,k<m->¬P k:=by
  intro n
  induction n using Nat.strongRecOn with
  | _ n ih =>
    intro h
    by_cases hk:∃k,k<n/\P k
    · obtain⟨k,hk1,hk2⟩:=hk
      exact ih k hk1 hk2
    · exact⟨n,h,fun k hk1 hk2=>hk ⟨k,hk1,hk2⟩⟩
theorem D0:∀(n:Nat) (f:Nat->Nat),(∀i,i<n+1->f i<n)->∃i j,i<j/\j<n+1/\f i=f j
  |0,f,h=>absurd (h 0 (by omega)) (by omega)
  | n + 1, f, h => by
    by_cases he:∃i,i<n+1/\f i=f (n+1)
    · obtain⟨i,h1,h2⟩:=he
      exact⟨i,n+1,h1,by omega,h2⟩
    · have hne:∀i,i<n+1->f i≠f (n+1):=fun i hi e=>he ⟨i,hi,e⟩
      have Yh:=h (n+1) (by omega)
      obtain⟨i,j,h1,h2,h3⟩:=D0 n (fun i=>if f i=n then f (n+1) else f i) (fun i hi=>by
        have g1:=h i (by omega)
        have g2:=hne i hi
        by_cases c:f i=n
        · simp only[c,if_true]
          have:f (n+1)≠n:=fun z=>g2 (c.trans z.symm)
          omega
        · simp only[c,if_false]
          omega)
      refine⟨i,j,h1,by omega,?_⟩
      have gi:=hne i (by omega)
      have gj:=hne j (by omega)
      by_cases ci:f i=n
      · by_cases cj:f j=n
        · rw[ci,cj]
        · simp only[ci,cj,if_true,if_false] at h3
          exact absurd h3.symm gj
      · by_cases cj:f j=n
        · simp only[ci,cj,if_true,if_false] at h3
          exact absurd h3 gi
        · simpa only[ci,cj,if_false] using h3
def jH:List (Nat×Nat)->Nat
 |[]=>1
 |qe::r=>Nat.lcm (qe.1^qe.2) (jH r)
theorem G7{o:Nat}:∀{fs:List (Nat×Nat)},(∀qe∈fs,qe.1^qe.2∣o)->jH fs∣o
 |[],_=>⟨o,by simp[jH]⟩
 |qe::r,h=>Nat.lcm_dvd (h qe ck) (G7 fun x hx=>h x (bJ _ hx))
theorem Qj{q m:Nat}(hq:aG q)(h:¬q∣m):Nat.Coprime q m:=by
 rcases hq.2 _ (Nat.gcd_dvd_left q m) with e|e
 ·exact e
 ·exact absurd (e▸Nat.gcd_dvd_right q m) h
theorem UE{q m:Nat}(h:Nat.Coprime q m)(e:Nat):Nat.Coprime (q^e) m:=Nat.Coprime.pow_left e h
theorem Mn(a b c d:Nat):(a%d)*(b%d)%d*(c%d)%d=a*b*c%d:=by
 rw[<-lC a b,<-lC (a*b) c]
theorem Ft{N g d:Nat}{fs:List (Nat×Nat)}(hN:2<=N)(hd:d∣N)(d1:1<d)(h1:g^(N-1)%N=1%N)
  (hq:∀qe∈fs,aG qe.1/\qe.1^qe.2∣N-1/\Nat.gcd (g^((N-1)/qe.1)%N+(N-1)) N=1):jH fs<d:=by
 have down:∀{a b:Nat},a%N=b%N->a%d=b%d:=fun{a b} e=>by
  rw[<-Cs a hd,e,Cs b hd]
 have one:1%d=1:=Nat.mod_eq_of_lt d1
 have f1:g^(N-1)%d=1:=by rw[down h1,one]
 obtain⟨o,⟨o0,o1⟩,HB⟩:=VS (P:=fun k=>0<k/\g^k%d=1) (N-1) ⟨by omega,f1⟩
 have per:∀q r:Nat,g^(o*q+r)%d=g^r%d:=fun q r=>by
  rw[tM,Nat.pow_mul,lC,Nat.pow_mod,o1,Nat.one_pow,one,xg,Dz]
 have L5:∀k,g^k%d=1->o∣k:=fun k hk=>by
  have e:=zP k o
  rw[<-e,per] at hk
  by_cases h0:k%o=0
  ·exact J1 h0
  ·exact absurd ⟨by omega,hk⟩ (HB (k%o) (vW _ o0))
 have od:=L5 _ f1
 have parts:jH fs∣o:=G7 fun qe vN=>by
  obtain⟨pq,⟨c,hc⟩,gq⟩:=hq qe vN
  obtain⟨m,hm⟩:=od
  by_cases sR:qe.1∣m
  ·exfalso
   obtain⟨m',hm'⟩:=sR
   have q0:0<qe.1:=by have:=pq.1;omega
   have ek:(N-1)/qe.1=o*m':=by
    rw[hm,hm',show o*(qe.1*m')=qe.1*(o*m') by rw[<-oW,mj o,oW],Nat.mul_div_cancel_left _ q0]
   have e1:g^((N-1)/qe.1)%d=1:=by
    have:=per m' 0
    rw[Nat.add_zero,Bk,one] at this
    rw[ek];exact this
   have e2:d∣g^((N-1)/qe.1)%N+(N-1):=by
    have e3:(g^((N-1)/qe.1)%N)%d=1:=by rw[Cs _ hd];exact e1
    obtain⟨k,hk⟩:=hd
    have e4:=zP (g^((N-1)/qe.1)%N) d
    rw[e3] at e4
    refine⟨(g^((N-1)/qe.1)%N)/d+k,?_⟩
    rw[Nat.mul_add,<-hk]
    omega
   have e5:=Nat.dvd_gcd e2 hd
   rw[gq] at e5
   have:=z9 (by omega) e5
   omega
  ·have cp:=UE (Qj pq sR) qe.2
   have QC:qe.1^qe.2∣o*m:=⟨c,by rw[<-hm];exact hc⟩
   exact cp.dvd_of_dvd_mul_right QC
 have P6:o<d:=by
  refine Nat.lt_of_not_le fun hle=>?_
  have unit:∀i,i<=N-1->(g^i%d)*(g^(N-1-i)%d)%d=1:=fun i hi=>by
   rw[<-lC,<-tM,show i+(N-1-i)=N-1 by omega];exact f1
  have XF:o<=N-1:=z9 (by omega) od
  have pos:∀i,i<o->0<g^i%d:=fun i hi=>by
   refine Nat.pos_of_ne_zero fun z=>?_
   have:=unit i (by omega)
   rw[z,tP,Nat.zero_mod] at this
   cases this
  obtain⟨i,j,h1,h2,h3⟩:=D0 (d-1) (fun i=>g^i%d-1) (fun i hi=>by
   have a1:=pos i (by omega)
   have a2:=vW (g^i) (show d>0 by omega)
   omega)
  have pi:=pos i (by omega)
  have pj:=pos j (by omega)
  have e:g^i%d=g^j%d:=by omega
  have ej:g^j=g^i*g^(j-i):=by rw[<-tM,show i+(j-i)=j by omega]
  have u:=unit i (by omega)
  have k1:g^(j-i)%d=1:=by
   have w:(g^i%d)*(g^(N-1-i)%d)%d*(g^(j-i)%d)%d=(g^j%d)*(g^(N-1-i)%d)%d:=by
    rw[Mn,<-lC (g^j),ej]
    congr 1
    rw[oW,oW,mj (g^(N-1-i))]
   rw[u,xg,Dz,<-e,u] at w
   exact w
  exact HB (j-i) (by omega) ⟨by omega,k1⟩
 exact A7 (z9 o0 parts) P6
theorem Mc{N g:Nat}(fs:List (Nat×Nat))(hN:2<=N)(h1:g^(N-1)%N=1%N)
  (hq:∀qe∈fs,aG qe.1/\qe.1^qe.2∣N-1/\Nat.gcd (g^((N-1)/qe.1)%N+(N-1)) N=1) (hF:N<(jH fs+1)*(jH fs+1)):aG N:=by
 refine⟨hN,fun d hd=>?_⟩
 obtain⟨e,he⟩:=id hd
 by_cases d1:d=1
 ·exact .inl d1
 by_cases e1:e=1
 ·right;rw[he,e1,tQ]
 exfalso
 have d0:d≠0:=fun z=>by rw[z,tP] at he;omega
 have e0:e≠0:=fun z=>by rw[z,Nat.mul_zero] at he;omega
 have b1:=Ft hN hd (by omega) h1 hq
 have b2:=Ft hN ⟨d,by rw[he,mj]⟩ (show 1<e by omega) h1 hq
 have:=Nat.mul_le_mul (show jH fs+1<=d from b1) (show jH fs+1<=e from b2)
 omega
def Hu(N g:Nat)(fs:List (Nat×Nat)):Bool:=
 decide (2<=N) && decide (N<2^140) &&(pw N 140 (N-1) g 1%N==1) && fs.all (fun qe=>((N-1)%qe.1^qe.2==0) &&(Nat.gcd (pw N 140 ((N-1)/qe.1) g 1%N+(N-1)) N==1)) && decide (N<(jH fs+1)*(jH fs+1))
theorem cP{N:Nat}(g:Nat)(fs:List (Nat×Nat))(hp:∀qe∈fs,aG qe.1)(h:Hu N g fs=true):aG N:=by
 unfold Hu at h
 simp only[er,decide_eq_true_eq,beq_iff_eq,jz] at h
 obtain⟨⟨⟨⟨h1,h2⟩,h3⟩,h4⟩,h5⟩:=h
 have P:∀e,e<=N-1->pw N 140 e g 1%N=g^e%N:=fun e he=>by
  rw[Jv 140 e g 1 (by omega),xg]
 refine Mc (g:=g) fs h1 (by rw[<-P _ (aS _),h3,Nat.mod_eq_of_lt (by omega)]) (fun qe vN=>?_) h5
 obtain⟨g1,g2⟩:=h4 qe vN
 refine⟨hp qe vN,J1 g1,?_⟩
 rw[<-P _ (Nat.div_le_self _ _)]
 exact g2
end PC
set_option maxRecDepth 100000
set_option maxHeartbeats 1000000
namespace PC
theorem A8:aG 2:=bT 4 (by decide) (by decide+kernel)
theorem KC:aG 3:=bT 4 (by decide) (by decide+kernel)
theorem Oo:aG 5:=bT 5 (by decide) (by decide+kernel)
theorem Bp:aG 7:=bT 5 (by decide) (by decide+kernel)
theorem Ra:aG 11:=bT 6 (by decide) (by decide+kernel)
theorem VF:aG 101:=bT 13 (by decide) (by decide+kernel)
theorem RD:aG 10007:=bT 103 (by decide) (by decide+kernel)
theorem Mp:aG 65537:=bT 259 (by decide) (by decide+kernel)
theorem QO:aG 1000003:=bT 1003 (by decide) (by decide+kernel)
theorem Rg:aG 17:=bT 7 (by decide) (by decide+kernel)
theorem O3:aG 998244353:=cP 3 [(17,1),(7,1),(2,23)] (fun qe h=>by
 simp only[aP,cB,or_false] at h
 rcases h with rfl|rfl|rfl
 ·exact Rg
 ·exact Bp
 ·exact A8) (by decide+kernel)
theorem LR:aG 148721:=bT 388 (by decide) (by decide+kernel)
theorem WX:aG 500000003:=cP 2 [(148721,1)] (fun qe h=>by
 simp only[aP,cB,or_false] at h
 subst h;exact LR) (by decide+kernel)
theorem Oj:aG 1000000007:=cP 2 [(500000003,1)] (fun qe h=>by
 simp only[aP,cB,or_false] at h
 subst h;exact WX) (by decide+kernel)
theorem Jz:aG 331:=bT 21 (by decide) (by decide+kernel)
theorem GH:aG 151:=bT 15 (by decide) (by decide+kernel)
theorem Va:aG 2147483647:=cP 3 [(331,1),(151,1)] (fun qe h=>by
 simp only[aP,cB,or_false] at h
 rcases h with rfl|rfl
 ·exact Jz
 ·exact GH) (by decide+kernel)
theorem KI:aG 250049:=bT 503 (by decide) (by decide+kernel)
theorem QT:aG 26005097:=cP 2 [(250049,1)] (fun qe h=>by
 simp only[aP,cB,or_false] at h
 subst h;exact KI) (by decide+kernel)
theorem Uh:aG 1000000000039:=cP 2 [(26005097,1)] (fun qe h=>by
 simp only[aP,cB,or_false] at h
 subst h;exact QT) (by decide+kernel)
theorem Pq:aG 234931:=bT 487 (by decide) (by decide+kernel)
theorem PJ:aG 8740842787:=cP 2 [(234931,1)] (fun qe h=>by
 simp only[aP,cB,or_false] at h
 subst h;exact Pq) (by decide+kernel)
theorem UY:aG 52445056723:=cP 2 [(8740842787,1)] (fun qe h=>by
 simp only[aP,cB,or_false] at h
 subst h;exact PJ) (by decide+kernel)
theorem Sb:aG 1000000000000000003:=cP 2 [(52445056723,1)] (fun qe h=>by
 simp only[aP,cB,or_false] at h
 subst h;exact UY) (by decide+kernel)
theorem SJ:aG 15331:=bT 126 (by decide) (by decide+kernel)
theorem Pe:aG 2131:=bT 49 (by decide) (by decide+kernel)
theorem Nj:aG 5594472617641:=cP 2 [(15331,1),(2131,1)] (fun qe h=>by
 simp only[aP,cB,or_false] at h
 rcases h with rfl|rfl
 ·exact SJ
 ·exact Pe) (by decide+kernel)
theorem Tz:aG 18446744073709551557:=cP 2 [(5594472617641,1)] (fun qe h=>by
 simp only[aP,cB,or_false] at h
 subst h;exact Nj) (by decide+kernel)
theorem QY:aG 1321:=bT 39 (by decide) (by decide+kernel)
theorem Wg:aG 61:=bT 10 (by decide) (by decide+kernel)
theorem OF:aG 2305843009213693951:=cP 3 [(1321,1),(331,1),(151,1),(61,1)] (fun qe h=>by
 simp only[aP,cB,or_false] at h
 rcases h with rfl|rfl|rfl|rfl
 ·exact QY
 ·exact Jz
 ·exact GH
 ·exact Wg) (by decide+kernel)
theorem SW:aG 8707:=bT 96 (by decide) (by decide+kernel)
theorem TH:aG 1913:=bT 46 (by decide) (by decide+kernel)
theorem To:aG 2931542417:=cP 3 [(8707,1),(1913,1)] (fun qe h=>by
 simp only[aP,cB,or_false] at h
 rcases h with rfl|rfl
 ·exact SW
 ·exact TH) (by decide+kernel)
theorem Mb:aG 2113:=bT 48 (by decide) (by decide+kernel)
theorem Nu:aG 683:=bT 29 (by decide) (by decide+kernel)
theorem RN:aG 618970019642690137449562111:=cP 3 [(2931542417,1),(2113,1),(683,1)] (fun qe h=>by
 simp only[aP,cB,or_false] at h
 rcases h with rfl|rfl|rfl
 ·exact To
 ·exact Mb
 ·exact Nu) (by decide+kernel)
theorem LO:aG 1097:=bT 36 (by decide) (by decide+kernel)
theorem Wv:aG 131:=bT 14 (by decide) (by decide+kernel)
theorem Le:aG 67254877:=cP 2 [(1097,1),(131,1)] (fun qe h=>by
 simp only[aP,cB,or_false] at h
 rcases h with rfl|rfl
 ·exact LO
 ·exact Wv) (by decide+kernel)
theorem TL:aG 28059810762433:=cP 3 [(67254877,1)] (fun qe h=>by
 simp only[aP,cB,or_false] at h
 subst h;exact Le) (by decide+kernel)
theorem K6:aG 53:=bT 10 (by decide) (by decide+kernel)
theorem V4:aG 37:=bT 9 (by decide) (by decide+kernel)
theorem Lv:aG 13:=bT 6 (by decide) (by decide+kernel)
theorem Ly:aG 20394401:=cP 3 [(53,1),(37,1),(13,1)] (fun qe h=>by
 simp only[aP,cB,or_false] at h
 rcases h with rfl|rfl|rfl
 ·exact K6
 ·exact V4
 ·exact Lv) (by decide+kernel)
theorem PR:aG 162259276829213363391578010288127:=cP 3 [(28059810762433,1),(20394401,1)] (fun qe h=>by
 simp only[aP,cB,or_false] at h
 rcases h with rfl|rfl
 ·exact TL
 ·exact Ly) (by decide+kernel)
theorem UB:aG 699053:=bT 839 (by decide) (by decide+kernel)
theorem UI:aG 77158673929:=cP 3 [(699053,1)] (fun qe h=>by
 simp only[aP,cB,or_false] at h
 subst h;exact UB) (by decide+kernel)
theorem Vg:aG 649657:=bT 809 (by decide) (by decide+kernel)
theorem Se:aG 92737:=bT 307 (by decide) (by decide+kernel)
theorem MV:aG 170141183460469231731687303715884105727:=cP 3 [(77158673929,1),(649657,1),(92737,1)] (fun qe h=>by
 simp only[aP,cB,or_false] at h
 rcases h with rfl|rfl|rfl
 ·exact UI
 ·exact Vg
 ·exact Se) (by decide+kernel)
theorem SE:aG 7963:=bT 92 (by decide) (by decide+kernel)
theorem TJ:aG 3011:=bT 57 (by decide) (by decide+kernel)
theorem RS:aG 575438233:=cP 2 [(7963,1),(3011,1)] (fun qe h=>by
 simp only[aP,cB,or_false] at h
 rcases h with rfl|rfl
 ·exact SE
 ·exact TJ) (by decide+kernel)
theorem Ud:aG 52316542391429:=cP 2 [(575438233,1)] (fun qe h=>by
 simp only[aP,cB,or_false] at h
 subst h;exact RS) (by decide+kernel)
theorem K0:aG 104633084782859:=cP 2 [(52316542391429,1)] (fun qe h=>by
 simp only[aP,cB,or_false] at h
 subst h;exact Ud) (by decide+kernel)
theorem UT:aG 179:=bT 16 (by decide) (by decide+kernel)
theorem LF:aG 31:=bT 8 (by decide) (by decide+kernel)
theorem OJ:aG 7935071:=cP 2 [(179,1),(31,1)] (fun qe h=>by
 simp only[aP,cB,or_false] at h
 rcases h with rfl|rfl
 ·exact UT
 ·exact LF) (by decide+kernel)
theorem KY:aG 15870143:=cP 2 [(7935071,1)] (fun qe h=>by
 simp only[aP,cB,or_false] at h
 subst h;exact OJ) (by decide+kernel)
theorem RO:aG 401321030361983486780957614729:=cP 2 [(104633084782859,1),(15870143,1)] (fun qe h=>by
 simp only[aP,cB,or_false] at h
 rcases h with rfl|rfl
 ·exact K0
 ·exact KY) (by decide+kernel)
theorem SS:aG 1000000000000000000000000000000000000003:=cP 2 [(401321030361983486780957614729,1)] (fun qe h=>by
 simp only[aP,cB,or_false] at h
 subst h;exact RO) (by decide+kernel)
theorem NH:aG 25733:=bT 163 (by decide) (by decide+kernel)
theorem QJ:aG 1151:=bT 36 (by decide) (by decide+kernel)
theorem Rb:aG 4916701379:=cP 2 [(25733,1),(1151,1)] (fun qe h=>by
 simp only[aP,cB,or_false] at h
 rcases h with rfl|rfl
 ·exact NH
 ·exact QJ) (by decide+kernel)
theorem KL:aG 83:=bT 12 (by decide) (by decide+kernel)
theorem Og:aG 23:=bT 7 (by decide) (by decide+kernel)
theorem U1:aG 1676254721:=cP 5 [(83,1),(23,1),(7,3)] (fun qe h=>by
 simp only[aP,cB,or_false] at h
 rcases h with rfl|rfl|rfl
 ·exact KL
 ·exact Og
 ·exact Bp) (by decide+kernel)
theorem TM:aG 149927568276670622397029177:=cP 2 [(4916701379,1),(1676254721,1)] (fun qe h=>by
 simp only[aP,cB,or_false] at h
 rcases h with rfl|rfl
 ·exact Rb
 ·exact U1) (by decide+kernel)
theorem VE:aG 9999999999999999999999999999999999999983:=cP 2 [(149927568276670622397029177,1)] (fun qe h=>by
 simp only[aP,cB,or_false] at h
 subst h;exact TM) (by decide+kernel)
end PC
namespace L2
open PC
def gJ(p:Int):Prop:=2<=p/\∀d:Int,0<d->d∣p->d=1\/d=p
theorem eH{n:Nat}(h:aG n):gJ (n:Int):=by
 refine⟨by have:=h.1;omega,fun d d0 hd=>?_⟩
 obtain⟨k,rfl⟩:=EB (Int.le_of_lt d0)
 rcases h.2 k (Int.natCast_dvd_natCast.mp hd) with e|e
 ·left;rw[e];rfl
 ·right;rw[e]
theorem Ul{p:Int}(h2:2<=p)(h:wD p):gJ p:=by
 obtain⟨n,rfl⟩:=EB (show 0<=p by omega)
 refine eH (FP (by omega) fun e e1 e2 e3=>?_)
 refine h (e:Int) (by omega) (by rw[<-Int.natCast_mul];exact Int.ofNat_le.mpr e2) ?_
 have:=congrArg (Nat.cast:Nat->Int) e3
 simpa using this
theorem Wq:∀p∈vK,gJ p:=by
 intro p hp
 simp only[vK,aP,cB,or_false] at hp
 rcases hp with rfl|rfl|rfl|rfl|rfl|rfl|rfl|rfl|rfl|rfl|rfl|rfl|rfl|rfl|rfl|rfl|rfl|rfl|rfl|rfl|rfl|rfl
 ·exact eH A8
 ·exact eH KC
 ·exact eH Oo
 ·exact eH Bp
 ·exact eH A8
 ·exact eH Ra
 ·exact eH VF
 ·exact eH RD
 ·exact eH Mp
 ·exact eH QO
 ·exact eH O3
 ·exact eH Oj
 ·exact eH Va
 ·exact eH Uh
 ·exact eH Sb
 ·exact eH Tz
 ·exact eH OF
 ·exact eH RN
 ·exact eH PR
 ·exact eH MV
 ·exact eH SS
 ·exact eH VE
def Au:Sp:=fun vs H Q _=>∃p b:Int,vs=[.int p, .int b]/\gJ p/\p<10^40/\b%p≠0/\∀u:Int,0<=u->u<p->(∃k,u*b=1+p*k)->Q (.int u) H
end L2
set_option maxRecDepth 100000
set_option maxHeartbeats 4000000
set_option maxRecDepth 100000
set_option maxHeartbeats 4000000
namespace L2
open PySem PySem.Spec PyProof.Rows
section
variable{X:Cx}{pins:List (Addr×Obj)}{σ:List (Option V)}{H:Hp}{s:Shared}{h':Heap}
theorem Inv.Fv{t':Nat}{e it T:Addr}{o:HO}(I:Inv X pins σ H s)(k:∀b u,b≠e->b≠it->s.heap.get? b=some u->h'.get? b=some u)(fe:gF X pins H e)(fi:gF X pins H it)(hT:s.heap.objs.size<=T)(Bd:T≠e)(mz:T≠it)
  (le:∃u,s.heap.get? e=some u) (li:∃u,s.heap.get? it=some u) (new:bK X.prog X.w (upd H T o) h' T o):Inv X pins σ (upd H T o) {s with heap:=h',toks:=t'}:=by
 have hn:=I.hok.fresh hT
 obtain⟨e0,e1,e2,e3,e4,e5⟩:=fe
 obtain⟨i0,i1,i2,i3,i4,i5⟩:=fi
 have ne:∀b u,H b=some u->b≠e:=fun b u q z=>by rw[z,e0] at q;cases q
 have ni:∀b u,H b=some u->b≠it:=fun b u q z=>by rw[z,i0] at q;cases q
 have nT:∀b u,H b=some u->b≠T:=fun b u q z=>by rw[z,hn] at q;cases q
 refine I.step (g':=s.gens) (d':=s.drawn) (ch:=[e,it]) (fun b hb=>?_) (fun b o _ _ hc q _=>k b o (fun z=>hc (by simp[z])) (fun z=>hc (by simp[z])) q) (fun b o _ _ hc q _=>⟨o.slots,k b o (fun z=>hc (by simp[z])) (fun z=>hc (by simp[z])) q⟩)
  (fun b o hc q n=>?_) (fun b o hc q=>⟨o,k b o (fun z=>hc (by simp[z])) (fun z=>hc (by simp[z])) q⟩) (fun b xs q=>by rw[aA (nT b _ q)];exact q) (fun b o u q=>by rw[aA (nT b _ q)];exact q) (fun b ps q=>⟨#[],by rw[aA (nT b _ q),q];simp⟩) (fun m hm=>?_) (fun b u q=>?_) I.bare
 ·rcases(show b=e\/b=it by simpa using hb) with z|z
  ·subst z;exact⟨e3,e1,e4,e5⟩
  ·subst z;exact⟨i3,i1,i4,i5⟩
 ·rw[aA (fun z=>absurd (eg (bw q) (by rw[z];exact hT)) (iG _))];exact n
 ·obtain⟨o,es,ep,ho,r⟩:=hm
  exact⟨o,es,ep,k _ o (bu e1) (bu i1) ho,r⟩
 ·by_cases hb:b=T
  ·subst hb;rw[aR] at q;cases q;exact new
  ·rw[aA hb] at q
   refine(I.hok b u q).stay (fun c v hc z=>?_) (fun c z=>by rw[aA (nT c _ z)];exact z) fun c xs z=>by rw[aA (nT c _ z)];exact z
   rcases hc with y|y
   ·subst y;exact k _ v (ne _ u q) (ni _ u q) z
   ·exact k c v (ne c _ y) (ni c _ y) z
theorem Inv.HA{t':Nat}{e it:Addr}(I:Inv X pins σ H s)(k:∀b u,b≠e->b≠it->s.heap.get? b=some u->h'.get? b=some u)(fe:gF X pins H e)(fi:gF X pins H it):Inv X pins σ H {s with heap:=h',toks:=t'}:=by
 obtain⟨e0,e1,e2,e3,e4,e5⟩:=fe
 obtain⟨i0,i1,i2,i3,i4,i5⟩:=fi
 have ne:∀b u,H b=some u->b≠e:=fun b u q z=>by rw[z,e0] at q;cases q
 have ni:∀b u,H b=some u->b≠it:=fun b u q z=>by rw[z,i0] at q;cases q
 refine I.step (g':=s.gens) (d':=s.drawn) (ch:=[e,it]) (fun b hb=>?_) (fun b o _ _ hc q _=>k b o (fun z=>hc (by simp[z])) (fun z=>hc (by simp[z])) q) (fun b o _ _ hc q _=>⟨o.slots,k b o (fun z=>hc (by simp[z])) (fun z=>hc (by simp[z])) q⟩)
  (fun _ _ _ _ n=>n) (fun b o hc q=>⟨o,k b o (fun z=>hc (by simp[z])) (fun z=>hc (by simp[z])) q⟩) (fun _ _ q=>q) (fun _ _ _ q=>q) (fun b ps q=>⟨#[],by rw[q];simp⟩) (fun m hm=>?_) (fun b u q=>?_) I.bare
 ·rcases(show b=e\/b=it by simpa using hb) with z|z
  ·subst z;exact⟨e3,e1,e4,e5⟩
  ·subst z;exact⟨i3,i1,i4,i5⟩
 ·obtain⟨o,es,ep,ho,r⟩:=hm
  exact⟨o,es,ep,k _ o (bu e1) (bu i1) ho,r⟩
 ·refine(I.hok b u q).stay (fun c v hc z=>?_) (fun c z=>z) fun c xs z=>z
  rcases hc with y|y
  ·subst y;exact k _ v (ne _ u q) (ni _ u q) z
  ·exact k c v (ne c _ y) (ni c _ y) z
end
def wg(K:PySem.W.Frag)(a:Addr):It:=
 ⟨fun i H=>∃xs x,aQ K H a xs/\xs[i]?=some x,fun i H x H'=>∃p y,x= .ref p/\H p=none/\(∀xs,aQ K H a xs->xs[i]?=some y)/\H'=upd H p (.tup [.int i,y]),fun i H=>∃xs,aQ K H a xs/\xs.length=i⟩
theorem LC{P:Program}{w:World}{K:PySem.W.Frag}{elts:List Expr}{k:Nat}{pos:Pos}(a e it:Addr)(hei:e≠it):
  Turn P w K (.Tuple elts k pos) (wg K a) [e,it] e (fun i h=>(∃old,IsEnum h e it i old)/\h.IsListIter it a i) where
 mem:=by simp
 obj:=fun i h st b hb=>by
  obtain⟨⟨old,s1⟩,⟨o,e1,c,d⟩⟩:=st
  rcases(show b=e\/b=it by simpa using hb) with z|z
  ·subst z
   exact⟨_,s1,fun v z=>by
    have z':Data.fields _=Data.cell v:=z
    cases z'⟩
  ·subst z
   exact⟨o,e1,fun v z=>by rw[d] at z;cases z⟩
 keep:=fun i h h' st k=>⟨let ⟨old,s1⟩:=st.1;⟨old,k e (by simp) _ s1⟩,st.2.at fun o q=>k it (by simp) o q⟩
 item:=by
  intro X hP hw hK hc i pins s σ H E I hf st hg
  subst hP hw hK
  obtain⟨xs,x,hq,hx⟩:=hg
  obtain⟨its,rv,p,hz⟩:=I.list hq
  obtain⟨u,hu,ru⟩:=rv.get hx
  have fe:=hf e (by simp)
  have fi:=hf it (by simp)
  obtain⟨⟨old,s1⟩,s2⟩:=st
  obtain⟨ol,l1,l2,l3⟩:=id p.isList
  obtain⟨oi,i1,i2,i3⟩:=id s2
  have xV:a≠e:=fun z=>by
   subst z
   rw[s1] at l1;cases l1
   exact absurd l2 (by simp)
  have hai:a≠it:=fun z=>by
   subst z
   rw[i1] at l1;cases l1
   rw[i2] at l2
   exact absurd l2 (by simp)
  have W:=WalksT.enumerate (prog:=X.prog) (w:=X.w) (I.ok.hd hc) e it a hei xV hai its.toArray
  have hi:i<its.toArray.size:=by
   have:=(bI.mp hu).1
   simpa using this
  refine W.item i s _ _ hi ⟨⟨old,s1⟩,s2,p.isList⟩ fun T vals h' tk hv hT Cy nZ kp=>⟨.ref T,rfl,?_⟩
  refine W.go elts k pos i T _ _ _ nZ fun h'' st' qc=>?_
  obtain⟨t,x',hx',AE⟩:=hv
  have PD:x'=u:=by
   have:its.toArray[i]?=some u:=by simpa using hu
   rw[hx'] at this;exact fR this
  subst PD AE
  have zj:=W.apart i T h' nZ
  obtain⟨_,_,_,Bd,mz⟩:=nZ
  obtain⟨oT,t1,t2,nT,t3⟩:=Cy
  have t1':=qc T oT zj t1
  refine⟨.ref T,upd H T (.tup [.int i,x]),I.Fv (fun b v h1 h2 q=>qc b v (by simp[h1,h2]) (kp b v (by simp[h1,h2]) q)) fe fi hT Bd mz ⟨_,s1⟩ ⟨_,i1⟩ ?_,rfl,⟨T,x,rfl,I.hok.fresh hT,fun ys hy=>by rw[I.uO hy hq];exact hx,rfl⟩,⟨st'.1,st'.2.1⟩,fun b hb=>?_⟩
  ·exact⟨by show 2<=sizeLine;decide,[.int i t,x'], .cons ⟨t,rfl⟩ (.cons ru .nil),oT,t1',t2,nT,t3⟩
  ·rw[aA,(hf b hb).1]
   rcases(show b=e\/b=it by simpa using hb) with z|z
   ·rw[z];exact bu Bd
   ·rw[z];exact bu mz
 done:=by
  intro X hP hw hK hc i pins s σ H E I hf st hg
  subst hP hw hK
  obtain⟨xs,hq,hx⟩:=hg
  obtain⟨its,rv,p,hz⟩:=I.list hq
  have fe:=hf e (by simp)
  have fi:=hf it (by simp)
  obtain⟨⟨old,s1⟩,s2⟩:=st
  obtain⟨ol,l1,l2,l3⟩:=id p.isList
  obtain⟨oi,i1,i2,i3⟩:=id s2
  have hl:=rv.length
  have xV:a≠e:=fun z=>by
   subst z
   rw[s1] at l1;cases l1
   exact absurd l2 (by simp)
  have hai:a≠it:=fun z=>by
   subst z
   rw[i1] at l1;cases l1
   rw[i2] at l2
   exact absurd l2 (by simp)
  have W:=WalksT.enumerate (prog:=X.prog) (w:=X.w) (I.ok.hd hc) e it a hei xV hai its.toArray
  have hn:its.toArray.size=i:=by rw[cN];omega
  refine W.done s _ _ (by rw[hn];exact⟨⟨old,s1⟩,s2,p.isList⟩) fun h' tk kp=>⟨rfl,?_⟩
  exact I.HA (fun b v h1 h2 q=>kp b v (by simp[h1,h2]) q) fe fi
 self:=fun _ _ _ _ _ st h=>let ⟨old,s1⟩:=st.1;wpAny_pyIter_enum s1 h
def B7(K:PySem.W.Frag)(tl:TE):TI:=fun σ H R=>tl σ H fun x H1=>∃a,x= .ref a/\(∃xs,aQ K H1 a xs)/\R (wg K a) H1
theorem BF{X:Cx}{K:PySem.W.Frag}{elts:List Expr}{k:Nat}{tpos:Pos}{l:Expr}{tl:TE}{p pos:Pos}(hK:X.K=K)(hg:Gl X "enumerate")(hm:X.mg "enumerate"=none)(hl:PE X l tl)(hs:starEach [l] X.env=[(false,eval l X.env)]:=by rfl):
    PI X (.Tuple elts k tpos) (.Call (.Name "enumerate" p) [l] [] pos) (B7 K tl):=by
  subst hK
  intro pins s σ H R I h
  have ha:PA X [l] (bR tl cy):=aa hl ak (by rw[hs];rfl)
  refine Call_ (nq I hg hm boot_enumerate (rN (aK (ha pos pins s σ H (fun vs H1=>match vs with|[x]=>∃a,x= .ref a/\(∃xs,aQ X.K H1 a xs)/\R (wg X.K a) H1|_=>False) I h) fun us s1 ⟨vs,H1,I1,r1,q1⟩=>?_) hs rfl))
  cases r1 with
  |nil=>exact q1.elim
  | cons r rr =>
    cases rr with
    |cons _ _=>exact q1.elim
    |nil=>
    obtain⟨a,e2,⟨xs,hq⟩,q⟩:=q1
    subst e2
    cases r
    obtain⟨its,rv,p,hz⟩:=I1.list hq
    obtain⟨m,hn,_⟩:=I1.loc
    refine enum_rows (h₀:={objs:= #[]}) (L:=X.env.locals) (m:=m) ⟨hn,fun b o z=>?_,eU _⟩ p.isList fun h' e1 e2 e3 e4 kp ne n1 n2 _ _=>?_
    · cases z
    refine wpAny_pyIter_enum e1 ?_
    have I2:Inv X pins σ H1 {s1 with heap:=h'}:=I1.kept (t':=s1.toks) kp
    refine⟨s1.heap.objs.size+1,[s1.heap.objs.size+1,s1.heap.objs.size],_,_,H1,rfl,I2,LC a _ _ ne,⟨⟨_,e1⟩,e2⟩,fun b hb=>?_,q⟩
    rcases(show b=s1.heap.objs.size+1\/b=s1.heap.objs.size by simpa using hb) with z|z
    · subst z;exact I1.nO (pS _) (I1.hok.fresh (pS _))
    · subst z;exact I1.nO (aS _) (I1.hok.fresh (aS _))
end L2
set_option maxRecDepth 100000
set_option maxHeartbeats 4000000
namespace L2
open PySem PySem.Spec PyProof.Rows
theorem R.LX{K:PySem.W.Frag}{a:Addr}{xs:List V}{g:TG}{tc:TT}{te:TE}{acc:Addr}{Qe:Hp->Prop}{σ:St}{H:Hp}(Pv:Nat->St->Hp->Prop)(h0:Pv 0 σ H)(hl:∀i σ H,i<=xs.length->Pv i σ H->aQ K H a xs)
  (hs:∀i x σ H p,xs[i]?=some x->Pv i σ H->H p=none->g (.ref p) σ (upd H p (.tup [.int i,x])) fun σ2 H2=>tc σ2 H2 fun b H3=>if b=true then te σ2 H3 fun v H4=>∃ys,H4 acc=some (.lst ys)/\ys.length<sizeLine/\Pv (i+1) σ2 (upd H4 acc (.lst (ys++[v]))) else Pv (i+1) σ2 H3)
  (hd:∀σ H,Pv xs.length σ H->Qe H):mO (wg K a) g tc te acc Qe σ H:=by
 refine⟨fun i m σ H=>m=xs.length-i/\i<=xs.length/\Pv i σ H,⟨xs.length,by simp,eU _,h0⟩,?_⟩
 rintro i m σ H ⟨rfl,hi,p⟩
 have q:=hl i σ H hi p
 by_cases hlt:i<xs.length
 ·refine .inr ⟨⟨xs,xs[i],q,by simp[hlt]⟩,Pv (i+1),fun σ' H' p'=>⟨xs.length-(i+1),by omega,rfl,hlt,p'⟩,fun x H' y=>?_⟩
  obtain⟨pp,y,e,hn,hy,e2⟩:=y
  subst e e2
  exact hs i y σ H pp (hy xs q) p hn
 ·have e:i=xs.length:=by omega
  subst e
  exact .inl ⟨⟨xs,q,rfl⟩,hd σ H p⟩
section
variable{G:Gx}{ρ bA:Rh}{te:TE}{s:TS}{gt:TG}{E:DE}{K:PySem.W.Frag}{Θ:Bool->List PyData->Prop}{tc:TT}{mp:List (Option Nat)}
theorem Sv.D9(h:Ev G ρ te fun f x=>∃ds,x= .list ds/\∀v,qq (G.hd f (.list ds) v) ρ ds.length (fun i d=>∃e,ds[i]?=some e/\d= .tuple [.int i,e]) f gt s E):Sv G ρ (oS (B7 K te) gt s) E:=fun nb σ H D W KK=>
 h nb σ H _ W fun f v H1 x ⟨ds,ex,q⟩ s1 hv=>by
  subst ex
  obtain⟨I,h0,ht,he⟩:=q v
  have W1:=(W.step s1).hd hv
  obtain⟨a,xs,rfl,n,hx,hd⟩:=hv.cQ
  have key:∀{nb ρ' σ H},Wd (G.hd f (.list ds) (.ref a)) nb ρ' σ H->∃xs,H a=some (.lst xs)/\af (G.S nb f) H ds xs:=fun W=>by
   obtain⟨a',xs',e',_,h',d'⟩:=W.cO.2.cQ
   cases e'
   exact⟨xs',h',d'⟩
  refine⟨a,rfl,⟨xs, .of hx⟩,?_⟩
  refine⟨fun i m σ H=>m=ds.length-i/\i<=ds.length/\∃nb ρ',I i ρ'/\Wd (G.hd f (.list ds) (.ref a)) nb ρ' σ H,⟨ds.length,by simp,eU _,nb,ρ,h0,W1⟩,?_⟩
  rintro i m σ H ⟨rfl,hi,nb,ρ',hI,W⟩
  obtain⟨ys,hy,hD⟩:=key W
  have hl:=hD.length
  by_cases hlt:i<ds.length
  ·refine .inr ⟨⟨ys,ys[i]'(by omega), .of hy,aD _⟩,fun σ H=>∃nb ρ',I (i+1) ρ'/\Wd (G.hd f (.list ds) (.ref a)) nb ρ' σ H,fun σ' H' q=>⟨ds.length-(i+1),by omega,rfl,hlt,q⟩,fun x H' y=>?_⟩
   obtain⟨p,y,e,hn,hz,e2⟩:=y
   subst e e2
   have hx:=hz ys (.of hy)
   obtain⟨x',hx',dx⟩:=hD.get (aD hlt)
   rw[hx] at hx';cases hx'
   have st:Step (G.hd f (.list ds) (.ref a)).B H (upd H p (.tup [.int i,y])):= .same W.ay (bQ hn)
   refine ht i _ ρ' ⟨_,aD hlt,rfl⟩ hI nb σ _ _ _ (W.step st) (.tup (W.fresh hn) aR (.cons (.int _) (.cons (dx.keep st.cR) .nil))) fun σ2 sj q W2=>q nb σ2 _ _ W2 ?_
   exact⟨fun nb ρ σ H q W=>⟨nb,ρ,q,W⟩,fun nb ρ σ H q W=>KK.nx nb ρ σ H q W.cO.1,fun nb ρ σ H q W=>⟨nb,ρ,q,W⟩,fun nb ρ σ f v H d q W hv=>KK.rt nb ρ σ f v H d q W.cO.1 hv,fun nb ρ σ v H q W=>KK.rw nb ρ σ v H q W.cO.1⟩
  ·have e:i=ds.length:=by omega
   subst e
   exact .inl ⟨⟨ys, .of hy,by omega⟩,KK.nx nb ρ' σ H (he ρ' hI) W.cO.1⟩
theorem au.Tc{t0:TE}(hm:(mp.filterMap id).Nodup)(cI:jA mp ρ=bA)(h:Ev G ρ t0 fun fi x=>∃es,x= .list es/\es.length<=10000/\∀v,dZ (G.hd fi (.list es) v) bA es.length (fun i d=>∃e,es[i]?=some e/\d= .tuple [.int i,e]) fi gt tc te Θ):au G ρ (jG (B7 K t0) gt tc te mp) Θ:=fun nb σ H Q W z=>
 h nb σ H _ W fun fi v H1 x ⟨es,ex,hn,q⟩ s1 hv=>by
  subst ex
  obtain⟨fl,I,h0,ht,he⟩:=q v
  have W0:=(W.step s1).hd hv
  obtain⟨a,xs,rfl,n,hx,hd⟩:=hv.cQ
  refine⟨a,rfl,⟨xs, .of hx⟩,fun acc hacc=>?_⟩
  have mh:Wd (G.hd fi (.list es) (.ref a)) nb bA (L2.ef mp σ) H1:=by rw[<-cI];exact W0.ef hm
  have W1:=mh.more hacc (o:= .lst [])
  have hN:=NB.new s1.2 hacc
  have hno:=rY mh hacc
  have jh:Step G.B H1 (upd H1 acc (.lst [])):= .same s1.2 (bQ hacc)
  have lP:NB G.B a:=gR fun z=>n (.inr (.inr (.inl z)))
  refine R.LX (xs:=xs) (fun i σ H=>∃ds ys,Wd (G.hd fi (.list es) (.ref a)) (fun x=>nb x\/x=acc) bA σ H/\Step G.B H1 H/\H acc=some (.lst ys)/\af (G.S (fun x=>nb x\/x=acc) fl) H ds ys/\ds.length<=i/\I i ds/\H a=some (.lst xs)) ⟨[],[],W1,jh,aR, .nil,aS _,h0,jh.1 _ _ lP hx⟩ ?_ ?_ ?_
  ·rintro i σ H hi ⟨ds,ys,W,st,_,_,_,_,ha⟩
   exact .of ha
  ·rintro i x σ H p hi ⟨ds,ys,W,st,hy,hd',hl,hI,ha⟩ hp
   obtain⟨a',xs',e',_,h',d'⟩:=W.cO.2.cQ
   cases e'
   rw[ha] at h';cases h'
   have hil:i<es.length:=by have:=(bI.mp hi).1;have:=d'.length;omega
   obtain⟨x',hx',dx⟩:=d'.get (aD hil)
   rw[hi] at hx';cases hx'
   have st2:Step (G.hd fi (.list es) (.ref a)).B H (upd H p (.tup [.int i,x])):= .same W.ay (bQ hp)
   have hap:acc≠p:=fun z=>by subst z;rw[hp] at hy;cases hy
   have Yc:a≠p:=fun z=>by subst z;rw[hp] at ha;cases ha
   refine su (G:=G.hd fi (.list es) (.ref a)) hn hil (W.step st2) (.inr rfl) hN hno (st.trans st2) hacc (by rw[aA hap];exact hy) (hd'.keep st2.cR) hl (.tup (W.fresh hp) aR (.cons (.int _) (.cons (dx.keep st2.cR) .nil))) (ht i _ ds ⟨_,aD hil,rfl⟩ hl hI) fun σ' H' ds' xs' W' st' hx' hd' hl' hI'=>⟨ds',xs',W',st',hx',hd',hl',hI',st'.1 _ _ lP hx⟩
  ·rintro σ H' ⟨ds,ys,W',st,hy,hd',hl,hI,_⟩
   rw[hd.length] at hl hI
   exact oY W s1 hacc st hy hd' (he ds hl hI) z
end
end L2
set_option maxRecDepth 100000
set_option maxHeartbeats 4000000
namespace L2
open PySem PySem.Spec PyProof.Rows
section
variable{G:Gx}{ρ:Rh}{Φ:Pd}{te:TE}{t:TA}{i n:Nat}{f:Bool}{ds:List PyData}{Θ:List PyData->Prop}
theorem Ev.tupS(h:Av G ρ t fun es=>es.length<=10000/\Φ (i7 es||dJ (es.map (·.2))) (.tuple (es.map (·.2)))):Ev G ρ (qG t) Φ:=fun nb σ H Q W z=>
 h nb σ H _ W fun es vs H1 ⟨hl,p⟩ s1 q1=>⟨dB (by rw[q1.len];exact hl) (by decide),fun a ha=>z _ _ _ _ p (s1.trans (.same (W.step s1).ay (bQ ha))) (by
  cases hs:dJ (es.map (·.2)) with
  |true=>rw[Dk];exact .tup ((W.step s1).fresh ha) aR ((q1.all (f:=false) fun z=>by cases z).g5 hs)
  |false=>rw[nD];exact .tup ((W.step s1).fresh ha) aR ((q1.all fun z=>z).keep (bq.of (bQ ha))))⟩
theorem Ev.MT(h:Ev G ρ te fun _ x=>∃n:Int,x= .int n/\2<=n/\n<=10002/\∀r:Int,gJ r->r<10^40->Φ true (.int r)):Ev G ρ (i9 A9 [] E0 (bR te cy)) Φ:=fun nb σ H Q W z=>
 h nb σ H _ W fun f v H1 d ⟨n,e,h1,h2,p⟩ s1 hv=>by
  subst e
  exact⟨n,by rw[hv.bZ];rfl,h1,h2,fun r H' sm r1 r2 r3=>z true _ H' _ (p r (Ul r1 r3) (by omega)) (s1.trans (.same (W.step s1).ay sm)) (.int r)⟩
theorem Ev.str{x:Str}(h:Φ true (.str x)):Ev G ρ (tC (.str x)) Φ:=fun nb σ H Q W z=>z true _ H _ h (.refl W.ay) (by unfold ai;rfl)
end
theorem Eu.fin{p b L lt t:Int}(h:Eu p b L lt 0 t)(hp:gJ p)(hb:b%p≠0):∃k,lt%p*b=1+p*k:=by
 obtain⟨g1,g2⟩:=h.dv L (Int.dvd_refl L) (Int.dvd_zero L)
 have m1:=fP b (show p≠0 by have:=hp.1;omega)
 have m2:=fZ b (show 0<p by have:=hp.1;omega)
 have hL:L=1:=by
  rcases hp.2 L h.l0 g1 with e|e
  ·exact e
  ·exfalso
   rw[e] at g2
   have:=mQ (by omega) g2
   omega
 obtain⟨k,hk⟩:=h.lc
 have e:=j6 lt p
 refine⟨-k-lt/p*b,?_⟩
 have e2:lt%p=lt-p*(lt/p):=by omega
 rw[e2,CL,C8,Int.mul_neg,qB]
 omega
noncomputable def sol(p b a:Int):Int:=open Classical in if h:∃x,0<=x/\x<p/\∃k,b*x-a=p*k then Classical.choose h else 0
theorem dQ{X:Cx}{K:PySem.W.Frag}{tg l:Expr}{tl:TE}(hK:X.K=K)(hl:PE X l tl):PI X tg l (rS K tl):=by subst hK;exact UW hl
theorem OZ{env:Env}{n:Str}{l:List (Str×NameKind)}:(List.lookup n l=some .cell\/List.lookup n l=some .free)->
    (List.lookup n (l.map fun x => match x with | (n, k) => if (k == NameKind.free && env.scope.kind == ScopeKind.function && env.kindOf n == some NameKind.cell) = true then (n, NameKind.cell) else (n, k)) = some .cell \/
     List.lookup n (l.map fun x=>match x with|(n,k)=>if(k==NameKind.free && env.scope.kind==ScopeKind.function && env.kindOf n==some NameKind.cell)=true then(n,NameKind.cell) else(n,k))=some .free):=by
  induction l with
  |nil=>intro h;simpa using h
  | cons a r ih =>
    obtain⟨m,k⟩:=a
    intro h
    rw[bh]
    by_cases c:n=m
    · subst c
      rw[ya] at h
      dsimp only
      split
      · rw[ya];exact .inl rfl
      · rw[ya];exact h
    · have hb:(n==m)=false:=by simpa using c
      have e1:List.lookup n ((m,k)::r)=List.lookup n r:=by rw[dR,hb]
      rw[e1] at h
      dsimp only
      split
      · rw[dR,hb];exact ih h
      · rw[dR,hb];exact ih h
theorem bS.rel{sx:Scope}{env:Env}{NX:List Str}{scope:Scope}{N:List Str}{mp:List (Option Nat)}(h:bS sx NX scope N mp):bS (relabel sx env) NX scope N mp:=
 ⟨h.kind,h.cell,h.names,fun y hy e=>OZ (h.free y hy e),h.len,h.look⟩
theorem Wc{X:Cx}{scope:Scope}{C:Addr}{N:List Str}{s₀:Shared}{H₀:Hp}{fp:List Addr}{elt iter tg:Expr}{ifs:List Expr}{qI:Scope}{pos:Pos}{N2:List Str}{mp:List (Option Nat)}{wi:TI}{g:TG}{tc:TT}{te:TE}
  (ok:bS scope N qI N2 mp) (hi:PI (eu X scope C N s₀ H₀ fp) tg iter wi)
  (hb:∀C' s₀' H₀' fp',PG (eu (eu X scope C N s₀ H₀ fp) qI C' N2 s₀' H₀' fp') tg g/\oV (eu (eu X scope C N s₀ H₀ fp) qI C' N2 s₀' H₀' fp') ifs tc/\PE (eu (eu X scope C N s₀ H₀ fp) qI C' N2 s₀' H₀' fp') elt te) (hc:X.calm=true:=by rfl)
  (hs:∀x,foldedSetIterable iter (eu X scope C N s₀ H₀ fp).env x=pure x:=by intro _;rfl):PE (eu X scope C N s₀ H₀ fp) (.ListComp elt [⟨tg,iter,ifs,0⟩] qI pos) (jG wi g tc te mp):=
 dH (X:=eu X scope C N s₀ H₀ fp) (bS.rel ok) hi hb hc hs
end L2
set_option maxRecDepth 100000
set_option maxHeartbeats 4000000
namespace L2
open PySem PySem.Spec PyProof.Rows
def cnt(wd:Wo):Nat:=wd.countP fun o=>o.isNone
section
variable{G:Gx}{ρ:Rh}{Φ:Pd}{ta tb te:TE}{E:DE}{K:PySem.W.Frag}
theorem Ev.XZ{tl th:TO}(h:Ev G ρ te fun f x=>∃ds,x= .tuple ds/\Ov G ρ tl fun lo=>Ov G ρ th fun hi=>¬(HT.dO ds.length 0 lo=0/\HT.dO ds.length ds.length hi=ds.length)/\Φ f (.tuple (gQ ds lo hi))):Ev G ρ (qw (MG K) te tl th) Φ:=fun nb σ H Q W z=>
 h nb σ H _ W fun f v H1 d ⟨ds,e,q⟩ s1 hv=>q nb σ H1 _ (W.step s1) fun lo H2 q2 s2=>q2 nb σ H2 _ ((W.step s1).step s2) fun hi H3 ⟨hn,q3⟩ s3=>by
  subst e
  obtain⟨a,xs,rfl,n,hx,hd⟩:=((hv.keep s2.cR).keep s3.cR).ofT
  have W3:=((W.step s1).step s2).step s3
  refine⟨a,xs,rfl, .of hx,by rw[hd.length];exact hn,fun p hp=>?_⟩
  exact z f _ _ _ q3 (s1.trans (s2.trans (s3.trans (.same W3.ay (bQ hp))))) (.tup (W3.fresh hp) aR (hd.cut.keep (bq.of (bQ hp))))
theorem Ev.Xg(h:Ev G ρ ta fun f x=>∃ds,x= .tuple ds/\ds≠[]/\Ev G ρ tb fun g y=>∃es,y= .tuple es/\es≠[]/\ds.length+es.length<=10000/\Φ (f && g) (.tuple (ds++es))):Ev G ρ (cZ (W7 K) ta tb) Φ:=fun nb σ H Q W z=>
 h nb σ H _ W fun f v H1 d ⟨ds,e,hne,q⟩ s1 hv=>q nb σ H1 _ (W.step s1) fun g u H2 d2 ⟨es,e2,Mq,hl,p⟩ s2 hu=>by
  subst e e2
  obtain⟨a,xs,rfl,n,hx,hd⟩:=(hv.keep s2.cR).ofT
  obtain⟨c,ys,rfl,m,hy,hc⟩:=hu.ofT
  have W2:=(W.step s1).step s2
  have sM:=hd.length
  have hyl:=hc.length
  refine⟨a,c,xs,ys,rfl,rfl, .of hx, .of hy,fun z=>hne (oF.mp (by rw[<-sM,z];rfl)),dB (by rw[sM,hyl];exact hl) (by decide),fun z=>absurd (oF.mp (by rw[<-hyl,z];rfl)) Mq,fun _ q hq=>?_⟩
  refine z (f && g) _ _ _ p (s1.trans (s2.trans (.same W2.ay (bQ hq)))) (.tup (W2.fresh hq) aR ?_)
  exact(af.append (hd.av (cJ (fun z=>(er _ _▸z).1) fun _ z=>z)) (hc.av (cJ (fun z=>(er _ _▸z).2) fun _ z=>z))).keep (bq.of (bQ hq))
end
end L2
set_option maxRecDepth 100000
set_option maxHeartbeats 4000000
namespace L2
open PySem PySem.Spec PyProof.Rows
def vH(es:List Fd):Bool:=es.all fun e=>e.1||gX e.2
section
variable{G:Gx}{ρ:Rh}{Φ:Pd}{t:TA}{te:TE}
theorem ki.FN{nb:Addr->Prop}{H:Hp}:∀{es:List Fd} {vs:List V} {f:Bool},ki G nb H es vs->(f=true->vH es=true)->af (G.S nb f) H (es.map (·.2)) vs
  |[],_,_,h,_=>by unfold ki at h;subst h;exact .nil
  | e :: es, _, f, h, hf => by
    obtain⟨v,ws,rfl,h1,h2⟩:=h
    have hh:f=true->(e.1||gX e.2)=true/\vH es=true:=fun z=>by
      have:=hf z
      unfold vH at this
      rw[mq,er] at this
      exact this
    refine .cons ?_ (h2.FN fun z=>(hh z).2)
    cases hs:gX e.2 with
    |true=>exact h1.g5 hs
    |false=>exact h1.av (cJ (fun z=>by have:=(hh z).1;rw[hs,nD] at this;exact this) fun _ z=>z)
theorem Ev.Ow(h:Av G ρ t fun es=>es.length<=10000/\Φ (vH es) (.tuple (es.map (·.2)))):Ev G ρ (qG t) Φ:=fun nb σ H Q W z=>
 h nb σ H _ W fun es vs H1 ⟨hl,p⟩ s1 q1=>⟨dB (by rw[q1.len];exact hl) (by decide),fun a ha=>z _ _ _ _ p (s1.trans (.same (W.step s1).ay (bQ ha)))
  (.tup ((W.step s1).fresh ha) aR ((q1.FN fun z=>z).keep (bq.of (bQ ha))))⟩
end
def Mm:R2:=fun x y H Q=>∃a b:Bool,x= .bl a/\y= .bl b/\Q (.bl (!(a==b))) H
theorem Ev.Xi{G:Gx}{ρ:Rh}{ta:TE}{b:Bool}{Φ:Pd}(h:Ev G ρ ta fun _ x=>∃a,x= .bool a/\Φ true (.bool (!(a==b)))):Ev G ρ (cZ Mm ta (tC (.bl b))) Φ:=fun nb σ H Q W z=>
 h nb σ H _ W fun f v H1 d ⟨a,e,q⟩ s1 hv=>by
  subst e
  unfold ai at hv
  subst hv
  exact⟨a,b,rfl,rfl,z true _ H1 _ q s1 (.bl _)⟩
theorem Pc{α:Type}{xs:List α}{k:Int}(h0:0<=k):gQ xs none (some k)=xs.take k.toNat:=by
 by_cases h:k<=xs.length
 ·exact GN h0 h
 ·unfold gQ HT.dO
  simp only[uC,yQ]
  rw[wz (by first|omega|(split<;>omega)),wz (by omega)]
abbrev aB(r:List Int):PyData:= .list (r.map .int)
def dG(p k c:Int)(row:List Int):aN:=((row++(if 0<c then[k+c-1] else[])).map fun x=>(x,(1:Int)))++[(k+c,p-1)]
def fL(p k:Int)(rows:List (List Int)):List aN:=(List.range rows.length).map fun(c:Nat)=>dG p k c (rows.getD c [])
def kG(k:Int)(r:List Int):Prop:=(r.Pairwise fun a b=>a<b)/\(∀x∈r,0<=x/\x<k)/\r.length<=200
end L2
set_option maxRecDepth 100000
set_option maxHeartbeats 4000000
namespace L2
open PySem PySem.Spec PyProof.Rows
theorem LP(rows:List (List Int)):SeqAt.shaped (.list (rows.map aB))=true:=by
  have h:PyData.depthAll (rows.map aB)<=1/\PyData.canLayAll0 (rows.map aB)=true:=by
    induction rows with
    |nil=>simp[PyData.depthAll,PyData.canLayAll0]
    | cons r rs ih =>
      have h2:=uq (r.map some)
      have e:(r.map some).map gY=r.map PyData.int:=by rw[fO];rfl
      rw[e] at h2
      simp[PyData.depthAll,PyData.depth,PyData.canLayAll0,PyData.canLay0,h2.1,h2.2,ih.2]
      have:=ih.1
      omega
  unfold SeqAt.shaped
  simp[PyData.canLay0,PyData.depth,h.2]
  have:=h.1
  omega
end L2
set_option maxRecDepth 100000
namespace L2
open PySem PySem.Spec PyProof.Rows
section
variable{κ:Type}[DecidableEq κ]
def g8(kvs:List (κ×V))(k:κ):Option V:=(kvs.find? fun kv=>decide (kv.1=k)).map (·.2)
def putK(kvs:List (κ×V))(k:κ)(v:V):List (κ×V):=
 if(kvs.any fun kv=>decide (kv.1=k))=true then kvs.map (fun kv=>if kv.1=k then(kv.1,v) else kv) else kvs++[(k,v)]
theorem NW{k:κ}:g8 ([]:List (κ×V)) k=none:=rfl
theorem vh{p:κ×V}{r:List (κ×V)}{k:κ}(e:p.1=k):g8 (p::r) k=some p.2:=by simp[g8,mD,e]
theorem ug{p:κ×V}{r:List (κ×V)}{k:κ}(e:¬p.1=k):g8 (p::r) k=g8 r k:=by simp[g8,mD,e]
theorem Ab(k:κ):∀kvs:List (κ×V),(kvs.any fun kv=>decide (kv.1=k))=(g8 kvs k).isSome
  |[]=>rfl
  | p :: r => by
    rw[k9]
    by_cases e:p.1=k
    · simp only[vh e,decide_eq_true e,Bool.true_or,Option.isSome_some]
    · rw[ug e,decide_eq_false e,rQ];exact Ab k r
theorem EN(kvs:List (κ×V))(k:κ)(v:V):(putK kvs k v).length<=kvs.length+1:=by
 unfold putK
 split
 ·rw[aj];omega
 ·rw[fF,fE,List.length_nil];omega
theorem gV.tO{o:Option V}{u:Option Value}(r:gV o u):o.isSome=u.isSome:=by
  cases o with
  | none => cases u with
    |none=>rfl
    |some _=>exact(show False from r).elim
  | some _ => cases u with
    |none=>exact(show False from r).elim
    |some _=>rfl
theorem KV.val{kvs:List (κ×V)}{vs:List (κ×Value)}(r:KV kvs vs)(k:κ):gV (g8 kvs k) (valueAt vs k):=by
  unfold KV at r
  induction r with
  |nil=>exact True.intro
  | @cons p q ps qs h t ih =>
    obtain⟨h1,h2⟩:=h
    by_cases e:p.1=k
    · have e':q.1=k:=h1.symm.trans e
      have b:valueAt (q::qs) k=some q.2:=by simp[valueAt,mD,e']
      rw[vh e,b];exact h2
    · have e':¬q.1=k:=fun z=>e (h1.trans z)
      have b:valueAt (q::qs) k=valueAt qs k:=by simp[valueAt,mD,e']
      rw[ug e,b];exact ih
theorem KV.any{kvs:List (κ×V)}{vs:List (κ×Value)}(r:KV kvs vs)(k:κ):(kvs.any fun kv=>decide (kv.1=k))=vs.any fun kv=>decide (kv.1=k):=by
 unfold KV at r
 induction r with
 |nil=>rfl
 |cons h t ih=>rw[k9,k9,ih,h.1]
theorem KV.repl{kvs:List (κ×V)}{vs:List (κ×Value)}(r:KV kvs vs)(k:κ){y:V}{u:Value}(ry:RelV y u):
    KV (kvs.map fun kv=>if kv.1=k then(kv.1,y) else kv) (vs.map fun kv=>if kv.1=k then(kv.1,u) else kv):=by
  unfold KV at r⊢
  induction r with
  |nil=>exact .nil
  | @cons p q ps qs h t ih =>
    rw[bh,bh]
    refine .cons ?_ ih
    obtain⟨h1,h2⟩:=h
    by_cases e:p.1=k
    · rw[if_pos e,if_pos (h1.symm.trans e)];exact⟨h1,ry⟩
    · rw[if_neg e,if_neg (fun z=>e (h1.trans z))];exact⟨h1,h2⟩
theorem KV.put{kvs:List (κ×V)}{vs:List (κ×Value)}(r:KV kvs vs)(k:κ){y:V}{u:Value}(ry:RelV y u):KV (putK kvs k y) (stored vs k u):=by
 unfold putK stored
 rw[r.any k]
 by_cases e:(vs.any fun kv=>decide (kv.1=k))=true
 ·rw[if_pos e,if_pos e];exact r.repl k ry
 ·rw[if_neg e,if_neg e];exact Paired.snoc r ⟨rfl,ry⟩
theorem KV.keys{kvs:List (κ×V)}{vs:List (κ×Value)}(r:KV kvs vs):kvs.map (·.1)=vs.map (·.1):=by
 unfold KV at r
 induction r with
 |nil=>rfl
 |cons h t ih=>rw[bh,bh,ih,h.1]
theorem KV.length{kvs:List (κ×V)}{vs:List (κ×Value)}(r:KV kvs vs):kvs.length=vs.length:=Paired.length r
end
theorem o6{P:Program}{w:World}{k:Key}{u:Value}(r:RelV (kV k) u):(c9 P w).is k u=true:=by
 cases k with
 |inl i=>obtain⟨t,e⟩:=(show∃t,u=Value.int i t from r);subst e;exact Sh P w i t
 |inr x=>obtain⟨t,e⟩:=(show∃t,u=Value.str x t from r);subst e;exact MP P w x t
theorem HM{P:Program}{w:World}:∀{ks:List Key} {us:List Value},Vals (ks.map kV) us->ItemsAre (c9 P w) ks us
  |[],_,r=>by rw[oq] at r;cases r;exact .nil
  | k :: ks, _, r => by
    rw[bh] at r
    cases r with
    |cons h t=>exact .cons (o6 h) (HM t)
abbrev KT(H:Hp):List (List Key×V)->List (List Key×Addr×Value)->Prop:=Paired fun p q=>p.1=q.1/\H q.2.1=some (.tup (p.1.map kV))/\RelV p.2 q.2.2
theorem KT.val{H:Hp}{kvs:List (List Key×V)}{xs:List (List Key×Addr×Value)}(r:KT H kvs xs)(k:List Key):gV (g8 kvs k) ((atKey xs k).map (·.2)):=by
  induction r with
  |nil=>exact True.intro
  | @cons p q ps qs h t ih =>
    obtain⟨h1,_,h2⟩:=h
    by_cases e:p.1=k
    · have e':q.1=k:=h1.symm.trans e
      have b:atKey (q::qs) k=some q.2:=by simp[atKey,mD,e']
      rw[vh e,b];exact h2
    · have e':¬q.1=k:=fun z=>e (h1.trans z)
      have b:atKey (q::qs) k=atKey qs k:=by simp[atKey,mD,e']
      rw[ug e,b];exact ih
section
variable{P:Program}{w:World}{H:Hp}{h:Heap}{a:Addr}
theorem GV{u:HO}(ok:cX P w H h)(e:Rd H a u):bK P w H h a u:=e.ok ok
theorem mP{kvs:List (Key×V)}(ok:cX P w H h)(e:Rd H a (.dK kvs)):kvs.length<=sizeLine/\(a==sysModules)=false/\∃vs,KV kvs vs/\h.DictOf (c9 P w) a vs:=
 show bK P w H h a (.dK kvs) from GV ok e
theorem DT{kvs:List (Key×V)}(ok:cX P w H h)(e:H a=some (.dK kvs)):kvs.length<=sizeLine/\(a==sysModules)=false/\∃vs,KV kvs vs/\h.DictOf (c9 P w) a vs:=mP ok (.inl e)
theorem xB{ks:List Key}(ok:cX P w H h)(e:H a=some (.tup (ks.map kV))):(tupleKind (c9 P w)).is h ks a:=by
 obtain⟨_,its,r,o,h1,h2,n,h3⟩:=(show bK P w H h a (.tup (ks.map kV)) from ok a _ e)
 exact⟨o,its.toArray,n,h1,h2,h3,by simpa using HM r⟩
theorem Gb{kvs:List (List Key×V)}(ok:cX P w H h)(e:Rd H a (.dT kvs)):kvs.length<=sizeLine/\(a==sysModules)=false/\
    ∃xs,KT H kvs xs/\h.DictOfH (tupleKind (c9 P w)) a xs:=by
  obtain⟨z,y,xs,r,o,es,ep,h1,h2,h3,h4,h5⟩:=(show bK P w H h a (.dT kvs) from GV ok e)
  refine⟨z,y,xs,r,o,es,ep,h1,h2,h3,h4,fun x hx=>?_,h5⟩
  have all:∀{l:List (List Key×V)} {m:List (List Key×Addr×Value)},KT H l m->∀x∈m,(tupleKind (c9 P w)).is h x.1 x.2.1:=by
    intro l m q
    induction q with
    |nil=>intro x hx;exact nomatch hx
    | @cons p q ps qs hq t ih =>
      intro x hx
      rcases aP.mp hx with e|hx
      · subst e
        exact xB ok (by rw[<-hq.1];exact hq.2.1)
      · exact ih x hx
  exact all r x hx
end
def Az(H:Hp)(a:Addr)(y:V)(r:Option V):Prop:=
 (∃kvs k,Rd H a (.dK kvs)/\y=kV k/\r=g8 kvs k)\/∃kvs k b,Rd H a (.dT kvs)/\y= .ref b/\H b=some (.tup (k.map kV))/\r=g8 kvs k
section
variable{X:Cx}{pins:List (Addr×Obj)}{σ:St}{H:Hp}{s:Shared}{a:Addr}{y v:V}{u r:Value}{o:Option V}{A:Around}{E:Value->Shared->Prop}
theorem Inv.big(I:Inv X pins σ H s):sysModules<s.heap.objs.size:=by
 have h:mainGlobals<s.heap.objs.size:=(I.mod.glob.keeps I.bk).lt
 exact mJ (by decide) h
theorem MA{Q:Value->Shared->Prop}(hu:A.units+1<cLine)(I:Inv X pins σ H s)(g:Az H a y o)(ry:RelV y u)(h:∀s',Inv X pins σ H s'->Q (.bool o.isSome) s'):
  wpAny (model X.prog X.w) A (compareOp .In u (.ref a)) Q E s:=by
 rcases g with ⟨kvs,k,e,ey,l⟩|⟨kvs,k,b,e,ey,eb,l⟩
 ·subst ey
  obtain⟨z,hd,vs,rel,dd⟩:=mP I.hok e
  refine wpAny_in_of (o6 ry) hd dd.mapOf ?_
  rw[<-(rel.val k).tO,<-l]
  exact h _ (I.tok _)
 ·subst ey
  cases (show u=Value.ref b from ry)
  obtain⟨z,hd,xs,rel,dd⟩:=Gb I.hok e
  refine wpAny_in_heap (tupleKind_room_in1 hu) (xB I.hok eb) hd dd ?_
  have q:=(rel.val k).tO
  rw[Aa] at q
  rw[<-q,<-l]
  exact h _ (I.tok _)
theorem NJ{Q:Value->Shared->Prop}(hu:A.units+1<cLine)(I:Inv X pins σ H s)(g:Az H a y o)(ry:RelV y u)(h:∀s',Inv X pins σ H s'->Q (.bool (!o.isSome)) s'):
  wpAny (model X.prog X.w) A (compareOp .NotIn u (.ref a)) Q E s:=by
 rcases g with ⟨kvs,k,e,ey,l⟩|⟨kvs,k,b,e,ey,eb,l⟩
 ·subst ey
  obtain⟨z,hd,vs,rel,dd⟩:=mP I.hok e
  refine wpAny_notIn_of (o6 ry) hd dd.mapOf ?_
  rw[<-(rel.val k).tO,<-l]
  exact h _ (I.tok _)
 ·subst ey
  cases (show u=Value.ref b from ry)
  obtain⟨z,hd,xs,rel,dd⟩:=Gb I.hok e
  refine wpAny_notIn_heap (tupleKind_room_in1 hu) (xB I.hok eb) hd dd ?_
  have q:=(rel.val k).tO
  rw[Aa] at q
  rw[<-q,<-l]
  exact h _ (I.tok _)
theorem Ld{h':Heap}{t':Nat}{ob:HO}(I:Inv X pins σ H s)(mu:qE (H a))(hs:Heap.SameBut a s.heap h')(he:∃q,h'.get? a=some q)(new:bK X.prog X.w (upd H a ob) h' a ob):
  Inv X pins σ (upd H a ob) {s with heap:=h',toks:=t'}:=
 I.write (x:=a) (e:=a) mu (.inl rfl) (fun b q hb z=>(hs.2 b hb).trans z) he new
theorem HF{P:Program}{w:World}{H':Hp}{h':Heap}{kvs:List (Key×V)}{vs:List (Key×Value)}(z:kvs.length<=sizeLine)(hd:(a==sysModules)=false)(rel:KV kvs vs)(dd:h'.DictOf (c9 P w) a vs):
  bK P w H' h' a (.dK kvs):=⟨z,hd,vs,rel,dd⟩
end
section
variable{X:Cx}{pins:List (Addr×Obj)}{σ:St}{H:Hp}{s:Shared}{a:Addr}{kvs:List (Key×V)}{k:Key}{u:Value}{A:Around}{E:Value->Shared->Prop}
theorem RQ{Q:Value->Shared->Prop}(I:Inv X pins σ H s)(e:Rd H a (.dK kvs))(h:∀t s',Inv X pins σ H s'->Q (.int kvs.length t) s'):wpAny (model X.prog X.w) A (call (.builtin "len") [.ref a]) Q E s:=by
 obtain⟨z,hd,vs,rel,dd⟩:=mP I.hok e
 refine call_len_dict hd dd (by rw[<-rel.length];rw[sizeLine_eq] at z;omega) ?_
 rw[<-rel.length]
 exact h _ _ (I.tok _)
end
theorem P7{P:Program}{w:World}{H:Hp}(h:Heap)(hb:sysModules<h.objs.size):bK P w H (h.push {cls:= .type "dict",data:= .dict #[]}) h.objs.size (.dK []):=
 ⟨eU _,beq_eq_false_iff_ne.mpr (bu (cG hb)),[], .nil,Heap.DictOf.new h⟩
def Jo:TE:=fun _ H Q=>∀p,H p=none->Q (.ref p) (upd H p (.dK []))
section
variable{X:Cx}{pos:Pos}
theorem Vl:PE X (.Dict [] [] pos) Jo:=fun pins s σ H Q I h=>
 wpAny_Dict_empty ⟨.ref s.heap.objs.size,_,I.laid (a:=s.heap.objs.size) (o:= .dK []) (t':=s.toks) (fun _ _ q=>bH _ q) (aS _) (P7 s.heap I.big),rfl,h _ (I.hok.fresh (aS _))⟩
end
def lW(kvs more:List (Key×V)):List (Key×V):=more.foldl (fun acc kv=>putK acc kv.1 kv.2) kvs
theorem KV.merge:∀{more:List (Key×V)} {rs:List (Key×Value)} {kvs:List (Key×V)} {vs:List (Key×Value)},KV more rs->KV kvs vs->KV (lW kvs more) (merged vs rs):=by
  intro more rs kvs vs r
  unfold KV at r
  induction r generalizing kvs vs with
  |nil=>intro q;exact q
  | @cons p q ps qs h t ih =>
    intro r0
    have e:KV (putK kvs p.1 p.2) (stored vs q.1 q.2):=by
      have:=r0.put p.1 h.2
      rw[<-h.1];exact this
    exact ih e
theorem Js:∀(more kvs:List (Key×V)),(lW kvs more).length<=kvs.length+more.length
  |[],kvs=>by show kvs.length<=kvs.length+0;omega
  | p :: r, kvs => by
    have h1:=Js r (putK kvs p.1 p.2)
    have h2:=EN kvs p.1 p.2
    show(lW (putK kvs p.1 p.2) r).length<=_
    rw[fE];omega
end L2
/-THE LAST THEOREM (shape;LID,My.*are yours):
   My.Adr:a structure of the addresses that your layer names (classes,functions);My.Txt K t:a structure (Prop) of the equations over K;
   My.txt_mk:{K} {implicit addresses ..} (e1:nsIn K mainGlobals "law"=some (some (.ref f))) (e2:K.lookup f=some ⟨oc,od, .func (fnOf "law" "law" params body scope dV kV doc pm an cdv ct),sl⟩) (e3:codeIn K cdv "law"=true) .. :∃t,My.Txt K t
set_option maxRecDepth 100000 in
set_option maxHeartbeats 0 in
(the tactic k_is has no namespace:write k_is)-/
set_option maxRecDepth 100000
set_option maxHeartbeats 4000000
namespace L2
open PySem PySem.Spec PyProof.Rows
section
variable{prog:Program}{w:World}{A:Around}{E:Value->Shared->Prop}{s:Shared}
theorem SN{T:String}{r d:Addr}{n:Nat}{P:Nat->Value->Prop}{OK:Heap->Prop}{Q:List Value->Shared->Prop}(K:PySem.W.KdlSrc prog w T r d n P OK)(hh:A.handled=none)(hok:OK s.heap)(hn:n<=sizeLine)
  (hQ:∀h' tk' items,(∀b o,s.heap.get? b=some o->h'.get? b=some o)->s.heap.objs.size<=h'.objs.size->items.length=n->(∀(i:Nat) v,items[i]?=some v->P i v)->Q items {s with heap:=h',toks:=tk'}):wpAny (model prog w) A (collect (.ref r)) Q E s:=by
 obtain⟨lr,ld⟩:=K.there _ hok
 unfold collect
 refine wpAny_bind (wpAny_runValue (codeAny_builtin E7 ?_))
 rw[kY HU _]
 show wpAny _ A.in1 (newList []>>=fun l=>again (.builtin "list.__iadd__" ⟨[l, .ref r],[]⟩)) _ _ s
 refine wpAny_bind (wpAny_newObj_type ?_)
 refine wpAny_pure ⟨plainId_quiet tS _,codeAny_builtin Ea ?_⟩
 rw[kY tS _]
 have gL:(s.heap.push ({cls:= .type "list",data:= .seq ([]:List Value).toArray}:Obj)).get? s.heap.objs.size=some {cls:= .type "list",data:= .seq ([]:List Value).toArray}:=dX _ rfl
 show wpAny _ A.in1 (Builtin.List.listExtendWith (.ref s.heap.objs.size) (.ref r) (.ref s.heap.objs.size)) _ _ {s with heap:=s.heap.push ({cls:= .type "list",data:= .seq ([]:List Value).toArray}:Obj)}
 refine PySem.W.kdl_extend (A:=A) (R:=fun r s'=>match r with
    | .ok (.ret v)=>wpAny (model prog w) A (match v with| .ref x=>(do match(<-load x).data with| .seq xs _=>pure xs.toList|_=>unsupported "internal:collect")|_=>unsupported "internal:collect") Q E s'
    | .ok _=>False
    | .error e=>E e s') (s:={s with heap:=s.heap.push ({cls:= .type "list",data:= .seq ([]:List Value).toArray}:Obj)}) K hh (K.keep _ _ hok fun b _ o e=>bH _ e) s.heap.objs.size (oA lr) (oA ld) _ _ gL (fun h' tk acc' c' hk hS hacc=>?_) hn
 refine wpAny_bind (wpAny_load hS (wpAny_pure ?_))
 refine hQ h' tk acc'.toList (fun b o e=>hk b o (cG (bw e)) (bH _ e)) (je (bw hS)) (by rw[jZ];exact hacc.1) fun i v e=>hacc.2 i v (by rw[<-oH];exact e)
theorem QU{a:Addr}{vs:List (Key×Value)}{ms:List Int}{Q:Value->Shared->Prop}(hh:A.handled=none)(lo:(a==sysModules)=false)(hd:s.heap.DictOf (c9 prog w) a vs)(hk:vs.map (·.1)=ms.map Sum.inl)(h64:ms.length<64)
    (h:∀h' tk' (l:Addr) (out:List Value) (ns:List Int) (e:Nat),(∀b o,s.heap.get? b=some o->h'.get? b=some o)->s.heap.objs.size<=l->h'.get? l=some (seqObj "list" out.toArray e)->IntsAre out ns->ns.Pairwise (· <= ·)->ns.Perm ms->
      Q (.ref l) {s with heap:=h',toks:=tk'}):wpAny (model prog w) A (call (.builtin "sorted") [.ref a]) Q E s:=by
  obtain⟨ep,hat⟩:=hd.dictAt
  have hvl:vs.length=ms.length:=by have:=congrArg List.length hk;simpa using this
  refine Eg kind_sorted plain_sorted entry_sorted (args_sorted1 _) ?_
  unfold Builtin.«sorted»
  refine wpAny_bind (m:=checkCount "sorted" 1 1 _) (wpAny_pure (wpAny_bind ?_))
  refine SN (A:=A.in1) (PySem.W.kdl_dict lo) hh hat (by rw[hvl];exact dB (je h64) (by decide)) fun h1 yq items k1 k2 hil hit=>?_
  have hI:IntsAre items ms:=by
    have key:∀(its:List Value) (us:List (Key×Value)) (ms:List Int),us.map (·.1)=ms.map Sum.inl->its.length=us.length->(∀(i:Nat) v,its[i]?=some v->∃k x,us[i]?=some (k,x)/\(c9 prog w).is k v=true)->IntsAre its ms:=by
      intro its
      induction its with
      | nil =>
        intro us ms e l _
        cases us with
        | nil => cases ms with
          |nil=>exact .nil
          |cons _ _=>cases e
        |cons _ _=>cases l
      | cons v its ih =>
        intro us ms e l hp
        cases us with
        |nil=>cases l
        | cons u us => cases ms with
          |nil=>cases e
          | cons m ms =>
            have e1:u.1=Sum.inl m:=by injection e
            have e2:us.map (·.1)=ms.map Sum.inl:=by injection e
            obtain⟨k,x,q1,q2⟩:=hp 0 v rfl
            have q1:u=(k,x):=by simpa using q1
            subst q1
            have e1:k=Sum.inl m:=e1
            subst e1
            obtain⟨t,rfl⟩:=rL (k:=m) (v:=v) q2
            exact .cons m t (ih us ms e2 (by simpa using l) fun i v q=>by simpa using hp (i+1) v (by simpa using q))
    exact key items vs ms hk hil hit
  have hlen:items.length=ms.length:=by rw[hil,hvl]
  refine wpAny_bind (wpAny_newList ?_)
  have gL:(h1.push (seqObj "list" items.toArray 0)).get? h1.objs.size=some (seqObj "list" items.toArray 0):=dX _ rfl
  refine wpAny_bind (wpAny_holding (wpAny_call_entry slot_list_sort ⟨_,gL,rfl⟩ entry_list_sort (list_sort_tree gL hI (by omega) fun out ns' a1 a2 a3=>⟨_,rfl,?_⟩) (args_list_sort _)))
  obtain⟨e,he⟩:=sortedHeap_at (out:=out) gL
  refine wpAny_pure ⟨_,rfl,h _ yq h1.objs.size out.toList ns' e (fun b o q=>?_) k2 (by simpa using he) a1 a3 a2⟩
  have lb:=bw (k1 b o q)
  rw[sortedHeap_old (cG lb) (by rw[jW];exact oj lb)]
  exact bH _ (k1 b o q)
end
def yf:List V->Hp->VK->Prop:=fun xs H Q=>∃a,∃kvs:List (Key×V),∃ms:List Int,xs=[.ref a]/\Rd H a (.dK kvs)/\kvs.map (·.1)=ms.map Sum.inl/\ms.length<64/\
 ∀l (rs:List Int),H l=none->rs.Pairwise (· <= ·)->rs.Perm ms->Q (.ref l) (upd H l (.lst (rs.map V.int)))
theorem OI{X:Cx}(hc:X.calm=true):eS X (.builtin "sorted") yf:=by
 intro pins s σ H xs us Q I rv h
 obtain⟨a,kvs,ms,rfl,hH,hk,h64,q⟩:=h
 obtain⟨u,rfl,ru⟩:=vals1 rv
 cases ru
 obtain⟨z,hd,vs,rel,dd⟩:=mP I.hok hH
 refine QU (I.ok.hd hc) hd dd (by rw[<-rel.keys];exact hk) h64 fun h' tk' l out ns e kp hl gl hI pw pp=>?_
 have new:bK X.prog X.w (upd H l (.lst (ns.map V.int))) h' l (.lst (ns.map V.int)):=by
  refine⟨?_,out,e,xA hI,gl⟩
  rw[aj,pp.length_eq];exact dB (je h64) (by decide)
 exact⟨.ref l,_,I.laid (t':=tk') kp hl new,rfl,q _ _ (I.hok.fresh hl) pw pp⟩
section
variable{X:Cx}
def wI:R2:=fun x y H Q=>∃a kvs k v,x= .ref a/\y=kV k/\Rd H a (.dK kvs)/\g8 kvs k=some v/\Q v H
theorem QZ:kN X wI:=by
 intro value slice pins s σ H x y v u Q I rx ry h hs
 obtain⟨a,kvs,k,z,rfl,rfl,hH,hv,q⟩:=h
 cases rx
 obtain⟨hz,hd,vs,rel,dd⟩:=mP I.hok hH
 have hT:=dd.typeIs (s:=s)
 obtain⟨w',hw,rw'⟩:=gV.some_of (v:=z) (o:=valueAt vs k) (by rw[<-hv];exact rel.val k)
 unfold subscriptTail
 refine wpAny_bind ?_
 rw[getitemInPython_of_ne hT.not_modules]
 refine wpAny_bind (wpAny_specialOf hT PySem.F.slot_dict_getitem.lookup ?_)
 have fin:wpAny (model X.prog X.w) X.A (subscripted slice false (.ref a) u) (fun r s₃=>wpAny (model X.prog X.w) X.A (letTemporaryGo value (.ref a) r>>=fun _=>pure r) (EP X pins σ Q) X.xe s₃) X.xe s:=by
  rw[hs]
  refine wpAny_operating (wpAny_getItem_of (o6 ry) dd.mapOf hw ?_)
  exact wpAny_bind (wpAny_letTemporaryGo (wpAny_pure ⟨z,H,I.tok _,rw',q⟩))
 first
  |exact wpAny_pure (wpAny_bind fin)
  |exact wpAny_bind (wpAny_pure (wpAny_bind fin))
  |exact wpAny_bind fin
def Dt:V->V->V->Hp->(Hp->Prop)->Prop:=fun o i v H Q=>∃a kvs k,o= .ref a/\i=kV k/\H a=some (.dK kvs)/\kvs.length<sizeLine/\Q (upd H a (.dK (putK kvs k v)))
theorem set_dict:C3 X Dt:=by
 intro pins s σ H o i v ov iv u Q I ro ri rv h
 obtain⟨a,kvs,k,rfl,rfl,hH,Xp,q⟩:=h
 cases ro
 obtain⟨z,hd,vs,rel,dd⟩:=DT I.hok hH
 have hz:vs.length<=sizeLine:=by rw[<-rel.length];exact z
 have hl:(putK kvs k v).length<=sizeLine:=by have:=EN kvs k v;omega
 refine wpAny_setItem_pairs (hsz:=hz) (o6 ri) dd fun h' Hl hs=>?_
 have he:∃q,h'.get? a=some q:=let ⟨q,_,_,hq,_⟩:=Hl;⟨q,hq⟩
 exact⟨_,Ld I (by rw[hH];exact True.intro) hs he (HF hl hd (rel.put k rv) Hl),q⟩
end
end L2
set_option maxRecDepth 100000
set_option maxHeartbeats 4000000
set_option maxRecDepth 100000
set_option maxHeartbeats 4000000
namespace L2
abbrev Cn:=List (Int×Int)
structure Fo(cs:Cn):Prop where
 mY:∀c∈cs,0<=c.1/\c.1<=12/\0<=c.2/\c.2<=10^7
 nd:(cs.map (·.1)).Nodup
 len:cs.length<=14
 pos:∃c∈cs,0<c.1/\0<c.2
def JE:Cn->Rat->Rat
 |[],_=>0
 |c::r,v=>(if 0<c.1 then((c.1*c.2:Int):Rat)*v^(c.1.toNat-1) else 0)+JE r v
def Gn:Cn->Int
 |[]=>0
 |c::r=>c.1*c.2+Gn r
def Io(cs:Cn)(v:Rat):Rat:=JE cs v/(Gn cs:Int)
def WB(l c:Cn)(s v:Rat):Rat:=s*Io l (1-Io c (1-v))
section
variable{l c:Cn}{s:Rat}(hl:Fo l)(hc:Fo c)(s0:0<=s)
include hl hc s0
end
def Jr(x:Rat):Int:= -((-x).floor)
end L2
namespace L2
structure Gw where
 l:Cn
 c:Cn
 s:Rat
 u:Int
def Gw.gr(g:Gw)(x:Int):Rat:=WB g.l g.c g.s ((x:Rat)/g.u)*g.u
def Gw.lo(g:Gw):Nat->Int
 |0=>(g.s*g.u).floor
 |k+1=>(g.gr (g.lo k)).floor
def Gw.hi(g:Gw):Nat->Int
 |0=>Jr (g.s*g.u)
 |k+1=>Jr (g.gr (g.hi k))
end L2
set_option maxRecDepth 100000
set_option maxHeartbeats 4000000
namespace L2
open PySem PySem.Spec PyProof.Rows
@[reducible] def XX(g:Gw)(k:Nat):PyData:= .tuple [.int (g.lo k), .int (g.hi k)]
@[reducible] def Xo(n:Nat):PyData:= .tuple [.str "falls", .int n]
@[reducible] def XO(x:Int):PyData:= .tuple [.str "stays", .int x]
@[reducible] def XW:PyData:= .tuple [.str "open"]
def Pj(K:PySem.W.Frag)(n:Nat)(t:gU):TG:=fun v σ H Q=>∃a xs,v= .ref a/\aQ K H a xs/\xs.length=n/\t xs σ H Q
theorem Gv.lst{G:Gx}{ρ:Rh}{f:Bool}{ds:List PyData}{K:PySem.W.Frag}{Θ:Rh->Prop}{n:Nat}{u:gU}(hl:ds.length=n)(h:sY G ρ u f ds Θ):Gv G ρ (Pj K n u) f (.list ds) Θ:=fun nb σ H v Q W hv z=>by
 obtain⟨a,xs,rfl,m,hx,hd⟩:=hv.cQ
 exact⟨a,xs,rfl, .of hx,by rw[hd.length];exact hl,h nb σ H xs Q W hd z⟩
end L2
set_option maxRecDepth 100000
set_option maxHeartbeats 4000000
namespace L2
open PySem PySem.Spec PyProof.Rows PySem.W
section
variable{n:Nat}{cmp:Nat->Nat->(Bool->Shared->Prop)->Shared->Prop}{s:Shared}
variable(h0:0<n)(hc:∀i j C,i<n->j<n->(∀b,C b s)->cmp i j C s)
include h0 hc
end
theorem au.Fc{G:Gx}{ρ:Rh}{te tb:TE}{Θ:Bool->List PyData->Prop}(h:Ev G ρ te fun f d=>Ev G ρ tb fun _ y=>∃k,y= .int k/\k<=10000/\ -(10000)<=k/\∀g,Θ g (List.replicate k.toNat d)):au G ρ (cZ yC (nU (bR te cy)) tb) Θ:=fun nb σ H Q W z=>
 h nb σ H _ W fun f v H1 d' q s1 hv=>by
  refine⟨by show 1<=sizeLine;decide,fun p hp=>?_⟩
  have W1:=W.step s1
  have s2:Step G.B H1 (upd H1 p (.lst [v])):= .same W1.ay (bQ hp)
  refine q nb σ _ _ (W1.step s2) fun g u H2 d2 ⟨k,e2,h1,h2,p2⟩ s3 hu=>?_
  subst e2
  have hN:NB G.B p:=fun b l e z=>by
   subst z
   exact NB.lO (B:=G.B) (a:=p) s1.2 (fun z=>z _ _ e rfl) hp
  refine⟨p,k,[v],rfl,hu.bZ,s3.1 _ _ hN aR,by omega,by omega,?_,fun a ha=>?_⟩
  ·show 1*k.toNat<=sizeLine
   exact dB (show 1*k.toNat<=10000 by omega) (by decide)
  ·have hv2:=(hv.keep s2.cR).keep s3.cR
   have hd:af (G.S nb f) H2 (List.replicate k.toNat d') (List.replicate k.toNat [v]).flatten:=by
    induction k.toNat with
    |zero=>exact .nil
    |succ m ih=>rw[oh,oh,ql];exact .cons hv2 ih
   exact au.fin (f:=f) W (s1.trans (s2.trans s3)) ha hd (p2 _) z
end L2
set_option maxRecDepth 100000
set_option maxHeartbeats 4000000
namespace L2
open PySem PySem.Spec PyProof.Rows PySem.W
section
variable{n:Nat}{key:Nat->Int}{cmp:Nat->Nat->(Bool->Shared->Prop)->Shared->Prop}{s:Shared}
variable(h0:0<n)(hc:∀i j C,i<n->j<n->C (decide (key i<key j)) s->cmp i j C s)
include h0 hc
end
end L2
set_option maxRecDepth 100000
set_option maxHeartbeats 4000000
set_option maxRecDepth 100000
set_option maxHeartbeats 4000000
namespace L2
open PySem PySem.Spec PyProof.Rows
@[reducible] def Xk(l c:Cn)(u p:Int):Gw:=⟨l,c,(p:Rat)/u,u⟩
end L2
set_option maxRecDepth 100000
set_option maxHeartbeats 4000000
namespace L2
open PySem PySem.Spec PyProof.Rows
theorem Ev.lend{G:Gx}{ρ:Rh}{te:TE}{Φ:Pd}{a:Addr}{f:Bool}{ds:List PyData}(i:Nat)(e:ρ[i]?=some (.own a f ds))(h:Ev G (ρ.set i (.d f (.list ds))) te fun _ d=>gX d=true/\Φ true d):Ev G ρ te Φ:=fun nb σ H Q W z=>
 h _ σ H Q (Sv.share W e) fun f v H' d ⟨hs,p⟩ st hv=>z true v H' d p st (hv.g5 hs)
end L2
set_option maxRecDepth 100000
set_option maxHeartbeats 4000000
namespace L2
open PySem PySem.Spec PyProof.Rows
theorem T7:typeLookup (.type "list") "keys"=pure none:=by rw[typeLookup_type,builtinLookup_eq_fast];kernel_rfl
theorem ND:typeLookup (.type "list") "__getattr__"=pure none:=by rw[typeLookup_type,builtinLookup_eq_fast];kernel_rfl
section
variable{prog:Program}{w:World}{A:Around}{E:Value->Shared->Prop}{h:Heap}{g:Array GenState}{d:Drawn}{t:Nat}{os:OsState}{a:Addr}{o:Obj}
theorem M7{tk:Tok}{Q:Fin->Shared->Prop}{xs:Array Value}{n:Nat}(hh:A.handled=none)(hx:h.get? a=some (seqObj "list" xs n))
  (hq:∀h' tk e,Heap.NewAttrErr h h' e (.ref a) "keys" ->E (.ref e) ⟨h',g,d,tk,os⟩):
  wpAny (model prog w) A (Builtin.«object.__getattribute__» ⟨[.ref a, .str "keys" tk],[]⟩) Q E ⟨h,g,d,t,os⟩:=by
 have hT:(⟨h,g,d,t,os⟩:Shared).TypeIs (.ref a) "list":=⟨_,hx,rfl⟩
 have f4:=T7
 unfold Builtin.«object.__getattribute__»
 repeat (any_goals (first|assumption|wp_step))
 exact wpAny_raiseAttrError hh hq (attrMsg_fits (by decide+kernel) (by size_fits))
theorem Qf{tk:Tok}{R:Result->Shared->Prop}{xs:Array Value}{n:Nat}(hh:A.handled=none)(hx:h.get? a=some (seqObj "list" xs n))(hq:∀h' tk e,Heap.NewAttrErr h h' e (.ref a) "keys" ->R (.error (.ref e)) ⟨h',g,d,tk,os⟩):
  codeAny (model prog w) A (.call (.builtin "list.__getattribute__") ⟨[.ref a, .str "keys" tk],[]⟩) R ⟨h,g,d,t,os⟩:=
 codeAny_call_builtin tY.plain PySem.F.entry_list_ga (tY.check _ _ _ _ _ _ _ _ (show(⟨h,g,d,t,os⟩:Shared).TypeIs (.ref a) "list" from⟨_,hx,rfl⟩) (PySem.F.args_list_getattribute_2 _ _) (M7 (by exact hh) hx hq))
theorem Ui{Q:Option Value->Shared->Prop}{xs:Array Value}{n:Nat}(hh:A.handled=none)(hx:h.get? a=some (seqObj "list" xs n))
  (hq:∀h' tk,(∀b ob,h.get? b=some ob->h'.get? b=some ob)->Q none ⟨h',g,d,tk,os⟩):wpAny (model prog w) A (getAttr? (.ref a) "keys") Q E ⟨h,g,d,t,os⟩:=by
 have hT:(⟨h,g,d,t,os⟩:Shared).TypeIs (.ref a) "list":=⟨_,hx,rfl⟩
 have f1:=sub_AttributeError
 have f2:=tY.lookup
 have f3:=tY.bind (.ref a)
 have f5:=ND
 unfold getAttr? getAttrBy? getAttrBy
 repeat (any_goals (first|assumption|wp_step))
 refine Qf hh hx fun h' tk e hx'=>?_
 obtain⟨t',u',he⟩:=hx'.there
 unfold getattributeRaised
 repeat (any_goals (first|assumption|wp_step))
 exact hq _ _ hx'.keeps
end
end L2
set_option maxRecDepth 100000
set_option maxHeartbeats 4000000
namespace L2
open PySem PySem.Spec PyProof.Rows
theorem IZ:entryFor table "dict.update.loop"=some Builtin.«dict.update.loop» :=entryFor_of_tree (by kernel_rfl)
theorem wu:plainId "dict.update.loop"=true:=by decide+kernel
def uY(P:Program)(w:World)(h:Heap)(v:Value)(p:Key×Value):Prop:=∃a o m ku,v= .ref a/\h.get? a=some o/\o.cls= .type "tuple" /\o.data= .seq #[ku,p.2] m/\(c9 P w).is p.1 ku=true
section
variable{prog:Program}{w:World}{A:Around}{E:Value->Shared->Prop}{s:Shared}
theorem WV{R:Result->Shared->Prop}{d it l:Addr}{its:List Value}{ps:List (Key×Value)}(hh:A.in1.handled=none)(hdl:d≠l)(hdi:d≠it)(hil:l≠it)(hlen:its.length=ps.length)(hsz:its.length<=10000):
    ∀(k i:Nat) (s:Shared) (t:Tok),its.length-i=k->i<=its.length->s.heap.IsListIter it l i->s.heap.IsList l its.toArray->(∀(j:Nat) (v:Value) (p:Key×Value),its[j]?=some v->ps[j]?=some p->uY prog w s.heap v p)->(∀(j:Nat) (v:Value),its[j]?=some v->v≠Value.ref d/\v≠Value.ref it)->
      s.heap.DictOf (c9 prog w) d (merged [] (ps.take i))->(merged [] (ps.take i)).length<=i->
      (∀h' tk,(∀b o,b≠d->b≠it->s.heap.get? b=some o->h'.get? b=some o)->h'.DictOf (c9 prog w) d (merged [] ps)->R (.ok (.ret .none)) {s with heap:=h',toks:=tk})->
      codeAny (model prog w) A (.builtin "dict.update.loop" ⟨[.ref d, .ref it, .int i t, .none],[]⟩) R s:=by
  intro k
  induction k with
  | zero =>
    intro i s t hk hi hit hl hp hne hD hDl hR
    have hin:i=its.length:=by omega
    subst hin
    refine codeAny_builtin IZ ?_
    rw[kY wu _]
    show wpAny _ A.in1 (pyNext (.ref it)>>=_) _ _ s
    refine wpAny_bind (wpAny_pyNext_list_end hh hit hl (by simp) fun h' he=>?_)
    show wpAny _ A.in1 (ret Value.none) _ _ _
    rw[hlen,eT] at hD
    exact wpAny_pure (hR h' s.toks (fun b o _ n e=>he b o n e) (hD.extBut he hdi))
  | succ k ih =>
    intro i s t hk hi hit hl hp hne hD hDl hR
    have hlt:i<its.length:=by omega
    obtain⟨v,hv⟩:∃v,its[i]?=some v:=⟨_,aD hlt⟩
    obtain⟨p,hpp⟩:∃p,ps[i]?=some p:=⟨_,aD (by omega)⟩
    obtain⟨hn1,hn2⟩:=hne i v hv
    obtain⟨a,o,m,ku,rfl,g1,g2,g3,g4⟩:=hp i v p hv hpp
    have had:a≠d:=fun z=>hn1 (by rw[z])
    have hai:a≠it:=fun z=>hn2 (by rw[z])
    refine codeAny_builtin IZ ?_
    rw[kY wu _]
    show wpAny _ A.in1 (pyNext (.ref it)>>=_) _ _ s
    refine wpAny_bind (wpAny_pyNext_list_item hit hl (x:= .ref a) (by simpa using hv) fun h1 LI CB=>?_)
    have kr:h1.get? a=some o:=(CB.2 a hai).trans g1
    have hT:(⟨h1,s.gens,s.drawn,s.toks,s.os⟩:Shared).TypeIs (.ref a) "tuple":=⟨o,kr,g2⟩
    show wpAny _ A.in1 (holding [Value.ref a] _>>=_) _ _ _
    refine wpAny_bind (wpAny_holding (wpAny_bind (wpAny_tryCatch ?_)))
    show wpAny _ A.in1 (Builtin.Dict.pairItems (.ref a)) _ _ _
    unfold Builtin.Dict.pairItems
    refine wpAny_bind (wpAny_typeOf hT ?_)
    rw[if_pos (by decide)]
    refine wpAny_bind (wpAny_seqItems kr g3 (wpAny_pure ?_))
    show wpAny _ A.in1 (holding [ku,p.2] (dictSet d ku p.2)) _ _ _
    have tD:h1.DictOf (c9 prog w) d (merged [] (ps.take i)):=hD.sameBut CB hdi
    refine wpAny_holding (wpAny_dictSet_pairs (s:=⟨h1,s.gens,s.drawn,s.toks,s.os⟩) g4 tD (fun h2 rV Hg=>?_) (dB hDl (dB hi (dB hsz (by decide)))))
    have e:stored (merged [] (ps.take i)) p.1 p.2=merged [] (ps.take (i+1)):=by rw[take_snoc hpp];unfold merged;rw[qp];rfl
    rw[e] at rV
    have kk:∀b o,b≠d->b≠it->s.heap.get? b=some o->h2.get? b=some o:=fun b o n1 n2 z=>(Hg.2 b n1).trans ((CB.2 b n2).trans z)
    refine wpAny_pure ⟨plainId_quiet wu _,ih (i+1) ⟨h2,s.gens,s.drawn,s.toks+1,s.os⟩ _ (by omega) hlt ?_ ?_ ?_ hne rV ?_ fun h' tk k' As=>?_⟩
    · exact LI.at fun o z=>(Hg.2 it (bu hdi)).trans z
    · exact hl.at fun o z=>kk l o (bu hdl) hil z
    · intro j v' p' hv' lN
      obtain⟨hn1,hn2⟩:=hne j v' hv'
      obtain⟨a,o,m,ku,rfl,q1,q2,q3,q4⟩:=hp j v' p' hv' lN
      exact⟨a,o,m,ku,rfl,kk a o (fun z=>hn1 (by rw[z])) (fun z=>hn2 (by rw[z])) q1,q2,q3,q4⟩
    · rw[<-e]
      unfold stored
      split
      · rw[aj];omega
      · rw[fF,lB];omega
    · exact hR h' tk (fun b o n1 n2 z=>k' b o n1 n2 (kk b o n1 n2 z)) As
theorem V7{l:Addr}{its:List Value}{n:Nat}{ps:List (Key×Value)}{Q:Value->Shared->Prop}(hh:A.handled=none)(hlo:s.heap.get? l=some (seqObj "list" its.toArray n))(hlen:its.length=ps.length)(hsz:its.length<=10000)
  (hp:∀(j:Nat) (v:Value) (p:Key×Value),its[j]?=some v->ps[j]?=some p->uY prog w s.heap v p)
  (h:∀h' tk,h'.DictOf (c9 prog w) s.heap.objs.size (merged [] ps)->(∀b o,s.heap.get? b=some o->h'.get? b=some o)->Q (.ref s.heap.objs.size) {s with heap:=h',toks:=tk}):
  wpAny (model prog w) A (call (.type "dict") [.ref l]) Q E s:=by
 refine callType_codes (Q₁:=fun obj s₁=>obj= .ref s.heap.objs.size/\s₁={s with heap:=s.heap.push {cls:= .type "dict",data:= .dict #[]}}) PySem.F.kt_called_dict (PySem.F.kt_typeCall_dict_1 _) PySem.F.entry_dict_init (kt_code_dict_new _ ⟨rfl,rfl⟩) ?_
 rintro obj s₁ ⟨rfl,rfl⟩
 have hnew:(s.heap.push {cls:= .type "dict",data:= .dict #[]}).DictOf (c9 prog w) s.heap.objs.size []:=Heap.DictOf.new s.heap
 have hl1:(s.heap.push {cls:= .type "dict",data:= .dict #[]}).get? l=some (seqObj "list" its.toArray n):=bH _ hlo
 have p5:l<s.heap.objs.size:=bw hlo
 refine⟨hnew.typeIs,PySem.F.args_dict_init_2 _ _,?_⟩
 unfold Builtin.«dict.__init__»
 refine wpAny_bind ?_
 unfold Builtin.Dict.selfAndRest
 refine wpAny_bind (wpAny_notOrdered_dict hnew.typeIs ?_)
 show wpAny _ _ (pure (s.heap.objs.size,[Value.ref l])) _ _ _
 refine wpAny_pure ?_
 show wpAny _ _ (Builtin.Dict.updateFrom "dict.__init__" s.heap.objs.size (.ref l) [] .none) _ _ _
 unfold Builtin.Dict.updateFrom
 refine wpAny_bind (wpAny_typeOf (T:="list") ⟨_,hl1,rfl⟩ ?_)
 rw[if_pos (by decide)]
 refine wpAny_bind (Ui (A:=A.in1.in1) hh hl1 fun h1 tk k1=>?_)
 rw[if_pos (show(none:Option Value).isNone=true from rfl)]
 refine wpAny_bind (wpAny_rule (wpAny_bind ?_))
 have hl2:h1.get? l=some (seqObj "list" its.toArray n):=k1 _ _ hl1
 have tD:h1.DictOf (c9 prog w) s.heap.objs.size []:=let ⟨o',es,ep,ho,r⟩:=hnew;⟨o',es,ep,k1 _ _ ho,r⟩
 have hs1:s.heap.objs.size<h1.objs.size:=by obtain⟨o',es,ep,ho,_⟩:=tD;exact bw ho
 have G2:h1.IsList l its.toArray:=⟨_,hl2,rfl,n,rfl⟩
 refine wpAny_pyIter_list G2 ?_
 refine wpAny_pure ⟨plainId_quiet wu _,?_⟩
 refine WV (A:=A.in1) (its:=its) (ps:=ps) hh (bu (cG p5)) (cG hs1) (cG (mJ p5 hs1)) hlen hsz its.length 0 _ _ (by omega) (eU _) ⟨_,dX _ rfl,rfl,rfl⟩ (G2.push _) ?_ ?_ (tD.push _) (aS _) fun h' tk' k' As=>?_
 ·intro j v p hv hpp
  obtain⟨a,o,m,ku,rfl,q1,q2,q3,q4⟩:=hp j v p hv hpp
  exact⟨a,o,m,ku,rfl,bH _ (k1 _ _ (bH _ q1)),q2,q3,q4⟩
 ·intro j v hv
  obtain⟨p,hpp⟩:∃p,ps[j]?=some p:=⟨_,aD (by have:=(bI.mp hv).1;omega)⟩
  obtain⟨a,o,m,ku,rfl,q1,_⟩:=hp j v p hv hpp
  have la:=bw q1
  refine⟨fun z=>?_,fun z=>?_⟩
  ·cases z;exact absurd la (iG _)
  ·have z':a=h1.objs.size:=by cases z;rfl
   rw[z'] at la
   exact absurd (mJ la hs1) (iG _)
 ·refine⟨rfl,h h' tk' As fun b o z=>?_⟩
  have lb:=bw z
  exact k' b o (cG lb) (cG (mJ lb hs1)) (bH _ (k1 _ _ (bH _ z)))
end
def AH:List V->Hp->VK->Prop:=fun xs H Q=>∃(l:Addr) (ys:List V) (kvs:List (Key×V)),xs=[.ref l]/\H l=some (.lst ys)/\ys.length=kvs.length/\ys.length<=10000/\
 (∀(j:Nat) (y:V) (p:Key×V),ys[j]?=some y->kvs[j]?=some p->∃a,y= .ref a/\H a=some (.tup [kV p.1,p.2]))/\∀d,H d=none->Q (.ref d) (upd H d (.dK (lW [] kvs)))
theorem Tu{X:Cx}(hc:X.calm=true):eS X (.type "dict") AH:=by
  intro pins s σ H xs us Q I rv h
  obtain⟨l,ys,kvs,rfl,hH,hlen,hsz,hy,q⟩:=h
  obtain⟨u,rfl,ru⟩:=vals1 rv
  cases ru
  obtain⟨_,its,n,rs,h1⟩:=(show bK X.prog X.w H s.heap l (.lst ys) from I.hok l _ hH)
  have hli:=rs.length
  have key:∃ps:List (Key×Value),KV kvs ps/\∀(j:Nat) (v:Value) (p:Key×Value),its[j]?=some v->ps[j]?=some p->uY X.prog X.w s.heap v p:=by
    have gen:∀(ys:List V) (its:List Value) (kvs:List (Key×V)),Vals ys its->ys.length=kvs.length->(∀(j:Nat) (y:V) (p:Key×V),ys[j]?=some y->kvs[j]?=some p->∃a,y= .ref a/\H a=some (.tup [kV p.1,p.2]))->∃ps:List (Key×Value),KV kvs ps/\∀(j:Nat) (v:Value) (p:Key×Value),its[j]?=some v->ps[j]?=some p->uY X.prog X.w s.heap v p:=by
      intro ys
      induction ys with
      | nil =>
        intro its kvs r e _
        cases r
        cases kvs with
        |nil=>exact⟨[], .nil,fun j v p z=>by simp at z⟩
        |cons _ _=>cases e
      | cons y ys ih =>
        intro its kvs r e hq
        cases r with
        | cons r1 r2 =>
          cases kvs with
          |nil=>cases e
          | cons kv kvs =>
            obtain⟨ps,g1,g2⟩:=ih _ kvs r2 (by simpa using e) fun j y p a b=>hq (j+1) y p (by simpa using a) (by simpa using b)
            obtain⟨a,rfl,ha⟩:=hq 0 y kv rfl rfl
            cases r1
            obtain⟨_,its2,oZ,o,w1,w2,m,w3⟩:=(show bK X.prog X.w H s.heap a (.tup [kV kv.1,kv.2]) from I.hok a _ ha)
            cases oZ with
            | cons x1 x2 =>
              cases x2 with
              | cons y1 y2 =>
                cases y2
                refine⟨(kv.1,_)::ps, .cons ⟨rfl,y1⟩ g1,fun j v p a b=>?_⟩
                cases j with
                | zero =>
                  simp at a b
                  subst a b
                  exact⟨_,o,m,_,rfl,w1,w2,w3,o6 x1⟩
                |succ j=>exact g2 j v p (by simpa using a) (by simpa using b)
    exact gen ys its kvs rs hlen hy
  obtain⟨ps,rel,hps⟩:=key
  have hpl:=rel.length
  refine V7 (I.ok.hd hc) h1 (by omega) (by omega) hps fun h' tk' hD k=>?_
  have hml:=Js kvs []
  have new:bK X.prog X.w (upd H s.heap.objs.size (.dK (lW [] kvs))) h' s.heap.objs.size (.dK (lW [] kvs)):=by
    refine HF (dB hml (dB (show _<=10000 by simp;omega) (by decide))) ?_ (rel.merge .nil) hD
    have hb:=I.big
    have:s.heap.objs.size≠sysModules:=oA hb
    simpa using this
  exact⟨.ref s.heap.objs.size,_,I.laid (t':=tk') k (aS _) new,rfl,q _ (I.hok.fresh (aS _))⟩
end L2
set_option maxRecDepth 100000
set_option maxHeartbeats 4000000
namespace L2
open PySem PySem.Spec PyProof.Rows
abbrev Ks:=List (Int×PyData)
def iN(ks:Ks)(k:Int):Option PyData:=(ks.find? fun p=>decide (p.1=k)).map (·.2)
def jC(ks:Ks)(k:Int):Bool:=ks.any fun p=>decide (p.1=k)
def jU(ks:Ks)(k:Int)(d:PyData):Ks:=if jC ks k then ks.map fun p=>if p.1=k then(p.1,d) else p else ks++[(k,d)]
theorem T3(ks:Ks)(k:Int):(iN ks k).isSome=jC ks k:=by
  unfold iN jC
  rw[Aa]
  induction ks with
  |nil=>rfl
  | cons p r ih =>
    rw[mD,k9]
    by_cases h:p.1=k
    · simp[h]
    · simp only[h,decide_false,rQ];exact ih
theorem J6{ks:Ks}{k:Int}:jC ks k=true↔k∈ks.map (·.1):=by
 unfold jC
 rw[pX,aI]
 constructor
 ·rintro⟨p,h1,h2⟩;exact⟨p,h1,by simpa using h2⟩
 ·rintro⟨p,h1,h2⟩;exact⟨p,h1,by simpa using h2⟩
theorem K9{k:Int}:iN [] k=none:=rfl
theorem qC{p:Int×PyData}{r:Ks}{k:Int}:iN (p::r) k=if p.1=k then some p.2 else iN r k:=by
 unfold iN
 rw[mD]
 by_cases h:p.1=k<;>simp[h]
theorem Xw{ks:Ks}{k j:Int}{d:PyData}:iN (ks++[(k,d)]) j=match iN ks j with|some x=>some x|none=>if j=k then some d else none:=by
  induction ks with
  | nil =>
    rw[List.nil_append,qC,K9]
    by_cases h:k=j
    · subst h;simp
    · have h':¬j=k:=fun z=>h z.symm
      simp[h,h']
  | cons p r ih =>
    rw[jK,qC,qC,ih]
    by_cases h:p.1=j<;>simp[h]
section
variable{S:Addr->Prop}{H:Hp}
theorem aq.val:∀{ks:Ks} {ps:List (Key×V)} (k:Int),aq S H (ks.map bE) ps->match iN ks k with|some d=>∃v,g8 ps (Sum.inl k)=some v/\ai S H d v|none=>g8 ps (Sum.inl k)=none
  |[],ps,k,h=>by unfold aq at h;subst h;exact NW
  | p :: r, ps, k, h => by
    rw[bh] at h
    unfold aq at h
    obtain⟨q,qs,rfl,h1,h2⟩:=h
    unfold cg at h1
    obtain⟨h3,h4⟩:=h1
    have h3:q.1=Sum.inl p.1:=h3
    rw[qC]
    have ih:=aq.val k h2
    by_cases e:p.1=k
    · rw[if_pos e]
      refine⟨q.2,?_,h4⟩
      rw[vh (by rw[h3,e])]
    · rw[if_neg e,ug (fun z=>e (by rw[h3] at z;exact xo z))]
      exact ih
theorem aq.snoc:∀{ks:Ks} {ps:List (Key×V)} {k:Int} {d:PyData} {v:V},aq S H (ks.map bE) ps->ai S H d v->aq S H ((ks++[(k,d)]).map bE) (ps++[(Sum.inl k,v)])
  | [], ps, k, d, v, h, hd => by
    unfold aq at h;subst h
    show aq S H [bE (k,d)] [(Sum.inl k,v)]
    unfold aq
    exact⟨_,_,rfl,by unfold cg;exact⟨rfl,hd⟩,by unfold aq;rfl⟩
  | p :: r, ps, k, d, v, h, hd => by
    rw[bh] at h
    unfold aq at h
    obtain⟨q,qs,rfl,h1,h2⟩:=h
    rw[jK,bh,jK]
    unfold aq
    exact⟨q,_,rfl,h1,aq.snoc h2 hd⟩
theorem aq.repl:∀{ks:Ks} {ps:List (Key×V)} {k:Int} {d:PyData} {v:V},aq S H (ks.map bE) ps->ai S H d v->aq S H ((ks.map fun p=>if p.1=k then(p.1,d) else p).map bE) (ps.map fun kv=>if kv.1=Sum.inl k then(kv.1,v) else kv)
  |[],ps,k,d,v,h,hd=>by unfold aq at h;subst h;simp only[oq];unfold aq;rfl
  | p :: r, ps, k, d, v, h, hd => by
    rw[bh] at h
    unfold aq at h
    obtain⟨q,qs,rfl,h1,h2⟩:=h
    rw[bh,bh,bh]
    unfold cg at h1
    obtain⟨h3,h4⟩:=h1
    have h3:q.1=Sum.inl p.1:=h3
    unfold aq
    refine⟨_,_,rfl,?_,aq.repl h2 hd⟩
    by_cases e:p.1=k
    · rw[if_pos e,if_pos (by rw[h3,e])]
      unfold cg
      exact⟨h3,hd⟩
    · rw[if_neg e,if_neg (fun z=>e (by rw[h3] at z;exact xo z))]
      unfold cg
      exact⟨h3,h4⟩
theorem aq.any:∀{ks:Ks} {ps:List (Key×V)} (k:Int),aq S H (ks.map bE) ps->(ps.any fun kv=>decide (kv.1=Sum.inl k))=jC ks k:=fun{ks ps} k h=>by
 rw[Ab,<-T3]
 have:=aq.val k h
 cases hv:iN ks k with
 |none=>rw[hv] at this;rw[this];rfl
 |some d=>rw[hv] at this;obtain⟨v,e,_⟩:=this;rw[e];rfl
theorem aq.put{ks:Ks}{ps:List (Key×V)}{k:Int}{d:PyData}{v:V}(h:aq S H (ks.map bE) ps)(hd:ai S H d v):aq S H ((jU ks k d).map bE) (putK ps (Sum.inl k) v):=by
 unfold jU putK
 rw[aq.any k h]
 split
 ·exact aq.repl h hd
 ·exact aq.snoc h hd
theorem aq.len:∀{ks:Ks} {ps:List (Key×V)},aq S H (ks.map bE) ps->ps.length=ks.length
  |[],ps,h=>by unfold aq at h;subst h;rfl
  | p :: r, ps, h => by
    rw[bh] at h
    unfold aq at h
    obtain⟨q,qs,rfl,_,h2⟩:=h
    simp[aq.len h2]
theorem aq.keys:∀{ks:Ks} {ps:List (Key×V)},aq S H (ks.map bE) ps->ps.map (·.1)=(ks.map (·.1)).map Sum.inl
  |[],ps,h=>by unfold aq at h;subst h;rfl
  | p :: r, ps, h => by
    rw[bh] at h
    unfold aq at h
    obtain⟨q,qs,rfl,h1,h2⟩:=h
    unfold cg at h1
    have h3:q.1=Sum.inl p.1:=h1.1
    simp[aq.keys h2,h3]
end
def nI(G:Gx)(ρ:Rh)(te:TE)(Φ:Bool->Ks->Prop):Prop:=∀nb σ H (Q:VK),Wd G nb ρ σ H->
 (∀f a ps H' ks,Φ f ks->Step G.B H H'->H a=none->H' a=some (.dK ps)->aq (fun x=>G.S nb f x\/x=a) H' (ks.map bE) ps->Q (.ref a) H')->te σ H Q
section
variable{G:Gx}{ρ bA:Rh}{Φ Ψ:Pd}{ta tb te:TE}{t:TA}{i:Nat}{f g:Bool}{d e:PyData}{ks:Ks}{K:PySem.W.Frag}{E:DE}{Θ:Bool->Ks->Prop}
theorem Wd.grow{nb:Addr->Prop}{σ:St}{H H1:Hp}{a:Addr}{o:HO}(W:Wd G nb ρ σ H)(s1:Step G.B H H1)(ha:H a=none)(e:H1 a=some o):Wd G (fun x=>nb x\/x=a) ρ σ H1/\NB G.B a/\∀f x,G.S (fun x=>nb x\/x=a) f x->(G.S nb f x\/x=a):=by
  have hN:NB G.B a:=NB.new W.ay ha
  have hA:∀f x,G.S (fun x=>nb x\/x=a) f x->(G.S nb f x\/x=a):=fun f x z=>by
    rcases z with (z|z)|z|z|z
    · exact .inl (.inl z)
    · exact .inr z
    · exact .inl (.inr (.inl z))
    · exact .inl (.inr (.inr (.inl z)))
    · exact .inl (.inr (.inr (.inr z)))
  have W1:=W.step s1
  refine⟨?_,hN,hA⟩
  refine⟨W1.ay,fun x n=>?_,W1.old,fun x n q=>?_,W.gA,W.len,W.gB,fun h m=>(((W.dP h m).fresh ha).keep (s1.but fun x z=> .inl (.inr (.inr (.inl z))))).av (hA h.1),fun j s e'=>?_,W.apart,W.eE,W.dg⟩
  · rcases n with n|n
    · exact W1.live x n
    · subst n;rw[e];exact jv _
  · rcases n with n|n
    · exact W.c6 x n q
    · subst n
      cases z:G.H0 x with
      |none=>rfl
      |some o=>rw[W.old x o q z] at ha;cases ha
  · obtain⟨x,e1,h⟩:=W.ok j s e'
    refine⟨x,e1,?_⟩
    cases s with
    |no=>trivial
    |d f d=>obtain⟨v,e,h⟩:=h;exact⟨v,e,((h.fresh ha).keep (s1.but fun x z=> .inl (.inr (.inr (.inl z))))).av (hA f)⟩
    |own c f es=>obtain⟨e,n,q,xs,hx,hd⟩:=h;exact⟨e, .inl n,q,xs,s1.1 _ _ q hx,((hd.fresh ha).keep (s1.but fun x z=> .inl (.inr (.inr (.inl z))))).av (hA f)⟩
    |ay=>exact h
    |raw v=>exact h
    |bO c f es=>obtain⟨e,n,q,xs,hx,hd⟩:=h;exact⟨e, .inl n,q,xs,s1.1 _ _ q hx,((hd.fresh ha).keep (s1.but fun x z=> .inl (.inr (.inr (.inl z))))).av (hA f)⟩
    | cu c =>
      obtain⟨e,n,q⟩:=h
      refine⟨e,fun a ha=>⟨.inl (n a ha).1,(n a ha).2⟩,c.av (hA c.f) (c.keep (.of fun x o hx e=>s1.1 x o ?_ e) (c.fresh ha q))⟩
      rcases hx with hx|hx
      · exact gR fun z=>hx (.inl (.inr (.inr (.inl z))))
      · exact(n x hx).2
theorem WG{nb:Addr->Prop}{σ:St}{H H1:Hp}{a:Addr}{ps:List (Key×V)}(W:Wd G nb ρ σ H)(s1:Step G.B H H1)(ha:H a=none)(e:H1 a=some (.dK ps))(hd:aq (fun x=>G.S nb f x\/x=a) H1 (ks.map bE) ps):
  Wd G (fun x=>nb x\/x=a) (ρ.set i (.bO a f ks)) (σ.set i (some (.ref a))) H1:=by
 obtain⟨W2,hN,hA⟩:=W.grow s1 ha e
 refine W2.set ⟨rfl, .inr rfl,hN,ps,e,hd.av (hA f)⟩ (fun _ _ _ z=>by cases z) ?_ (fun x hx j t hj ht hc=>?_)
 rotate_left
 ·have hx:x=a:=aU.mp hx
  subst hx
  rcases hc with ⟨c,z⟩|⟨c,rfl⟩
  ·cases z
  ·exact fun z=>W.live x ((W.ok j _ ht).choose_spec.2.2.1 x z).1 ha
 rintro a' f' ds' ⟨rfl,rfl,rfl⟩ j c g cs hj hc z
 subst z
 obtain⟨x,e1,h1,h2,h3,ys,hy,_⟩:=W.ok j _ hc
 rw[hy] at ha;cases ha
theorem Sv.Et(h:nI G ρ te fun f ks=>∀a,E.nx (ρ.set i (.bO a f ks))):Sv G ρ (i6 te (ir i)) E:=fun nb σ H D W K=>h nb σ H _ W fun f a ps H1 ks q s1 ha e hd=>K.nx _ _ _ H1 (q a) (WG W s1 ha e hd)
theorem nI.new(h:Θ true []):nI G ρ Jo Θ:=fun nb σ H Q W z p hp=>z true p [] _ [] h (.same W.ay (bQ hp)) hp aR (by unfold aq;rfl)
@[reducible] def yH(p:Int×PyData):PyData:= .tuple [.int p.1,p.2]
def oB(ks:Ks)(more:Ks):Ks:=more.foldl (fun acc p=>jU acc p.1 p.2) ks
theorem HC{S:Addr->Prop}{H:Hp}:∀{more:Ks} {ms:List (Key×V)} {ks:Ks} {ps:List (Key×V)},aq S H (more.map bE) ms->aq S H (ks.map bE) ps->aq S H ((oB ks more).map bE) (lW ps ms)
  |[],ms,ks,ps,h,g=>by unfold aq at h;subst h;exact g
  | p :: r, ms, ks, ps, h, g => by
    rw[bh] at h
    unfold aq at h
    obtain⟨q,qs,rfl,h1,h2⟩:=h
    unfold cg at h1
    obtain⟨k,v⟩:=q
    have h3:k=Sum.inl p.1:=h1.1
    subst h3
    show aq S H ((oB (jU ks p.1 p.2) r).map bE) (lW (putK ps (Sum.inl p.1) v) qs)
    exact HC (more:=r) h2 (aq.put g h1.2)
theorem nI.RU(h:Ev G ρ te fun f x=>∃es:Ks,x= .list (es.map yH)/\es.length<=10000/\Θ f (oB [] es)):nI G ρ (fN AH (bR te cy)) Θ:=fun nb σ H Q W z=>
  h nb σ H _ W fun f v H1 x ⟨es,ex,hl,q⟩ s1 hv=>by
    subst ex
    obtain⟨a,xs,rfl,n,hx,hd⟩:=hv.cQ
    have key:∀{es:Ks} {xs:List V},af (G.S nb f) H1 (es.map yH) xs->∃kvs:List (Key×V),xs.length=kvs.length/\(∀(j:Nat) (y:V) (p:Key×V),xs[j]?=some y->kvs[j]?=some p->∃a,y= .ref a/\H1 a=some (.tup [kV p.1,p.2]))/\aq (G.S nb f) H1 (es.map bE) kvs:=by
      intro es
      induction es with
      |nil=>intro xs h;unfold af at h;subst h;exact⟨[],rfl,fun j y p z=>by simp at z,by simp only[oq];unfold aq;rfl⟩
      | cons e es ih =>
        intro xs h
        rw[bh] at h
        unfold af at h
        obtain⟨y,ys,rfl,h1,h2⟩:=h
        obtain⟨kvs,g1,g2,g3⟩:=ih h2
        obtain⟨b,ws,rfl,bC,hb,hws⟩:=h1.ofT
        unfold af at hws
        obtain⟨w1,wr,rfl,k1,hws⟩:=hws
        unfold af at hws
        obtain⟨w2,wr,rfl,k2,hws⟩:=hws
        unfold af at hws
        subst hws
        rw[k1.bZ] at hb
        refine⟨(Sum.inl e.1,w2)::kvs,by simp[g1],fun j y p a b'=>?_,?_⟩
        · cases j with
          |zero=>simp at a b';subst a b';exact⟨b,rfl,hb⟩
          |succ j=>exact g2 j y p (by simpa using a) (by simpa using b')
        · rw[bh]
          unfold aq
          exact⟨_,_,rfl,by unfold cg;exact⟨rfl,k2⟩,g3⟩
    obtain⟨kvs,g1,g2,g3⟩:=key hd
    have hlx:=hd.length
    rw[aj] at hlx
    refine⟨a,xs,kvs,rfl,hx,g1,by omega,g2,fun p hp=>?_⟩
    have Q3:aq (G.S nb f) H1 (([]:Ks).map bE) []:=by simp only[oq];unfold aq;rfl
    exact z f p _ _ _ q (s1.trans (.same s1.2 (bQ hp))) (W.none_of s1 hp) aR (((HC g3 Q3).fresh hp).keep (bq.of (bQ hp)))
theorem MU{nb:Addr->Prop}{σ:St}{H:Hp}{a:Addr}{ps:List (Key×V)}{ks':Ks}(W:Wd G nb ρ σ H)(e:ρ[i]?=some (.bO a f ks))(hd:aq (G.S nb g) H (ks'.map bE) ps):Wd G nb (ρ.set i (.bO a g ks')) σ (upd H a (.dK ps)):=by
 obtain⟨x,e1,h1,h2,h3,ys,hy,_⟩:=W.ok i _ e
 subst h1
 have hil:i<ρ.length:=(bI.mp e).1
 have W0:Wd G nb (ρ.set i .no) (σ.set i (some (.ref a))) H:=W.set trivial fun _ _ _ z=>by cases z
 have W1:Wd G nb (ρ.set i .no) (σ.set i (some (.ref a))) (upd H a (.dK ps)):=W0.write h2 h3 (fun j c f' cs hc z=>by
   subst z
   have hij:i≠j:=fun z=>by subst z;rw[dh hil] at hc;cases hc
   rw[bN hij] at hc
   obtain⟨_,_,_,_,_,ps,hp,_⟩:=W.ok j _ hc
   rw[hy] at hp;cases hp) (fun j c f' cs hc=>by
   by_cases hij:i=j
   ·subst hij;rw[dh hil] at hc;cases hc
   ·rw[bN hij] at hc
    exact(W.eE i j _ _ _ _ _ _ hij e hc).symm) (fun j c hc z=>by
   have hij:i≠j:=fun z=>by subst z;rw[dh hil] at hc;cases hc
   rw[bN hij] at hc
   exact W.dg j i c _ (bu hij) hc e a z (aU.mpr rfl))
 have W2:=W1.set (i:=i) (s:= .bO a g ks') (x:=some (.ref a)) ⟨rfl,h2,h3,ps,aR,hd.keep (bq.set (.inl h2))⟩ (fun _ _ _ z=>by cases z) (by
  rintro a' f' ds' ⟨rfl,rfl,rfl⟩ j c g' cs hj hc
  rw[bN (bu hj)] at hc
  exact W.eE i j _ _ _ _ _ _ (bu hj) e hc) (fun x hx j t hj ht hc z=>by
  rw[bN (bu hj)] at ht
  have hx:x=a:=aU.mp hx
  subst hx
  rcases hc with ⟨c,q⟩|⟨c,rfl⟩
  ·cases q
  ·exact W.dg j i c _ hj ht e x z (aU.mpr rfl))
 rw[j7,j7] at W2
 have:σ.set i (some (.ref a))=σ:=by
  apply iy
  intro j
  by_cases hij:i=j
  ·subst hij;rw[dh (by rw[W.len];exact hil),e1]
  ·rw[bN hij]
 rwa[this] at W2
theorem Sv.KG{a:Addr}(e:ρ[i]?=some (.bO a f ks))(h:Ev G ρ te fun g d=>Ev G ρ tb fun _ y=>∃k,y= .int k/\ks.length<10000/\E.nx (ρ.set i (.bO a (f && g) (jU ks k d)))):Sv G ρ (i6 te (rq (fq i) tb Dt)) E:=fun nb σ H D W KK=>
 h nb σ H _ W fun g v H1 d q s1 hv=>by
  obtain⟨x,e1,h1,h2,h3,ps,hp,hd⟩:=(W.step s1).ok i _ e
  subst h1
  refine⟨.ref a,e1,q nb σ H1 _ (W.step s1) fun g' u H2 y ⟨k,ey,hl,p⟩ s2 hu=>?_⟩
  subst ey
  have W2:=(W.step s1).step s2
  have hlen:=hd.len
  refine⟨a,ps, .inl k,rfl,hu.bZ,s2.1 _ _ h3 hp,eg (by rw[hlen];exact hl) (by decide),KK.nx nb _ _ _ p (MU W2 e ?_)⟩
  exact aq.put ((hd.keep s2.cR).av (cJ (fun z=>(er _ _▸z).1) fun _ z=>z)) ((hv.keep s2.cR).av (cJ (fun z=>(er _ _▸z).2) fun _ z=>z))
namespace Ev
theorem X0{a:Addr}(e:ρ[i]?=some (.bO a f ks))(h:Ev G ρ tb fun _ y=>∃k,y= .int k/\∃d,iN ks k=some d/\Φ f d):Ev G ρ (cZ wI (fq i) tb) Φ:=fun nb σ H Q W z=>by
 obtain⟨x,e1,h1,h2,h3,ps,hp,hd⟩:=W.ok i _ e
 subst h1
 refine⟨.ref a,e1,h nb σ H _ W fun g w H1 y ⟨k,ey,d,hv,p⟩ s1 hw=>?_⟩
 subst ey
 have:=aq.val k (hd.keep s1.cR)
 rw[hv] at this
 obtain⟨v,hv',hD⟩:=this
 exact⟨a,ps, .inl k,v,rfl,hw.bZ, .inl (s1.1 _ _ h3 hp),hv',z f _ H1 _ p s1 hD⟩
end Ev
end
def Dm(ng:Bool):R2:=fun x y H Q=>∃a o,y= .ref a/\Az H a x o/\Q (.bl (o.isSome !=ng)) H
theorem Yj{X:Cx}(hu:X.A.units+64<cLine):cU X (compareOp .In) (Dm false):=by
 intro pins s σ H x y v u Q I rx ry h
 obtain⟨a,o,rfl,g,q⟩:=h
 cases ry
 exact MA (by omega) I g rx fun s' I'=>⟨.bl o.isSome,H,I',rfl,by simpa using q⟩
theorem Ek{X:Cx}(hu:X.A.units+64<cLine):cU X (compareOp .NotIn) (Dm true):=by
 intro pins s σ H x y v u Q I rx ry h
 obtain⟨a,o,rfl,g,q⟩:=h
 cases ry
 exact NJ (by omega) I g rx fun s' I'=>⟨.bl (!o.isSome),H,I',rfl,by simpa using q⟩
section
variable{G:Gx}{ρ:Rh}{Φ:Pd}{ta tb te:TE}{i:Nat}{f:Bool}{ks:Ks}{K:PySem.W.Frag}{E:DE}
theorem Kh{nb:Addr->Prop}{σ:St}{H:Hp}{a:Addr}(W:Wd G nb ρ σ H)(e:ρ[i]?=some (.bO a f ks)):Wd G (fun x=>nb x/\x≠a) (ρ.set i (.d f (.dict (ks.map bE)))) σ H:=by
  obtain⟨x,e1,h1,h2,h3,xs,hx,hd⟩:=W.ok i _ e
  subst h1
  have hil:i<ρ.length:=(bI.mp e).1
  have W0:Wd G nb (ρ.set i .no) (σ.set i (some (.ref a))) H:=W.set trivial fun _ _ _ z=>by cases z
  have W1:Wd G (fun x=>nb x/\x≠a) (ρ.set i .no) (σ.set i (some (.ref a))) H:=by
    refine⟨W0.ay,fun x n=>W0.live x n.1,W0.old,fun x n=>W0.c6 x n.1,W0.gA,W0.len,W0.gB,fun h m=>(W0.dP h m).av (cJ (fun z=>z) fun _ z=>z.1),fun j s e'=>?_,W0.apart,W0.eE,W0.dg⟩
    obtain⟨x,lM,h⟩:=W0.ok j s e'
    refine⟨x,lM,?_⟩
    have hij:s≠ .no->i≠j:=fun n z=>by subst z;rw[dh hil] at e';cases e';exact n rfl
    cases s with
    |no=>trivial
    |d f d=>obtain⟨v,e,h⟩:=h;exact⟨v,e,h.av (cJ (fun z=>z) fun _ z=>z.1)⟩
    | own c f es =>
      obtain⟨e2,n,q,ys,hy,hd'⟩:=h
      have hca:c≠a:=fun z=>by subst z;rw[hx] at hy;cases hy
      exact⟨e2,⟨n,hca⟩,q,ys,hy,hd'.av (cJ (fun z=>z) fun _ z=>z.1)⟩
    |ay=>exact h
    |raw v=>exact h
    | bO c f es =>
      obtain⟨e2,n,q,ps,hp,hd'⟩:=h
      have hij:=hij (by intro z;cases z)
      rw[bN hij] at e'
      exact⟨e2,⟨n,(W.eE i j _ _ _ _ _ _ hij e e').symm⟩,q,ps,hp,hd'.av (cJ (fun z=>z) fun _ z=>z.1)⟩
    | cu c =>
      obtain⟨e2,n,q⟩:=h
      have hij:=hij (by intro z;cases z)
      rw[bN hij] at e'
      exact⟨e2,fun x hx=>⟨⟨(n x hx).1,fun z=>W.dg j i c _ (bu hij) e' e x hx (by rw[z];exact aU.mpr rfl)⟩,(n x hx).2⟩,c.av (cJ (fun z=>z) fun _ z=>z.1) q⟩
  have W2:=W1.nW (i:=i) (f:=f) (d:= .dict (ks.map bE)) (v:= .ref a) (by
    unfold ai
    refine⟨a,xs,rfl,fun z=>?_, .inl hx,hd.av (cJ (fun z=>z) fun _ z=>z.1)⟩
    rcases z with z|z|z|z
    · exact z.2 rfl
    · exact W.gA a z (W.c6 a h2 h3)
    · exact z h3
    · exact z.2 (W.c6 a h2 h3))
  rw[j7,j7] at W2
  have:σ.set i (some (.ref a))=σ:=by
    apply iy
    intro j
    by_cases hij:i=j
    · subst hij;rw[dh (by rw[W.len];exact hil),e1]
    · rw[bN hij]
  rwa[this] at W2
theorem Sv.DL{s:TS}{a:Addr}(i:Nat)(e:ρ[i]?=some (.bO a f ks))(h:Sv G (ρ.set i (.d f (.dict (ks.map bE)))) s E):Sv G ρ s E:=fun nb σ H D W K=>h _ σ H D (Kh W e) K
theorem Ev.JQ{ng:Bool}(h:Ev G ρ ta fun _ y=>∃k,y= .int k/\Ev G ρ tb fun _ x=>∃ks:Ks,x= .dict (ks.map bE)/\Φ true (.bool (jC ks k !=ng))):Ev G ρ (cZ (Dm ng) ta tb) Φ:=
 Ev.iP (h.mono fun f x ⟨k,ex,q⟩=>q.mono fun g y ⟨ks,ey,p⟩ nb σ H u v Q W hu hv z=>by
  subst ex ey
  unfold ai at hv
  obtain⟨a,ps,rfl,n,hp,hd⟩:=hv
  refine⟨a,_,rfl,by rw[hu.bZ];exact .inl ⟨ps, .inl k,hp,rfl,rfl⟩,?_⟩
  have:(g8 ps (Sum.inl k)).isSome=jC ks k:=by rw[<-Ab];exact aq.any k hd
  rw[this]
  exact z true _ H _ p (.refl W.ay) (.bl _))
theorem Ev.LH(h:Ev G ρ ta fun f x=>∃ks:Ks,x= .dict (ks.map bE)/\Ev G ρ tb fun _ y=>∃k,y= .int k/\∃d,iN ks k=some d/\Φ f d):Ev G ρ (cZ wI ta tb) Φ:=
 Ev.iP (h.mono fun f x ⟨ks,ex,q⟩=>q.mono fun g y ⟨k,ey,d,hv',p⟩ nb σ H u v Q W hu hv z=>by
  subst ex ey
  unfold ai at hu
  obtain⟨a,ps,rfl,n,hp,hd⟩:=hu
  have:=aq.val k hd
  rw[hv'] at this
  obtain⟨w,hw,hD⟩:=this
  exact⟨a,ps, .inl k,w,rfl,hv.bZ,hp,hw,z f _ H _ p (.refl W.ay) hD⟩)
end
end L2
set_option maxRecDepth 100000
set_option maxHeartbeats 4000000
set_option maxRecDepth 100000
set_option maxHeartbeats 4000000
namespace L2
open PySem PySem.Spec PyProof.Rows
structure SA(n:Int)(cs:List aN):Prop where
 n0:1<=n
 n1:n<=10
 c0:cs≠[]
 c1:cs.length<=8
 ok:∀prs∈cs,prs≠[]/\prs.length<=4/\(prs.map (·.1)).Pairwise (· < ·)/\∀pr∈prs,0<=pr.1/\pr.1<n
section
variable{n:Int}{cs:List aN}(h:SA n cs)
include h
end
end L2
set_option maxRecDepth 100000
set_option maxHeartbeats 4000000
namespace L2
open PySem PySem.Spec PyProof.Rows
theorem MY:∀m n:Nat,∃u v:Int,u*m+v*n=(Nat.gcd m n:Int):=fun m n=>by
  induction m,n using Nat.gcd.induction with
  |H0 n=>exact⟨0,1,by simp⟩
  | H1 m n hm ih =>
    obtain⟨u,v,e⟩:=ih
    rw[Nat.gcd_rec]
    refine⟨v-u*(n/m:Nat),u,?_⟩
    rw[<-e]
    have h:(n:Int)=((n%m:Nat):Int)+(m:Int)*((n/m:Nat):Int):=by exact_mod_cast (Nat.mod_add_div n m).symm
    generalize ((n/m:Nat):Int)=z at h⊢
    generalize ((n%m:Nat):Int)=y at h⊢
    rw[h]
    grind
theorem N8{p b a:Int}(hp:gJ p)(hb:b%p≠0):∃k,b*sol p b a-a=p*k:=by
 have p2:=hp.1
 have hex:∃x,0<=x/\x<p/\∃k,b*x-a=p*k:=by
  have hg:Nat.gcd p.natAbs b.natAbs=1:=by
   have d1:(Int.gcd p b:Int)∣p:=Int.gcd_dvd_left ..
   have d2:(Int.gcd p b:Int)∣b:=Int.gcd_dvd_right ..
   have h0:0<(Int.gcd p b:Int):=by
    have:Int.gcd p b≠0:=fun z=>by have:=(Int.gcd_eq_zero_iff.mp z).1;omega
    omega
   rcases hp.2 _ h0 d1 with e|e
   ·show Int.gcd p b=1
    omega
   ·rw[e] at d2;exact absurd (uz d2) hb
  obtain⟨u,v,e⟩:=MY p.natAbs b.natAbs
  rw[hg] at e
  obtain⟨v',e'⟩:∃v',u*p+v'*b=1:=by
   have vC:(p.natAbs:Int)=p:=by omega
   rw[vC] at e
   rcases(show(b.natAbs:Int)=b\/(b.natAbs:Int)= -b by omega) with h|h<;>rw[h] at e
   ·exact⟨v,e⟩
   ·exact⟨-v,by have e2:u*p+v* -b=1:=e;rw[<-e2];grind⟩
  refine⟨(v'*a)%p,fP _ (by omega),fZ _ (by omega),?_⟩
  have h1:=Gf (v'*a) p
  generalize v'*a/p=t at h1
  generalize hx:v'*a%p=x at h1
  refine⟨-u*a-b*t,?_⟩
  have:b*x=b*(v'*a)-b*(p*t):=by rw[<-h1];grind
  rw[this]
  have h2:b*(v'*a)=(1-u*p)*a:=by rw[<-e'];grind
  rw[h2]
  grind
 unfold sol
 rw[dif_pos hex]
 exact(Classical.choose_spec hex).2.2
end L2
set_option maxRecDepth 100000
set_option maxHeartbeats 4000000
set_option maxRecDepth 100000
set_option maxHeartbeats 4000000
namespace L2
open PySem PySem.Spec PyProof.Rows
def kB(G:Gx)(ρ:Rh)(te:TE)(Φ:PyData->Prop):Prop:=∀nb σ H (Q:VK),Wd G nb ρ σ H->(∀v H' d,Φ d->Step G.B H H'->ai (fun a=>H a≠none) H' d v->Q v H')->te σ H Q
section
variable{G:Gx}{ρ:Rh}{ta tb te:TE}{t:TA}{E:DE}{i j k m:Nat}{f:Bool}{K:PySem.W.Frag}{Φ:PyData->Prop}
theorem Wd.Jb{nb:Addr->Prop}{σ:St}{H H1:Hp}{a:Addr}(W:Wd G nb ρ σ H)(s:Step G.B H H1)(h:H a≠none):H1 a≠none:=fun e=>h (W.none_of s e)
theorem kB.oQ{n:Nat}{F:DF}(hm:dS F)(e:ρ[i]?=some .ay)(h:Av G ρ t fun es=>es.length+1=n/\F (es.map (·.2)) fun f d=>f=true/\Φ d):kB G ρ (i9 (iI n F) [] E0 (bR (fq i) t)) Φ:=fun nb σ H Q W z=>by
 obtain⟨b,l,hB,e1,B⟩:=W.wc e
 refine⟨.ref b,e1,h nb σ H _ W fun es vs H1 ⟨hl,p⟩ s1 q1=>?_⟩
 have W1:=W.step s1
 show iI n F ((V.ref b::vs)++[]) H1 Q E0
 rw[j8]
 have hb:∀f,G.S nb f b:=fun f=> .inr (.inr (.inl fun n=>n b l hB rfl))
 refine⟨by rw[fE,q1.len,hl],b,l,vs,G.S nb (i7 es),es.map (·.2),rfl,W1.ay b l hB,W1.kJ,hb _,q1.all fun z=>z,hm _ _ _ p fun f d ⟨hf,hp⟩ v H' bt B' hd=>z v H' d hp (s1.trans (.tG hB bt B')) (hd.av fun a q=>?_)⟩
 exact .inr ⟨hf,W.Jb s1 q⟩
theorem kB.dw{n:Nat}{F:DF}(hm:dS F)(h:Av G ρ t fun es=>es.length=n/\F (es.map (·.2)) fun f d=>f=true/\Φ d):kB G ρ (i9 (bF n F) [] E0 t) Φ:=fun nb σ H Q W z=>
 h nb σ H _ W fun es vs H1 ⟨hl,p⟩ s1 q1=>by
  have W1:=W.step s1
  rw[j8]
  refine⟨by rw[q1.len,hl],G.S nb (i7 es),es.map (·.2),W1.kJ,q1.all fun z=>z,hm _ _ _ p fun f d ⟨hf,hp⟩ v H' sm hd=>z v H' d hp (s1.trans (.same W1.ay sm)) (hd.av fun a q=>?_)⟩
  exact .inr ⟨hf,W.Jb s1 q⟩
end
end L2
set_option maxRecDepth 100000
set_option maxHeartbeats 1000000
set_option maxRecDepth 100000
set_option maxHeartbeats 4000000
namespace L2
open PySem PySem.Spec PyProof.Rows
def UZ(lz:List Int)(prs:aN):Nat:=(prs.filter fun pr=>decide (pr.1∈lz)).length
def Ec(cs:List aN)(lz:List Int):Bool:=cs.all fun prs=>decide (UZ lz prs≠1)
end L2
set_option maxRecDepth 100000
set_option maxHeartbeats 4000000
set_option maxRecDepth 100000
set_option maxHeartbeats 4000000
namespace L2
open PySem PySem.Spec PyProof.Rows
section
variable{G:Gx}{ρ:Rh}{ta tb te:TE}{t:TA}{E:DE}{i j m n:Nat}{f:Bool}{K K2 K3:PySem.W.Frag}{Φ:Pd}
theorem kB.N5{Ψ:PyData->Prop}{a:Addr}{ks:Ks}(i:Nat)(e:ρ[i]?=some (.bO a f ks))(h:kB G (ρ.set i (.d f (.dict (ks.map bE)))) te Ψ):kB G ρ te Ψ:=fun nb σ H Q W z=>h _ σ H Q (Kh W e) z
theorem Ev.Us(h:kB G ρ te fun d=>Φ true d):Ev G ρ te Φ:=fun nb σ H Q W z=>h nb σ H Q W fun v H' d p st hd=>z true v H' d p st (hd.av fun a q=>W.kJ a q)
end
structure JL(cs:List aN)(lz g:List Int):Prop where
 sub:∃q:Int->Bool,g=lz.filter q
 out:Ec cs g=true
 max:∀T:List Int,(∀x∈T,x∈lz)->Ec cs T=true->∀x∈T,x∈g
@[reducible] def XN(S:List Int):Ks:=S.map fun x=>(x,PyData.bool true)
end L2
set_option maxRecDepth 100000
set_option maxHeartbeats 4000000
namespace L2
open PySem PySem.Spec PyProof.Rows
theorem JL.mem{cs:List aN}{lz g:List Int}(h:JL cs lz g):∀x∈g,x∈lz:=fun x hx=>by
 obtain⟨q,e⟩:=h.sub
 rw[e] at hx
 exact(jm.mp hx).1
end L2
set_option maxRecDepth 100000
set_option maxHeartbeats 4000000
namespace L2
open PySem PySem.Spec PyProof.Rows
def GL(row:List Int):Int:=match row.getLast? with|none=>0|some l=>l+1
def La(n:Int)(row:List Int):List Int:=(List.range (n-GL row).toNat).map fun(i:Nat)=>GL row+(i:Int)
def ext(n:Int)(row:List Int):List (List Int):=(La n row).map fun p=>row++[p]
@[reducible] def X8:Option (List Int)->PyData
 |none=> .none
 |some r=>aB r
end L2
set_option maxRecDepth 100000
set_option maxHeartbeats 4000000
set_option maxRecDepth 100000
set_option maxHeartbeats 4000000
namespace L2
open PySem PySem.Spec PyProof.Rows
section
variable{X:Cx}{pins:List (Addr×Obj)}{σ:List (Option V)}{H:Hp}{s:Shared}{h':Heap}
theorem Inv.U8{t':Nat}{ch:List Addr}{T:Addr}{o:HO}(I:Inv X pins σ H s)(k:∀b u,b∉ch->s.heap.get? b=some u->h'.get? b=some u)(f:∀b∈ch,gF X pins H b)(hT:s.heap.objs.size<=T)(B6:T∉ch)
  (new:bK X.prog X.w (upd H T o) h' T o):Inv X pins σ (upd H T o) {s with heap:=h',toks:=t'}:=by
 have hn:=I.hok.fresh hT
 have ne:∀b u,H b=some u->b∉ch:=fun b u q z=>by rw[(f b z).1] at q;cases q
 have nT:∀b u,H b=some u->b≠T:=fun b u q z=>by rw[z,hn] at q;cases q
 have nl:X.env.locals∉ch:=fun z=>(f _ z).2.1 rfl
 refine I.step (g':=s.gens) (d':=s.drawn) (ch:=ch) (fun b hb=>?_) (fun b o _ _ hc q _=>k b o hc q) (fun b o _ _ hc q _=>⟨o.slots,k b o hc q⟩)
  (fun b o hc q n=>?_) (fun b o hc q=>⟨o,k b o hc q⟩) (fun b xs q=>by rw[aA (nT b _ q)];exact q) (fun b o u q=>by rw[aA (nT b _ q)];exact q) (fun b ps q=>⟨#[],by rw[aA (nT b _ q),q];simp⟩) (fun m hm=>?_) (fun b u q=>?_) I.bare
 ·obtain⟨e0,e1,e2,e3,e4,e5⟩:=f b hb
  exact⟨e3,e1,e4,e5⟩
 ·rw[aA (fun z=>absurd (eg (bw q) (by rw[z];exact hT)) (iG _))];exact n
 ·obtain⟨o,es,ep,ho,r⟩:=hm
  exact⟨o,es,ep,k _ o nl ho,r⟩
 ·by_cases hb:b=T
  ·subst hb;rw[aR] at q;cases q;exact new
  ·rw[aA hb] at q
   refine(I.hok b u q).stay (fun c v hc z=>?_) (fun c z=>by rw[aA (nT c _ z)];exact z) fun c xs z=>by rw[aA (nT c _ z)];exact z
   rcases hc with y|y
   ·subst y;exact k _ v (ne _ u q) z
   ·exact k c v (ne c _ y) z
theorem Inv.Pk{t':Nat}{ch:List Addr}(I:Inv X pins σ H s)(k:∀b u,b∉ch->s.heap.get? b=some u->h'.get? b=some u)(f:∀b∈ch,gF X pins H b):Inv X pins σ H {s with heap:=h',toks:=t'}:=by
 have ne:∀b u,H b=some u->b∉ch:=fun b u q z=>by rw[(f b z).1] at q;cases q
 have nl:X.env.locals∉ch:=fun z=>(f _ z).2.1 rfl
 refine I.step (g':=s.gens) (d':=s.drawn) (ch:=ch) (fun b hb=>?_) (fun b o _ _ hc q _=>k b o hc q) (fun b o _ _ hc q _=>⟨o.slots,k b o hc q⟩)
  (fun _ _ _ _ n=>n) (fun b o hc q=>⟨o,k b o hc q⟩) (fun _ _ q=>q) (fun _ _ _ q=>q) (fun b ps q=>⟨#[],by rw[q];simp⟩) (fun m hm=>?_) (fun b u q=>?_) I.bare
 ·obtain⟨e0,e1,e2,e3,e4,e5⟩:=f b hb
  exact⟨e3,e1,e4,e5⟩
 ·obtain⟨o,es,ep,ho,r⟩:=hm
  exact⟨o,es,ep,k _ o nl ho,r⟩
 ·refine(I.hok b u q).stay (fun c v hc z=>?_) (fun c z=>z) fun c xs z=>z
  rcases hc with y|y
  ·subst y;exact k _ v (ne _ u q) z
  ·exact k c v (ne c _ y) z
end
def uc(K:PySem.W.Frag)(a b:Addr):It:=
 ⟨fun i H=>∃xs ys x y,aQ K H a xs/\aQ K H b ys/\xs[i]?=some x/\ys[i]?=some y,fun i H v H'=>∃p x y,v= .ref p/\H p=none/\(∀xs,aQ K H a xs->xs[i]?=some x)/\(∀ys,aQ K H b ys->ys[i]?=some y)/\H'=upd H p (.tup [x,y]),fun i H=>∃xs ys,aQ K H a xs/\aQ K H b ys/\min xs.length ys.length=i⟩
def Ed(z TI TO i1 i2 a b:Addr)(i:Nat)(h:Heap):Prop:=IsZip h z TI TO .none/\IsPair h TI (.ref i1) (.ref i2)/\(∃u v,IsPair h TO u v)/\h.IsListIter i1 a i/\h.IsListIter i2 b i
theorem DN{X:Cx}{z TI TO i1 i2 a b:Addr}{h:Heap}{i:Nat}{xs ys:Array Value}(h1:h.IsList a xs)(h2:h.IsList b ys)(st:Ed z TI TO i1 i2 a b i h)(hd:[z,TI,TO,i1,i2].Nodup):ZipApart z TI TO i1 i2 a b:=by
 obtain⟨s1,s2,⟨u,v,s3⟩,s4,s5⟩:=st
 have n1:∀{l:Addr} {xs:Array Value},h.IsList l xs->l≠z/\l≠TO/\l≠i1/\l≠i2:=fun{l xs} hl=>by
  obtain⟨ol,l1,l2,l3⟩:=hl
  refine⟨fun q=>?_,fun q=>?_,fun q=>?_,fun q=>?_⟩
  ·subst q;rw[s1] at l1;cases l1;exact absurd l2 (by simp)
  ·subst q;rw[s3] at l1;cases l1;exact absurd l2 (by simp)
  ·subst q
   obtain⟨oi,e1,e2,e3⟩:=s4
   rw[e1] at l1;cases l1;rw[e2] at l2;exact absurd l2 (by simp)
  ·subst q
   obtain⟨oi,e1,e2,e3⟩:=s5
   rw[e1] at l1;cases l1;rw[e2] at l2;exact absurd l2 (by simp)
 obtain⟨a1,a2,a3,a4⟩:=n1 h1
 obtain⟨b1,b2,b3,b4⟩:=n1 h2
 simp only[ic,aP,cB,not_or,or_false,not_false_eq_true,List.nodup_nil,and_true] at hd
 obtain⟨⟨d1,d2,d3,d4⟩,⟨d5,d6,d7⟩,⟨d8,d9⟩,rE⟩:=hd
 exact⟨bu d1,bu d2,bu d3,bu d4,d5,d6,d7,d8,d9,rE,a1,a2,a3,a4,b1,b2,b3,b4⟩
theorem Uw{P:Program}{w:World}{K:PySem.W.Frag}{elts:List Expr}{k:Nat}{pos:Pos}(z TI TO i1 i2 a b:Addr)(hd:[z,TI,TO,i1,i2].Nodup):
  Turn P w K (.Tuple elts k pos) (uc K a b) [z,TI,TO,i1,i2] z (Ed z TI TO i1 i2 a b) where
 mem:=by simp
 obj:=fun i h st c hc=>by
  obtain⟨s1,s2,⟨u,v,s3⟩,⟨o4,e4,c4,d4⟩,⟨o5,e5,c5,d5⟩⟩:=st
  have hc:c=z\/c=TI\/c=TO\/c=i1\/c=i2:=by simpa using hc
  rcases hc with q|q|q|q|q
  ·subst q;exact⟨_,s1,fun v z=>by have z':Data.fields _=Data.cell v:=z;cases z'⟩
  ·subst q;exact⟨_,s2,fun v z=>by have z':Data.seq _ _=Data.cell v:=z;cases z'⟩
  ·subst q;exact⟨_,s3,fun v z=>by have z':Data.seq _ _=Data.cell v:=z;cases z'⟩
  ·subst q;exact⟨o4,e4,fun v z=>by rw[d4] at z;cases z⟩
  ·subst q;exact⟨o5,e5,fun v z=>by rw[d5] at z;cases z⟩
 keep:=fun i h h' st k=>by
  obtain⟨s1,s2,⟨u,v,s3⟩,s4,s5⟩:=st
  exact⟨k z (by simp) _ s1,k TI (by simp) _ s2,⟨u,v,k TO (by simp) _ s3⟩,s4.at fun o q=>k i1 (by simp) o q,s5.at fun o q=>k i2 (by simp) o q⟩
 item:=by
  intro X hP hw hK hc i pins s σ H E I hf st hg
  subst hP hw hK
  obtain⟨xs,ys,x,y,hq1,hq2,hx,hy⟩:=hg
  obtain⟨its,rv,p,hz⟩:=I.list hq1
  obtain⟨its2,oZ,p2,hz2⟩:=I.list hq2
  obtain⟨u,hu,ru⟩:=rv.get hx
  obtain⟨u2,Iq,LY⟩:=oZ.get hy
  have D:=DN (X:=X) p.isList p2.isList st hd
  have W:=WalksT.zip2 (prog:=X.prog) (w:=X.w) (I.ok.hd hc) z TI TO i1 i2 a b D its.toArray its2.toArray
  have hi:i<min its.toArray.size its2.toArray.size:=by
   have h1:=(bI.mp hu).1
   have h2:=(bI.mp Iq).1
   rw[cN,cN]
   omega
  obtain⟨s1,s2,s3,s4,s5⟩:=id st
  refine W.item i s _ _ hi ⟨s1,s2,s3,s4,s5,p.isList,p2.isList⟩ fun T vals h' tk hv hT Cy nZ kp=>⟨.ref T,rfl,?_⟩
  refine W.go elts k pos i T _ _ _ nZ fun h'' st' qc=>?_
  obtain⟨x',y',hx',hy',AE⟩:=hv
  have e1:x'=u:=by
   have:its.toArray[i]?=some u:=by simpa using hu
   rw[hx'] at this;exact fR this
  have e2:y'=u2:=by
   have:its2.toArray[i]?=some u2:=by simpa using Iq
   rw[hy'] at this;exact fR this
  subst e1 e2 AE
  have zj:=W.apart i T h' nZ
  have hTI:T≠TI:=fun q=>by
   rw[q] at hT
   exact absurd (bw s2) (Nat.not_lt.mpr hT)
  obtain⟨_,_,_,_,_,_,_,t1,t2,t3,t4⟩:=nZ
  obtain⟨oT,g1,g2,nT,g3⟩:=Cy
  have kr:=qc T oT zj g1
  have B6:T∉[z,TI,TO,i1,i2]:=by simp[t1,hTI,t2,t3,t4]
  refine⟨.ref T,upd H T (.tup [x,y]),I.U8 (ch:=[z,TI,TO,i1,i2]) (fun c v hc q=>qc c v (fun m=>hc (by simp at m⊢;rcases m with m|m|m|m<;>simp[m])) (kp c v (fun m=>hc (by simp at m⊢;rcases m with m|m|m|m<;>simp[m])) q)) hf hT B6 ?_,rfl,⟨T,x,y,rfl,I.hok.fresh hT,fun zs hy=>by rw[I.uO hy hq1];exact hx,fun zs hy'=>by rw[I.uO hy' hq2];exact hy,rfl⟩,?_,fun c hc=>?_⟩
  ·exact⟨by show 2<=sizeLine;decide,[x',y'], .cons ru (.cons LY .nil),oT,kr,g2,nT,g3⟩
  ·obtain⟨q1,q2,q3,q4,q5,_,_⟩:=st'
   exact⟨q1,q2,q3,q4,q5⟩
  ·rw[aA (fun q=>B6 (by rw[<-q];exact hc)),(hf c hc).1]
 done:=by
  intro X hP hw hK hc i pins s σ H E I hf st hg
  subst hP hw hK
  obtain⟨xs,ys,hq1,hq2,hx⟩:=hg
  obtain⟨its,rv,p,hz⟩:=I.list hq1
  obtain⟨its2,oZ,p2,hz2⟩:=I.list hq2
  have D:=DN (X:=X) p.isList p2.isList st hd
  have W:=WalksT.zip2 (prog:=X.prog) (w:=X.w) (I.ok.hd hc) z TI TO i1 i2 a b D its.toArray its2.toArray
  have l1:=rv.length
  have l2:=oZ.length
  have hn:min its.toArray.size its2.toArray.size=i:=by rw[cN,cN,<-l1,<-l2];exact hx
  obtain⟨s1,s2,s3,s4,s5⟩:=id st
  refine W.done s _ _ (by rw[hn];exact⟨s1,s2,s3,s4,s5,p.isList,p2.isList⟩) fun h' tk kp=>⟨rfl,?_⟩
  exact I.Pk (ch:=[z,TI,TO,i1,i2]) (fun c v hc q=>kp c v (fun m=>hc (by simp at m⊢;rcases m with m|m|m|m<;>simp[m])) q) hf
 self:=fun _ _ _ _ _ st h=>wpAny_pyIter_zip st.1 h
def xu(K:PySem.W.Frag)(ta tb:TE):TI:=fun σ H R=>ta σ H fun x H1=>tb σ H1 fun y H2=>∃a b,x= .ref a/\y= .ref b/\(∃xs,aQ K H2 a xs)/\(∃ys,aQ K H2 b ys)/\R (uc K a b) H2
theorem FI{X:Cx}{K:PySem.W.Frag}{elts:List Expr}{k:Nat}{tpos:Pos}{l1 l2:Expr}{ta tb:TE}{p pos:Pos}(hK:X.K=K)(hg:Gl X "zip")(hm:X.mg "zip"=none)(ha:PE X l1 ta)(hb:PE X l2 tb)(hs:starEach [l1,l2] X.env=[(false,eval l1 X.env),(false,eval l2 X.env)]:=by rfl)(hs2:starEach [l2] X.env=[(false,eval l2 X.env)]:=by rfl)(hpl:(backTo pos (starEach [l2] X.env)).any (·.1)=false:=by rfl):
    PI X (.Tuple elts k tpos) (.Call (.Name "zip" p) [l1,l2] [] pos) (xu K ta tb):=by
  subst hK
  intro pins s σ H R I h
  have hA:PA X [l1,l2] (bR ta (bR tb cy)):=aa ha (aa hb ak (by rw[hs2];rfl)) (by rw[hs,hs2])
  refine Call_ (nq I hg hm boot_zip (rN (aK (hA pos pins s σ H (fun vs H1=>match vs with|[x,y]=>∃a b,x= .ref a/\y= .ref b/\(∃xs,aQ X.K H1 a xs)/\(∃ys,aQ X.K H1 b ys)/\R (uc X.K a b) H1|_=>False) I h) fun us s1 ⟨vs,H1,I1,r1,q1⟩=>?_) (by rw[hs,hs2]) hpl))
  cases r1 with
  |nil=>exact q1.elim
  | cons r rr =>
    cases rr with
    |nil=>exact q1.elim
    |cons r2 rr=>
    cases rr with
    |cons _ _=>exact q1.elim
    |nil=>
    obtain⟨a,b,e1,e2,⟨xs,hq⟩,⟨ys,hq2⟩,q⟩:=q1
    subst e1 e2
    cases r
    cases r2
    obtain⟨its,rv,p,hz⟩:=I1.list hq
    obtain⟨its2,oZ,p2,hz2⟩:=I1.list hq2
    refine call_zip_2 p.isList p2.isList fun h' hz hTI hTO hi1 hi2 hsz hk=>?_
    refine wpAny_pyIter_zip hz ?_
    have I2:Inv X pins σ H1 {s1 with heap:=h'}:=I1.kept (t':=s1.toks) hk
    refine⟨s1.heap.objs.size+4,[s1.heap.objs.size+4,s1.heap.objs.size+2,s1.heap.objs.size+3,s1.heap.objs.size,s1.heap.objs.size+1],_,_,H1,rfl,I2,Uw _ _ _ _ _ a b (by simp),⟨hz,hTI,⟨_,_,hTO⟩,hi1,hi2⟩,fun b hb=>?_,q⟩
    have hb':s1.heap.objs.size<=b:=by
      simp only[aP,cB,or_false] at hb
      rcases hb with z|z|z|z|z<;>subst z
      · exact uN _ _
      · exact uN _ _
      · exact uN _ _
      · exact aS _
      · exact uN _ _
    exact I1.nO hb' (I1.hok.fresh hb')
theorem R.Vj{K:PySem.W.Frag}{a b:Addr}{xs ys:List V}{g:TG}{tc:TT}{te:TE}{acc:Addr}{Qe:Hp->Prop}{σ:St}{H:Hp}(hlen:ys.length=xs.length)(Pv:Nat->St->Hp->Prop)(h0:Pv 0 σ H)(hl:∀i σ H,i<=xs.length->Pv i σ H->aQ K H a xs/\aQ K H b ys)
  (hs:∀i x y σ H p,xs[i]?=some x->ys[i]?=some y->Pv i σ H->H p=none->g (.ref p) σ (upd H p (.tup [x,y])) fun σ2 H2=>tc σ2 H2 fun b H3=>if b=true then te σ2 H3 fun v H4=>∃ys,H4 acc=some (.lst ys)/\ys.length<sizeLine/\Pv (i+1) σ2 (upd H4 acc (.lst (ys++[v]))) else Pv (i+1) σ2 H3)
  (hd:∀σ H,Pv xs.length σ H->Qe H):mO (uc K a b) g tc te acc Qe σ H:=by
 refine⟨fun i m σ H=>m=xs.length-i/\i<=xs.length/\Pv i σ H,⟨xs.length,by simp,eU _,h0⟩,?_⟩
 rintro i m σ H ⟨rfl,hi,p⟩
 obtain⟨q,q2⟩:=hl i σ H hi p
 by_cases hlt:i<xs.length
 ·refine .inr ⟨⟨xs,ys,xs[i],ys[i]'(by omega),q,q2,by simp[hlt],aD _⟩,Pv (i+1),fun σ' H' p'=>⟨xs.length-(i+1),by omega,rfl,hlt,p'⟩,fun x H' y=>?_⟩
  obtain⟨pp,y,y2,e,hn,hy,Ti,e2⟩:=y
  subst e e2
  exact hs i y y2 σ H pp (hy xs q) (Ti ys q2) p hn
 ·have e:i=xs.length:=by omega
  subst e
  exact .inl ⟨⟨xs,ys,q,q2,by omega⟩,hd σ H p⟩
section
variable{G:Gx}{ρ bA:Rh}{te:TE}{s:TS}{gt:TG}{E:DE}{K:PySem.W.Frag}{Θ:Bool->List PyData->Prop}{tc:TT}{mp:List (Option Nat)}
theorem au.Nm{t1 t2:TE}(hm:(mp.filterMap id).Nodup)(cI:jA mp ρ=bA)(h:Ev G ρ t1 fun f1 x=>∃es,x= .list es/\dJ es=true/\es.length<=10000/\∀v,Ev (G.hd f1 (.list es) v) ρ t2 fun f2 y=>∃cT,y= .list cT/\dJ cT=true/\cT.length=es.length/\∀v2,dZ ((G.hd f1 (.list es) v).hd f2 (.list cT) v2) bA es.length (fun i d=>∃e e2,es[i]?=some e/\cT[i]?=some e2/\d= .tuple [e,e2]) true gt tc te Θ):au G ρ (jG (xu K t1 t2) gt tc te mp) Θ:=fun nb σ H Q W z=>
 h nb σ H _ W fun f1 v H0 x ⟨es,ex,hs,hn,q⟩ s0 hv=>by
  subst ex
  have Wa:=(W.step s0).hd hv
  refine q v nb σ H0 _ Wa fun f2 v2 H1 y ⟨cT,ey,hs2,hlen,q⟩ s1 hv2=>?_
  subst ey
  obtain⟨fl,I,h0,ht,he⟩:=q v2
  have W0:=(Wa.step s1).hd hv2
  obtain⟨_,hv'⟩:=(Wa.step s1).cO
  obtain⟨a,xs,rfl,n,hx,hd⟩:=hv'.cQ
  obtain⟨b,qR,rfl,n2,rz,hd2⟩:=hv2.cQ
  have l1:=hd.length
  have l2:=hd2.length
  refine⟨a,b,rfl,rfl,⟨xs, .of hx⟩,⟨qR, .of rz⟩,fun acc hacc=>?_⟩
  have mh:Wd ((G.hd f1 (.list es) (.ref a)).hd f2 (.list cT) (.ref b)) nb bA (L2.ef mp σ) H1:=by rw[<-cI];exact W0.ef hm
  have W1:=mh.more hacc (o:= .lst [])
  have zp:Step G.B H H1:=s0.trans s1
  have hN:=NB.new zp.2 hacc
  have hno:=rY mh hacc
  have jh:Step G.B H1 (upd H1 acc (.lst [])):= .same zp.2 (bQ hacc)
  have lP:NB G.B a:=gR fun z=>n (.inr (.inr (.inl z)))
  have Kq:NB G.B b:=gR fun z=>n2 (.inr (.inr (.inl z)))
  refine R.Vj (xs:=xs) (ys:=qR) (by omega) (fun i σ H=>∃ds ys,Wd ((G.hd f1 (.list es) (.ref a)).hd f2 (.list cT) (.ref b)) (fun x=>nb x\/x=acc) bA σ H/\Step G.B H1 H/\H acc=some (.lst ys)/\af (G.S (fun x=>nb x\/x=acc) fl) H ds ys/\ds.length<=i/\I i ds/\H a=some (.lst xs)/\H b=some (.lst qR)) ⟨[],[],W1,jh,aR, .nil,aS _,h0,jh.1 _ _ lP hx,jh.1 _ _ Kq rz⟩ ?_ ?_ ?_
  ·rintro i σ H hi ⟨ds,ys,W,st,_,_,_,_,ha,hb⟩
   exact⟨.of ha, .of hb⟩
  ·rintro i x y σ H p hi hi2 ⟨ds,ys,W,st,hy,hd',hl,hI,ha,hb⟩ hp
   have hil:i<es.length:=by have:=(bI.mp hi).1;omega
   obtain⟨x',hx',dx⟩:=hd.get (aD hil)
   rw[hi] at hx';cases hx'
   obtain⟨y',hy',dy⟩:=hd2.get (aD (show i<cT.length by omega))
   rw[hi2] at hy';cases hy'
   have st2:Step ((G.hd f1 (.list es) (.ref a)).hd f2 (.list cT) (.ref b)).B H (upd H p (.tup [x,y])):= .same W.ay (bQ hp)
   have hap:acc≠p:=fun z=>by subst z;rw[hp] at hy;cases hy
   have sx:=jz.mp hs _ (cV hil)
   have sy:=jz.mp hs2 _ (cV (show i<cT.length by omega))
   refine su (G:=(G.hd f1 (.list es) (.ref a)).hd f2 (.list cT) (.ref b)) hn hil (W.step st2) (.inr rfl) hN hno (st.trans st2) hacc (by rw[aA hap];exact hy) (hd'.keep st2.cR) hl (.tup (W.fresh hp) aR (.cons (dx.g5 sx) (.cons (dy.g5 sy) .nil))) (ht i _ ds ⟨_,_,aD hil,aD (show i<cT.length by omega),rfl⟩ hl hI) fun σ' H' ds' xs' W' st' hx' hd' hl' hI'=>⟨ds',xs',W',st',hx',hd',hl',hI',st'.1 _ _ lP hx,st'.1 _ _ Kq rz⟩
  ·rintro σ H' ⟨ds,ys,W',st,hy,hd',hl,hI,_⟩
   rw[show xs.length=es.length by omega] at hl hI
   exact oY W zp hacc st hy hd' (he ds hl hI) z
end
end L2
set_option maxRecDepth 100000
set_option maxHeartbeats 4000000
set_option maxRecDepth 100000
set_option maxHeartbeats 4000000
namespace L2
open PySem PySem.Spec PyProof.Rows
def az:(Nat->Int)->List Int->Int
 |_,[]=>0
 |f,x::xs=>f 0*x+az (fun i=>f (i+1)) xs
def mulR(p c:Int)(r:List Int):List Int:=r.map fun x=>c*x%p
def eK(p c:Int)(r o:List Int):List Int:=List.zipWith (fun x y=>(x-c*y)%p) r o
def gI(r:List Int)(i:Nat):Int:=r.getD i 0
structure bf(p:Int)(w:Nat)(r:List Int):Prop where
 len:r.length=w
 rg:∀x∈r,0<=x/\x<p
theorem bf.g{p:Int}{w i:Nat}{r:List Int}(h:bf p w r)(hp:0<p):0<=gI r i/\gI r i<p:=by
 unfold gI
 rw[bU]
 cases e:r[i]? with
 |none=>exact⟨Am 0,hp⟩
 |some x=>exact h.rg x (bD e)
theorem bf.at{p:Int}{w i:Nat}{r:List Int}(h:bf p w r)(hi:i<w):r[i]?=some (gI r i):=by
 unfold gI
 rw[bU,aD (by rw[h.len];exact hi)]
 rfl
theorem ym(p c:Int):∀(f:Nat->Int) (r:List Int),∃k,az f (mulR p c r)=c*az f r+p*k
  |_,[]=>⟨0,by simp[az,mulR]⟩
  | f, x :: xs => by
    obtain⟨k,hk⟩:=ym p c (fun i=>f (i+1)) xs
    refine⟨k-f 0*(c*x/p),?_⟩
    show f 0*(c*x%p)+az _ (mulR p c xs)=c*(f 0*x+az _ xs)+_
    rw[hk,nE]
    grind
theorem AK(p c:Int):∀(f:Nat->Int) (r o:List Int),r.length=o.length->∃k,az f (eK p c r o)=az f r-c*az f o+p*k
  |_,[],[],_=>⟨0,by simp[az,eK]⟩
  |_,[],_::_,h=>by simp at h
  |_,_::_,[],h=>by simp at h
  | f, x :: xs, y :: ys, h => by
    obtain⟨k,hk⟩:=AK p c (fun i=>f (i+1)) xs ys (by simpa using h)
    refine⟨k-f 0*((x-c*y)/p),?_⟩
    show f 0*((x-c*y)%p)+az _ (eK p c xs ys)=(f 0*x+az _ xs)-c*(f 0*y+az _ ys)+_
    rw[hk,nE]
    grind
theorem G4{p c:Int}{r:List Int}{i:Nat}(hi:i<r.length):gI (mulR p c r) i=c*gI r i%p:=by
 unfold gI mulR
 rw[bU,bx,bU,aD hi]
 rfl
theorem RB{p c:Int}{r o:List Int}{i:Nat}(hi:i<r.length)(ho:i<o.length):gI (eK p c r o) i=(gI r i-c*gI o i)%p:=by
 unfold gI eK
 rw[bU,lD,bU,bU,aD hi,aD ho]
 rfl
theorem bf.mul{p c:Int}{w:Nat}{r:List Int}(h:bf p w r)(hp:0<p):bf p w (mulR p c r):=by
 refine⟨by unfold mulR;rw[aj,h.len],fun x hx=>?_⟩
 obtain⟨y,_,rfl⟩:=aI.mp hx
 exact⟨fP _ (by omega),fZ _ hp⟩
theorem bf.less{p c:Int}{w:Nat}{r o:List Int}(h:bf p w r)(h2:bf p w o)(hp:0<p):bf p w (eK p c r o):=by
 refine⟨by unfold eK;rw[rR,h.len,h2.len];omega,fun x hx=>?_⟩
 obtain⟨i,hi⟩:=iO hx
 unfold eK at hi
 rw[lD] at hi
 cases e1:r[i]?<;>cases e2:o[i]?<;>rw[e1,e2] at hi<;>simp at hi
 subst hi
 exact⟨fP _ (by omega),fZ _ hp⟩
theorem Xc{p:Int}{w:Nat}{r o:List Int}(h:bf p w r)(h2:bf p w o):eK p 0 r o=r:=by
 apply rG
 ·unfold eK;rw[rR,h.len,h2.len];omega
 ·intro i h3 h4
  have e:(eK p 0 r o)[i]'h3=(r[i]-0*o[i]'(by rw[h2.len,<-h.len];exact h4))%p:=List.getElem_zipWith ..
  rw[e]
  obtain⟨a,b⟩:=h.rg _ (cV h4)
  rw[ja,uA,n5 a b]
def fV(p inv:Int)(R:List (List Int))(k pl:Nat):List (List Int):=
 (R.map fun r=>eK p (gI r pl) r (mulR p inv (R.getD k []))).set k (mulR p inv (R.getD k []))
def kL(p:Int)(w:Nat)(R:List (List Int)):Prop:=∀r∈R,bf p w r
def mK(p:Int)(R R':List (List Int)):Prop:=∀f:Nat->Int,(∀r∈R,p∣az f r)↔∀r∈R',p∣az f r
theorem mK.refl(p:Int)(R:List (List Int)):mK p R R:=fun _=>Iff.rfl
theorem mK.trans{p:Int}{R R' Ir:List (List Int)}(a:mK p R R')(b:mK p R' Ir):mK p R Ir:=fun f=>(a f).trans (b f)
section
variable{p inv:Int}{w k pl:Nat}{R:List (List Int)}
theorem qQ:(fV p inv R k pl).length=R.length:=by unfold fV;rw[fX,aj]
theorem EI{i:Nat}{r:List Int}(h:(fV p inv R k pl)[i]?=some r)(hk:k<R.length):∃r0,R[i]?=some r0/\((i=k/\r=mulR p inv r0)\/(i≠k/\r=eK p (gI r0 pl) r0 (mulR p inv (R.getD k [])))):=by
 unfold fV at h
 by_cases c:k=i
 ·subst c
  rw[dh (by rw[aj];exact hk)] at h
  refine⟨R[k],aD hk, .inl ⟨rfl,?_⟩⟩
  rw[bU,aD hk] at h
  exact(fR h).symm
 ·rw[bN c,bx] at h
  obtain⟨r0,e,h⟩:=kj.mp h
  exact⟨r0,e, .inr ⟨fun z=>c z.symm,h.symm⟩⟩
theorem VX(hR:kL p w R)(hp:0<p)(hk:k<R.length):kL p w (fV p inv R k pl):=fun r hr=>by
 obtain⟨i,hi⟩:=iO hr
 obtain⟨r0,e,⟨_,rfl⟩|⟨_,rfl⟩⟩:=EI hi hk
 ·exact(hR r0 (bD e)).mul hp
 ·have:bf p w (R.getD k []):=by rw[bU,aD hk];exact hR _ (cV hk)
  exact(hR r0 (bD e)).less (this.mul hp) hp
theorem Tw(hR:kL p w R)(hp:0<p)(hk:k<R.length)(hinv:∃j,inv*gI (R.getD k []) pl=1+p*j):mK p R (fV p inv R k pl):=by
 have hkk:R.getD k []=R[k]:=by rw[bU,aD hk];rfl
 have kg:bf p w R[k]:=hR _ (cV hk)
 obtain⟨j,hj⟩:=hinv
 rw[hkk] at hj
 intro f
 obtain⟨k1,e1⟩:=ym p inv f R[k]
 constructor
 ·intro h r hr
  obtain⟨i,hi⟩:=iO hr
  obtain⟨r0,e,⟨_,rfl⟩|⟨_,rfl⟩⟩:=EI hi hk
  ·obtain⟨k2,e2⟩:=ym p inv f r0
   rw[e2]
   exact rB (qH (h r0 (bD e))) (tN ..)
  ·rw[hkk]
   obtain⟨k2,e2⟩:=AK p (gI r0 pl) f r0 (mulR p inv R[k]) (by rw[(hR r0 (bD e)).len,(kg.mul hp).len])
   rw[e2,e1]
   refine rB (Cz (h r0 (bD e)) (qH ?_)) (tN ..)
   exact rB (qH (h _ (cV hk))) (tN ..)
 ·intro h
  have hown:p∣az f (mulR p inv R[k]):=by
   refine h _ ?_
   have:(fV p inv R k pl)[k]?=some (mulR p inv R[k]):=by
    unfold fV
    rw[dh (by rw[aj];exact hk),hkk]
   exact bD this
  intro r hr
  obtain⟨i,hi⟩:=iO hr
  by_cases c:i=k
  ·subst c
   rw[aD hk] at hi
   cases hi
   rw[e1] at hown
   obtain⟨q,hq⟩:=hown
   refine⟨gI R[i] pl*(q-k1)-az f R[i]*j,?_⟩
   have:az f R[i]=(inv*gI R[i] pl-p*j)*az f R[i]:=by rw[hj];grind
   rw[this]
   grind
  ·have hm:eK p (gI r pl) r (mulR p inv R[k])∈fV p inv R k pl:=by
    have:(fV p inv R k pl)[i]?=some (eK p (gI r pl) r (mulR p inv R[k])):=by
     unfold fV
     rw[bN (fun z=>c z.symm),bx,hi,hkk]
     rfl
    exact bD this
   obtain⟨k2,e2⟩:=AK p (gI r pl) f r (mulR p inv R[k]) (by rw[(hR r hr).len,(kg.mul hp).len])
   have h3:=h _ hm
   rw[e2] at h3
   have:az f r=(az f r-gI r pl*az f (mulR p inv R[k])+p*k2)+gI r pl*az f (mulR p inv R[k])-p*k2:=by omega
   rw[this]
   exact Cz (rB h3 (qH hown)) (tN ..)
theorem iZ{R:List (List Int)}{i:Nat}(hi:i<R.length):R.getD i []=R[i]:=by rw[bU,aD hi];rfl
theorem Bv{i d:Nat}(hR:kL p w R)(hp:0<p)(hk:k<R.length)(hi:i<R.length)(hd:d<w):
  gI ((fV p inv R k pl).getD i []) d=if i=k then inv*gI (R.getD k []) d%p else(gI (R.getD i []) d-gI (R.getD i []) pl*(inv*gI (R.getD k []) d%p))%p:=by
 have kg:bf p w R[k]:=hR _ (cV hk)
 have Ht:bf p w R[i]:=hR _ (cV hi)
 unfold fV
 rw[bU]
 by_cases c:i=k
 ·subst c
  rw[if_pos rfl,dh (by rw[aj];exact hi),iZ hi]
  exact G4 (by rw[Ht.len];exact hd)
 ·rw[if_neg c,bN (fun z=>c z.symm),bx,aD hi,iZ hk,iZ hi]
  show gI (eK p (gI R[i] pl) R[i] (mulR p inv R[k])) d=_
  rw[RB (by rw[Ht.len];exact hd) (by rw[(kg.mul hp).len];exact hd),G4 (by rw[kg.len];exact hd)]
end
theorem pre_of{D D1 D2:List Nat}{x d:Nat}(e:D++[d]=D1++x::D2)(hx:x∈D)(hn:x∉D1):∃D3,D=D1++x::D3:=by
 rcases List.eq_nil_or_concat D2 with rfl|⟨D3,y,rfl⟩
 ·have h:=List.append_inj' e rfl
  rw[h.1] at hx
  exact absurd hx hn
 ·have e':D++[d]=(D1++x::D3)++[y]:=by rw[e];simp
  exact⟨D3,(List.append_inj' e' rfl).1⟩
structure dW(p:Int)(w:Nat)(R0 R:List (List Int))(T:List (Nat×Nat))(D:List Nat):Prop where
 ok:kL p w R
 len:R.length=R0.length
 sp:mK p R0 R
 nd:(T.map (·.1)).Nodup
 rg:∀q∈T,q.1<R.length/\q.2∈D
 one:∀q∈T,∀i<R.length,gI (R.getD i []) q.2=if i=q.1 then 1 else 0
 zero:∀i<R.length,i∉T.map (·.1)->∀d∈D,gI (R.getD i []) d=0
 ah:∀D1 D2 q,q∈T->D=D1++q.2::D2->q.2∉D1->∀d∈D1,gI (R.getD q.1 []) d=0
section
variable{p inv:Int}{w k d:Nat}{R R0:List (List Int)}{T:List (Nat×Nat)}{D:List Nat}
theorem dW.init(h:kL p w R):dW p w R R [] []:=⟨h,rfl, .refl _ _, .nil,(fun q hq=>by cases hq),(fun q hq=>by cases hq),(fun _ _ _ d hd=>by cases hd),fun _ _ q hq=>by cases hq⟩
theorem dW.skip(h:dW p w R0 R T D)(hz:∀i<R.length,i∉T.map (·.1)->gI (R.getD i []) d=0):dW p w R0 R T (D++[d]):=
 ⟨h.ok,h.len,h.sp,h.nd,fun q hq=>⟨(h.rg q hq).1,kh _ (h.rg q hq).2⟩,h.one,fun i hi hn e he=>by
  rcases ez.mp he with z|z
  ·exact h.zero i hi hn e z
  ·rw[aU.mp z];exact hz i hi hn,fun D1 D2 q hq e hn x hx=>by
  obtain⟨D3,e3⟩:=pre_of e (h.rg q hq).2 hn
  exact h.ah D1 D3 q hq e3 hn x hx⟩
theorem dW.take(h:dW p w R0 R T D)(hp:1<p)(W6:∀e∈D,e<w)(Si:d<w)(hk:k<R.length)(jY:k∉T.map (·.1))(hne:gI (R.getD k []) d≠0)(hinv:∃j,inv*gI (R.getD k []) d=1+p*j):dW p w R0 (fV p inv R k d) (T++[(k,d)]) (D++[d]):=by
 have hp0:0<p:=by omega
 have e1:inv*gI (R.getD k []) d%p=1:=by
  obtain⟨j,hj⟩:=hinv
  rw[hj,B8,n5 (by omega) hp]
 have hk0:∀e∈D,gI (R.getD k []) e=0:=fun e he=>h.zero k hk jY e he
 have vz:∀e∈D,∀i<R.length,gI ((fV p inv R k d).getD i []) e=if i=k then 0 else gI (R.getD i []) e:=fun e he i hi=>by
  rw[Bv h.ok hp0 hk hi (W6 e he),hk0 e he]
  by_cases c:i=k
  ·rw[if_pos c,if_pos c,gZ,pU]
  ·rw[if_neg c,if_neg c,gZ,pU,gZ,uA]
   have hr:bf p w (R.getD i []):=by rw[iZ hi];exact h.ok _ (cV hi)
   obtain⟨a,b⟩:=hr.g (i:=e) hp0
   exact n5 a b
 have IP:∀i<R.length,gI ((fV p inv R k d).getD i []) d=if i=k then 1 else 0:=fun i hi=>by
  rw[Bv h.ok hp0 hk hi Si,e1]
  by_cases c:i=k
  ·rw[if_pos c,if_pos c]
  ·rw[if_neg c,if_neg c,uH,Int.sub_self,pU]
 refine⟨VX h.ok hp0 hk,by rw[qQ,h.len],h.sp.trans (Tw h.ok hp0 hk hinv),?_,fun q hq=>?_,fun q hq i hi=>?_,fun i hi hn e he=>?_,fun D1 D2 q hq e hn x hx=>?_⟩
 ·rw[cS,qd]
  refine⟨h.nd,by simp,fun a ha b hb=>?_⟩
  rw[List.map_singleton,aU] at hb
  rw[hb]
  exact fun z=>jY (by rw[show a=k from z] at ha;exact ha)
 ·rw[qQ]
  rcases ez.mp hq with z|z
  ·exact⟨(h.rg q z).1,kh _ (h.rg q z).2⟩
  ·rw[aU.mp z];exact⟨hk,iY _ (by simp)⟩
 ·rw[qQ] at hi
  rcases ez.mp hq with z|z
  ·rw[vz _ (h.rg q z).2 i hi]
   have QX:k≠q.1:=fun y=>jY (y▸jO z)
   by_cases c:i=k
   ·rw[if_pos c,if_neg (by rw[c];exact QX)]
   ·rw[if_neg c,h.one q z i hi]
  ·rw[aU.mp z];exact IP i hi
 ·rw[qQ] at hi
  rw[cS,ez,not_or] at hn
  have hik:i≠k:=fun y=>hn.2 (by rw[y];simp)
  rcases ez.mp he with z|z
  ·rw[vz e z i hi,if_neg hik]
   exact h.zero i hi hn.1 e z
  ·rw[aU.mp z,IP i hi,if_neg hik]
 ·rcases ez.mp hq with z|z
  ·obtain⟨D3,e3⟩:=pre_of e (h.rg q z).2 hn
   have zf:x∈D:=by rw[e3];exact kh _ hx
   rw[vz x zf q.1 (h.rg q z).1,if_neg (fun y=>jY (by rw[<-y];exact jO z))]
   exact h.ah D1 D3 q z e3 hn x hx
  ·rw[aU.mp z] at e hn⊢
   have zf:x∈D:=by
    have hx':x∈D++[d]:=by rw[e];exact kh _ hx
    rcases ez.mp hx' with y|y
    ·exact y
    ·rw[aU.mp y] at hx;exact absurd hx hn
   rw[vz x zf k hk,if_pos rfl]
end
theorem qi(f g:Nat->Int):∀r:List Int,az (fun i=>f i+g i) r=az f r+az g r
  |[]=>by simp[az]
  | x :: xs => by
    show(f 0+g 0)*x+az _ xs=(f 0*x+az _ xs)+(g 0*x+az _ xs)
    rw[qi (fun i=>f (i+1)) (fun i=>g (i+1)) xs]
    grind
theorem nj:∀(f:Nat->Int) (r:List Int),(∀i<r.length,f i*gI r i=0)->az f r=0
  |_,[],_=>rfl
  | f, x :: xs, h => by
    show f 0*x+az _ xs=0
    rw[nj (fun i=>f (i+1)) xs fun i hi=>h (i+1) (by simpa using hi)]
    have:f 0*x=0:=h 0 (by simp)
    omega
theorem o7:∀(f:Nat->Int) (r:List Int) (pl:Nat),pl<r.length->(∀i<r.length,i≠pl->f i*gI r i=0)->az f r=f pl*gI r pl
  |_,[],_,h,_=>by simp at h
  | f, x :: xs, 0, _, h => by
    show f 0*x+az _ xs=f 0*x
    rw[nj (fun i=>f (i+1)) xs fun i hi=>h (i+1) (by simpa using hi) (by omega)]
    omega
  | f, x :: xs, pl + 1, hl, h => by
    show f 0*x+az _ xs=f (pl+1)*gI xs pl
    rw[o7 (fun i=>f (i+1)) xs pl (by simpa using hl) fun i hi c=>h (i+1) (by simpa using hi) (by omega)]
    have:f 0*x=0:=h 0 (by simp) (by omega)
    omega
theorem Cj:∀(f:Nat->Int) (r:List Int) (i:Nat) (x:Int),i<r.length->az f (r.set i x)=az f r+f i*(x-gI r i)
  |_,[],_,_,h=>by simp at h
  | f, y :: ys, 0, x, _ => by
    show f 0*x+az _ ys=f 0*y+az _ ys+f 0*(x-y)
    grind
  | f, y :: ys, i + 1, x, h => by
    show f 0*y+az _ (ys.set i x)=f 0*y+az _ ys+f (i+1)*(x-gI ys i)
    rw[Cj (fun i=>f (i+1)) ys i x (by simpa using h)]
    grind
theorem Hi:∀(f:Nat->Int) (n:Nat),az f (List.replicate n 0)=0
  |_,0=>rfl
  | f, n + 1 => by
    show f 0*0+az _ (List.replicate n 0)=0
    rw[Hi]
    omega
theorem Ev.inv{G:Gx}{ρ:Rh}{t:TA}{Φ:Pd}(h:Av G ρ t fun es=>∃p b:Int,es.map (·.2)=[.int p, .int b]/\gJ p/\p<10^40/\b%p≠0/\∀u:Int,0<=u->u<p->(∃k,u*b=1+p*k)->Φ true (.int u)):
  Ev G ρ (i9 Au [] E0 t) Φ:=fun nb σ H Q W z=>
 h nb σ H _ W fun es vs H1 ⟨p,b,e,h1,h2,h3,q⟩ s1 q1=>by
  have hd:=q1.all (f:=false) (fun z=>by cases z)
  rw[e] at hd
  unfold af at hd
  obtain⟨x,ys,rfl,d1,hd⟩:=hd
  unfold af at hd
  obtain⟨y,zs,rfl,d2,hd⟩:=hd
  unfold af at hd
  subst hd
  rw[d1.bZ,d2.bZ]
  exact⟨p,b,rfl,h1,h2,h3,fun u u0 u1 u2=>z true _ H1 _ (q u u0 u1 u2) s1 (.int u)⟩
structure iR(p n:Int)(cs:List aN):Prop where
 hp:gJ p
 jV:p<10^40
 n0:1<=n
 n1:n<=400
 cl:cs.length<=500
 ok:∀prs∈cs,(prs.map (·.1)).Nodup/\prs.length<=1000/\∀pr∈prs,0<=pr.1/\pr.1<n/\0<=pr.2/\pr.2<p
def gC(r:List Int)(prs:aN):List Int:=prs.foldl (fun r pr=>r.set pr.1.toNat pr.2) r
def jx(n m c:Nat)(prs:aN):List Int:=(gC (List.replicate (n+m) 0) prs).set (n+c) 1
def dY(n m:Nat)(cs:List aN):List (List Int):=cs.zipIdx.map fun q=>jx n m q.2 q.1
theorem pN:∀(prs:aN) (r:List Int),(gC r prs).length=r.length
  |[],_=>rfl
  | pr :: prs, r => by
    show(gC (r.set pr.1.toNat pr.2) prs).length=_
    rw[pN prs,fX]
theorem Ja:∀(prs:aN) (r:List Int) (x:Int),x∈gC r prs->x∈r\/x∈prs.map (·.2)
  |[],_,x,h=> .inl h
  | pr :: prs, r, x, h => by
    rcases Ja prs (r.set pr.1.toNat pr.2) x h with z|z
    · rcases rT z with y|y
      · exact .inl y
      · exact .inr (by rw[y];simp)
    · exact .inr (by rw[bh];exact bJ _ z)
theorem Ac:∀(prs:aN) (r:List Int) (i:Nat),(∀pr∈prs,pr.1.toNat≠i)->gI (gC r prs) i=gI r i
  |[],_,_,_=>rfl
  | pr :: prs, r, i, h => by
    show gI (gC (r.set pr.1.toNat pr.2) prs) i=_
    rw[Ac prs _ i fun q hq=>h q (bJ _ hq)]
    unfold gI
    rw[bU,bN (h pr (ck ..)),bU]
theorem Ep(f:Nat->Int):∀(prs:aN) (r:List Int),(prs.map (·.1)).Nodup->(∀pr∈prs,0<=pr.1/\pr.1.toNat<r.length/\gI r pr.1.toNat=0)->az f (gC r prs)=az f r+(prs.map fun pr=>f pr.1.toNat*pr.2).sum
  |[],r,_,_=>by simp[gC]
  | pr :: prs, r, hn, h => by
    rw[bh,ic] at hn
    obtain⟨h0,h1,h2⟩:=h pr (ck ..)
    show az f (gC (r.set pr.1.toNat pr.2) prs)=_
    rw[Ep f prs _ hn.2 fun q hq=>?_,Cj f r _ _ h1,h2,bh,nM]
    · grind
    · obtain⟨g0,g1,g2⟩:=h q (bJ _ hq)
      refine⟨g0,by rw[fX];exact g1,?_⟩
      have:pr.1.toNat≠q.1.toNat:=fun z=>hn.1 (by
        have e:pr.1=q.1:=by omega
        rw[e];exact jO hq)
      unfold gI
      rw[bU,bN this,<-bU]
      exact g2
theorem zL(n i:Nat):gI (List.replicate n 0) i=0:=by
 unfold gI
 rw[bU,eV]
 split<;>rfl
section
variable{p n:Int}{cs:List aN}{prs:aN}{m c:Nat}
theorem Vc(f:Nat->Int)(hn:(prs.map (·.1)).Nodup)(h:∀pr∈prs,0<=pr.1/\pr.1<n)(n0:0<=n)(hc:c<m):az f (jx n.toNat m c prs)=(prs.map fun pr=>f pr.1.toNat*pr.2).sum+f (n.toNat+c):=by
 unfold jx
 have h1:gI (gC (List.replicate (n.toNat+m) 0) prs) (n.toNat+c)=0:=by
  rw[Ac _ _ _ fun pr aH=>by have:=h pr aH;omega,zL]
 rw[Cj _ _ _ _ (by rw[pN,jb];omega),h1,Ep f prs _ hn fun pr aH=>?_,Hi]
 ·omega
 ·have:=h pr aH
  exact⟨this.1,by rw[jb];omega,zL ..⟩
theorem QH(hp:1<p)(h:∀pr∈prs,0<=pr.2/\pr.2<p):bf p (n.toNat+m) (jx n.toNat m c prs):=by
 unfold jx
 refine⟨by rw[fX,pN,jb],fun x hx=>?_⟩
 rcases rT hx with z|z
 ·rcases Ja _ _ _ z with y|y
  ·rw[uQ] at y;omega
  ·obtain⟨pr,aH,rfl⟩:=aI.mp y
   exact h pr aH
 ·omega
theorem G0{r:List Int}(h:r∈dY n.toNat m cs):∃c prs,cs[c]?=some prs/\r=jx n.toNat m c prs:=by
 obtain⟨q,hq,rfl⟩:=aI.mp h
 obtain⟨i,hi⟩:=iO hq
 rw[AQ] at hi
 obtain⟨x,e,h2⟩:=kj.mp hi
 subst h2
 exact⟨_,x,by simpa using e,by simp⟩
theorem wJ:(dY n.toNat m cs).length=cs.length:=by unfold dY;rw[aj,List.length_zipIdx]
theorem Nk{c:Nat}(h:cs[c]?=some prs):jx n.toNat m c prs∈dY n.toNat m cs:=by
 unfold dY
 refine aI.mpr ⟨(prs,c),?_,rfl⟩
 refine bD (i:=c) ?_
 rw[AQ,h]
 simp
theorem iR.rows(h:iR p n cs):kL p (n.toNat+cs.length) (dY n.toNat cs.length cs):=fun r hr=>by
 obtain⟨c,prs,e,rfl⟩:=G0 hr
 exact QH h.hp.1 fun pr aH=>((h.ok prs (bD e)).2.2 pr aH).2.2
end
theorem dW.inj{p:Int}{w:Nat}{R0 R:List (List Int)}{T:List (Nat×Nat)}{D:List Nat}(h:dW p w R0 R T D){a b:Nat×Nat}(ha:a∈T)(hb:b∈T)(e:a.2=b.2):a.1=b.1:=by
 have h1:=h.one a ha a.1 (h.rg a ha).1
 have h2:=h.one b hb a.1 (h.rg a ha).1
 rw[if_pos rfl] at h1
 rw[<-e,h1] at h2
 by_cases c:a.1=b.1
 ·exact c
 ·rw[if_neg c] at h2;omega
theorem qM{r:List Int}{i:Nat}{x:Int}(hi:i<r.length)(j:Nat):gI (r.set i x) j=if j=i then x else gI r j:=by
 unfold gI
 rw[bU]
 by_cases c:j=i
 ·subst c;rw[dh hi,if_pos rfl];rfl
 ·rw[bN (fun z=>c z.symm),if_neg c,bU]
theorem nP{v:List Int}{n:Int}(hv:v.length=n.toNat):∀(prs:aN),(∀pr∈prs,0<=pr.1/\pr.1<n)->aL prs (v.map some)=(prs.map fun pr=>gI v pr.1.toNat*pr.2).sum
  |[],_=>rfl
  | pr :: prs, h => by
    show jE _ pr+aL prs _=_
    rw[nP hv prs fun q hq=>h q (bJ _ hq),bh,nM]
    congr 1
    obtain⟨h0,h1⟩:=h pr (ck ..)
    unfold jE gI
    rw[bx,bU,aD (show pr.1.toNat<v.length by omega)]
    exact sI ..
def co(prs:aN)(j:Nat):Int:=(prs.map fun pr=>if pr.1.toNat=j then pr.2 else 0).sum
theorem OT(prs:aN)(pr:Int×Int)(j:Nat):co (prs++[pr]) j=co prs j+if pr.1.toNat=j then pr.2 else 0:=by
 unfold co
 rw[cS,uB]
 simp
end L2
set_option maxRecDepth 100000
set_option maxHeartbeats 4000000
namespace L2
open PySem PySem.Spec PyProof.Rows
theorem Rw{P:Program}{w:World}{k:Key}{v:Value}(h:(c9 P w).is k v=true):RelV (kV k) v:=by
 cases k with
 |inl i=>obtain⟨t,rfl⟩:=rL (k:=i) (v:=v) h;exact⟨t,rfl⟩
 |inr x=>obtain⟨t,rfl⟩:=Value.isStrOf_shape (v:=v) h;exact⟨t,rfl⟩
def wL(X:Cx)(a:Addr):Prop:=∀o u,X.H₀ a≠some (.bG o u)
section
variable{X:Cx}{pins:List (Addr×Obj)}{σ:List (Option V)}{H:Hp}{s:Shared}
theorem Inv.freeze{a:Addr}{ps:List (Key×V)}{o:Obj}(I:Inv X pins σ H s)(h:H a=some (.dK ps))(ho:s.heap.get? a=some o):Inv X pins σ (upd H a (.bG o (.dK ps))) s:=by
 have ne:∀b u,H b=some u->(∀z,u≠ .dK z)->b≠a:=fun b u q z e=>by subst e;rw[h] at q;cases q;exact z _ rfl
 have nn:∀b,H b=none->b≠a:=fun b q e=>by subst e;rw[h] at q;cases q
 refine I.step (h':=s.heap) (g':=s.gens) (d':=s.drawn) (t':=s.toks) (ch:=[]) (fun _ z=>nomatch z) (fun b o _ _ _ e _=>e) (fun b o _ _ _ e _=>⟨o.slots,e⟩) (fun b o _ e n=>by rw[aA (nn b n)];exact n) (fun b o _ e=>⟨o,e⟩)
  (fun b xs q=>by rw[aA (ne b _ q (fun z=>nofun))];exact q) (fun b o u q=>by rw[aA (ne b _ q (fun z=>nofun))];exact q) (fun b p q=>⟨#[],by rw[aA (ne b _ q (fun z=>nofun)),q];simp⟩) (fun m hm=>hm) (fun b u q=>?_) I.bare
 by_cases hb:b=a
 ·subst hb
  rw[aR] at q;cases q
  refine⟨ho,(I.hok b _ h).stay (fun c v hc z=>z) (fun c z=>?_) fun c xs z=>?_⟩
  ·rw[aA (ne c _ z (fun z=>nofun))];exact z
  ·rw[aA (ne c _ z (fun z=>nofun))];exact z
 ·rw[aA hb] at q
  refine(I.hok b u q).stay (fun c v hc z=>z) (fun c z=>?_) fun c xs z=>?_
  ·rw[aA (ne c _ z (fun z=>nofun))];exact z
  ·rw[aA (ne c _ z (fun z=>nofun))];exact z
theorem Inv.mR{a:Addr}{ps:List (Key×V)}{o:Obj}(I:Inv X pins σ H s)(h:H a=some (.bG o (.dK ps)))(nf:wL X a):Inv X pins σ (upd H a (.dK ps)) s:=by
 have ne:∀b u,H b=some u->(∀z z',u≠ .bG z z')->b≠a:=fun b u q z e=>by subst e;rw[h] at q;cases q;exact z _ _ rfl
 have nn:∀b,H b=none->b≠a:=fun b q e=>by subst e;rw[h] at q;cases q
 refine⟨I.ok,I.os,I.bare,⟨I.base.keep,I.base.slot,fun b o q n hx=>?_,I.base.there,fun b xs q=>?_,fun b o u q=>?_,fun b p q=>?_⟩,I.loc,I.cell,?_,fun x c e=>?_,fun p hp=>?_,fun b u q=>?_,I.len⟩
 ·have z:=I.base.free b o q n hx
  rw[aA (nn b z)];exact z
 ·have z:=I.base.tups b xs q
  rw[aA (ne b _ z (fun _ z=>nofun))];exact z
 ·have z:=I.base.jI b o u q
  have:b≠a:=fun e=>by subst e;exact nf _ _ q
  rw[aA this];exact z
 ·obtain⟨m,z⟩:=I.base.k6 b p q
  exact⟨m,by rw[aA (ne b _ z (fun _ z=>nofun))];exact z⟩
 ·rw[aA (nn _ I.free)];exact I.free
 ·rw[aA (nn _ (I.i8 x c e))];exact I.i8 x c e
 ·obtain⟨z1,z2,z3⟩:=I.pin p hp
  exact⟨z1,by rw[aA (nn _ z2)];exact z2,z3⟩
 ·by_cases hb:b=a
  ·subst hb
   rw[aR] at q;cases q
   have w:=(show bK X.prog X.w H s.heap b (.dK ps) from(Rd.ok (.inr ⟨o,h⟩) I.hok))
   refine w.stay (fun c v hc z=>z) (fun c z=>?_) fun c xs z=>?_
   ·rw[aA (ne c _ z (fun _ z=>nofun))];exact z
   ·rw[aA (ne c _ z (fun _ z=>nofun))];exact z
  ·rw[aA hb] at q
   refine(I.hok b u q).stay (fun c v hc z=>z) (fun c z=>?_) fun c xs z=>?_
   ·rw[aA (ne c _ z (fun _ z=>nofun))];exact z
   ·rw[aA (ne c _ z (fun _ z=>nofun))];exact z
end
def we(NF:Addr->Prop)(Q:Hp->Prop)(H:Hp):Prop:=Q H\/∃a o ps,H a=some (.bG o (.dK ps))/\NF a/\Q (upd H a (.dK ps))
def Dn(NF:Addr->Prop)(te:TE):TE:=fun σ H Q=>te σ H fun v=>we NF (Q v)
section
variable{X:Cx}
theorem we.inv{pins:List (Addr×Obj)}{σ:St}{H:Hp}{s:Shared}{Q:Hp->Prop}(I:Inv X pins σ H s)(h:we (wL X) Q H):∃H',Inv X pins σ H' s/\Q H':=by
 rcases h with h|⟨a,o,ps,e,nf,q⟩
 ·exact⟨H,I,h⟩
 ·exact⟨_,I.mR e nf,q⟩
theorem OH{e:Expr}{te:TE}(h:PE X e te):PE X e (Dn (wL X) te):=by
 intro pins s σ H Q I q
 refine aK (h pins s σ H _ I q) fun u s1 ⟨x,H1,I1,r1,q1⟩=>?_
 obtain⟨H8,I8,q8⟩:=we.inv I1 q1
 exact⟨x,H8,I8,r1,q8⟩
end
structure Mv(H H':Hp):Prop where
 lst:∀b xs,H b=some (.lst xs)->H' b=some (.lst xs)
 tup:∀b xs,H b=some (.tup xs)->H' b=some (.tup xs)
 bO:∀b ps,Rd H b (.dK ps)->Rd H' b (.dK ps)
mutual
theorem ai.mv{S:Addr->Prop}{H H':Hp}(m:Mv H H'):∀{d:PyData} {v:V},ai S H d v->ai S H' d v
 | .none,_,h=>by unfold ai at h⊢;exact h
 | .bool _,_,h=>by unfold ai at h⊢;exact h
 | .int _,_,h=>by unfold ai at h⊢;exact h
 | .str _,_,h=>by unfold ai at h⊢;exact h
 | .list ds,_,h=>by unfold ai at h⊢;obtain⟨a,xs,e,n,s,r⟩:=h;exact⟨a,xs,e,n,m.lst _ _ s,af.mv m r⟩
 | .tuple ds,_,h=>by unfold ai at h⊢;obtain⟨a,xs,e,n,s,r⟩:=h;exact⟨a,xs,e,n,m.tup _ _ s,af.mv m r⟩
 | .dict kvs,_,h=>by unfold ai at h⊢;obtain⟨a,xs,e,n,s,r⟩:=h;exact⟨a,xs,e,n,m.bO _ _ s,aq.mv m r⟩
theorem af.mv{S:Addr->Prop}{H H':Hp}(m:Mv H H'):∀{ds:List PyData} {vs:List V},af S H ds vs->af S H' ds vs
 |[],_,h=>by unfold af at h⊢;exact h
 |d::ds,_,h=>by unfold af at h⊢;obtain⟨y,ys,e,h1,h2⟩:=h;exact⟨y,ys,e,ai.mv m h1,af.mv m h2⟩
theorem aq.mv{S:Addr->Prop}{H H':Hp}(m:Mv H H'):∀{ds:List (PyData×PyData)} {vs:List (Key×V)},aq S H ds vs->aq S H' ds vs
 |[],_,h=>by unfold aq at h⊢;exact h
 |d::ds,_,h=>by unfold aq at h⊢;obtain⟨y,ys,e,h1,h2⟩:=h;exact⟨y,ys,e,cg.mv m h1,aq.mv m h2⟩
theorem cg.mv{S:Addr->Prop}{H H':Hp}(m:Mv H H'):∀{d:PyData×PyData} {v:Key×V},cg S H d v->cg S H' d v
 |(k,d),_,h=>by unfold cg at h⊢;exact⟨h.1,ai.mv m h.2⟩
end
theorem Mv.bG{H:Hp}{a:Addr}{o:Obj}{ps:List (Key×V)}(h:H a=some (.dK ps)):Mv H (upd H a (.bG o (.dK ps))) where
 lst:=fun b xs q=>by rw[aA (fun e=>by subst e;rw[h] at q;cases q)];exact q
 tup:=fun b xs q=>by rw[aA (fun e=>by subst e;rw[h] at q;cases q)];exact q
 bO:=fun b qs q=>by
  by_cases e:b=a
  ·subst e
   rcases q with q|⟨u,q⟩
   ·rw[h] at q;cases q;exact .inr ⟨o,aR⟩
   ·rw[h] at q;cases q
  ·rcases q with q|⟨u,q⟩
   ·exact .inl (by rw[aA e];exact q)
   ·exact .inr ⟨u,by rw[aA e];exact q⟩
theorem Mv.mR{H:Hp}{a:Addr}{o:Obj}{ps:List (Key×V)}(h:H a=some (.bG o (.dK ps))):Mv H (upd H a (.dK ps)) where
 lst:=fun b xs q=>by rw[aA (fun e=>by subst e;rw[h] at q;cases q)];exact q
 tup:=fun b xs q=>by rw[aA (fun e=>by subst e;rw[h] at q;cases q)];exact q
 bO:=fun b qs q=>by
  by_cases e:b=a
  ·subst e
   rcases q with q|⟨u,q⟩
   ·rw[h] at q;cases q
   ·rw[h] at q;cases q;exact .inl aR
  ·rcases q with q|⟨u,q⟩
   ·exact .inl (by rw[aA e];exact q)
   ·exact .inr ⟨u,by rw[aA e];exact q⟩
def ju(a:Addr)(u:HO)(H:Hp):Hp:=fun b=>if b=a/\H a≠none then some u else H b
theorem p9{a b:Addr}{u:HO}{H:Hp}:ju a u H b=none↔H b=none:=by
 unfold ju
 by_cases c:b=a/\H a≠none
 ·rw[if_pos c]
  constructor
  ·intro z;cases z
  ·intro z;rw[c.1] at z;exact absurd z c.2
 ·rw[if_neg c]
theorem vf{a b:Addr}{u:HO}{H:Hp}(h:b≠a):ju a u H b=H b:=by
 unfold ju;rw[if_neg (fun z=>h z.1)]
abbrev Gx.fz(G:Gx)(a:Addr)(o:Obj)(ps:List (Key×V)):Gx:={G with H0:=ju a (.bG o (.dK ps)) G.H0,hold:=(false, .fz o ps, .ref a)::G.hold}
section
variable{G:Gx}{ρ bA:Rh}{Φ Ψ:Pd}{ta tb te:TE}{t:TA}{i:Nat}{f g:Bool}{d e:PyData}{ds es:List PyData}{K:PySem.W.Frag}{nb:Addr->Prop}{σ:St}{H:Hp}{a:Addr}{o:Obj}{ps:List (Key×V)}
theorem Gx.vJ{b:Addr}:(G.fz a o ps).S nb f b↔G.S nb f b:=by
 unfold Gx.S
 constructor
 ·rintro(z|z|z|⟨z,q⟩)
  ·exact .inl z
  ·exact .inr (.inl z)
  ·exact .inr (.inr (.inl z))
  ·exact .inr (.inr (.inr ⟨z,fun w=>q (p9.mpr w)⟩))
 ·rintro(z|z|z|⟨z,q⟩)
  ·exact .inl z
  ·exact .inr (.inl z)
  ·exact .inr (.inr (.inl z))
  ·exact .inr (.inr (.inr ⟨z,fun w=>q (p9.mp w)⟩))
theorem cY.mv{H H':Hp}{b l:Addr}(h:cY H b l)(k:∀c xs,H c=some (.lst xs)->H' c=some (.lst xs)):cY H' b l:=by
 obtain⟨ns,x1,x2,x3,x4,h1,h2,h3⟩:=h
 exact⟨ns,x1,x2,x3,x4,k _ _ h1,k _ _ h2,h3⟩
theorem Wd.freeze(W:Wd G nb ρ σ H)(h:H a=some (.dK ps))(hS:¬G.S nb false a)(hT:∀f c v,(f,HD.th c,v)∈G.hold->a∉c.F):Wd (G.fz a o ps) nb ρ σ (upd H a (.bG o (.dK ps))):=by
  have mv:=Mv.bG (o:=o) h
  have hN:NB G.B a:=gR fun z=>hS (.inr (.inr (.inl z)))
  have hnb:¬nb a:=fun z=>hS (.inl z)
  have hG:∀u,G.H0 a=some u->u= .dK ps:=fun u e=>by have:=W.old a u hN e;rw[h] at this;exact(fR this).symm
  have toS:∀f b,(G.fz a o ps).S nb f b->G.S nb f b:=fun f b z=>Gx.vJ.mp z
  refine⟨fun b l e=>(W.ay b l e).mv mv.lst,fun b n=>?_,fun b u n e=>?_,fun b n q=>p9.mpr (W.c6 b n q),fun b n e=>W.gA b n (p9.mp e),W.len,fun b l e=>(W.gB b l e).mv fun c xs q=>?_,fun x m=>?_,fun i s e=>?_,W.apart,W.eE,W.dg⟩
  · by_cases hb:b=a
    · subst hb;exact absurd n hnb
    · rw[aA hb];exact W.live b n
  · by_cases hb:b=a
    · subst hb
      rw[aR]
      change ju b _ G.H0 b=some u at e
      unfold ju at e
      by_cases c:b=b/\G.H0 b≠none
      · rw[if_pos c] at e;exact e
      · rw[if_neg c] at e;exact absurd ⟨rfl,by rw[e];exact jv _⟩ c
    · rw[aA hb]
      change ju a _ G.H0 b=some u at e
      rw[vf hb] at e
      exact W.old b u n e
  · have hc:c≠a:=fun z=>by subst z;have:=hG _ q;cases this
    show ju a _ G.H0 c=_
    rw[vf hc];exact q
  · rcases aP.mp m with e|m
    · subst e
      exact⟨a,rfl,fun z=>hS (toS _ _ z),aR⟩
    · have w:=W.dP x m
      obtain⟨f,x,v⟩:=x
      cases x with
      |d x=>exact(ai.mv mv w).av (toS f)
      | fz u qs =>
        obtain⟨c,e1,e2,e3⟩:=w
        by_cases hc:c=a
        · subst hc
          rw[h] at e3;cases e3
        · exact⟨c,e1,fun z=>e2 (toS _ _ z),by rw[aA hc];exact e3⟩
      | th c =>
        have hc:=hT f c v m
        obtain⟨e,n,q⟩:=w
        exact⟨e,fun b hb=>⟨fun z=>(n b hb).1 (toS _ _ z),by rw[aA (fun z=>by subst z;exact hc hb)];exact(n b hb).2⟩,c.av (toS f) (c.keep ⟨fun b hb o e=>by rw[aA (fun z=>by subst z;exact hc hb)];exact e,fun b xs _=>mv.lst b xs,fun b xs _=>mv.tup b xs,fun b qs _=>mv.bO b qs⟩ q)⟩
  · obtain⟨x,e1,w⟩:=W.ok i s e
    refine⟨x,e1,?_⟩
    cases s with
    |no=>trivial
    |d f d=>obtain⟨v,e,w⟩:=w;exact⟨v,e,(ai.mv mv w).av (toS f)⟩
    |own c f es=>obtain⟨e,n,q,xs,hx,hd⟩:=w;exact⟨e,n,q,xs,mv.lst _ _ hx,(af.mv mv hd).av (toS f)⟩
    |ay=>exact w
    |raw v=>exact w
    | bO c f es =>
      obtain⟨e,n,q,xs,hx,hd⟩:=w
      exact⟨e,n,q,xs,by rw[aA (fun z=>by subst z;exact hnb n)];exact hx,(aq.mv mv hd).av (toS f)⟩
    | cu c =>
      obtain⟨e,n,q⟩:=w
      exact⟨e,n,c.av (toS c.f) (c.keep ⟨fun b hb o e=>by rw[aA (fun z=>by subst z;exact hnb (n _ hb).1)];exact e,fun b xs _=>mv.lst b xs,fun b xs _=>mv.tup b xs,fun b qs _=>mv.bO b qs⟩ q)⟩
theorem Wd.mR(W:Wd (G.fz a o ps) nb ρ σ H)(hG:∀u,G.H0 a=some u->u= .dK ps)(hF:∀f o' qs v,(f,HD.fz o' qs,v)∈G.hold->v≠ .ref a)(hT:∀f c v,(f,HD.th c,v)∈G.hold->a∉c.F):Wd G nb ρ σ (upd H a (.dK ps))/\H a=some (.bG o (.dK ps)):=by
  obtain⟨a',ea,hS',h⟩:=(show gb ((G.fz a o ps).S nb false) H (.fz o ps) (.ref a) from W.dP _ (ck ..))
  cases ea
  have mv:=Mv.mR h
  have toS:∀f b,G.S nb f b->(G.fz a o ps).S nb f b:=fun f b z=>Gx.vJ.mpr z
  have hS:¬G.S nb false a:=fun z=>hS' (toS _ _ z)
  have hN:NB G.B a:=gR fun z=>hS (.inr (.inr (.inl z)))
  have hnb:¬nb a:=fun z=>hS (.inl z)
  refine⟨⟨fun b l e=>(W.ay b l e).mv mv.lst,fun b n=>?_,fun b u n e=>?_,fun b n q=>p9.mp (W.c6 b n q),fun b n e=>W.gA b n (p9.mpr e),W.len,fun b l e=>(W.gB b l e).mv fun c xs q=>?_,fun x m=>?_,fun i s e=>?_,W.apart,W.eE,W.dg⟩,h⟩
  · by_cases hb:b=a
    · subst hb;exact absurd n hnb
    · rw[aA hb];exact W.live b n
  · by_cases hb:b=a
    · subst hb
      rw[aR,hG u e]
    · rw[aA hb]
      exact W.old b u n (by show ju a _ G.H0 b=_;rw[vf hb];exact e)
  · change ju a _ G.H0 c=_ at q
    by_cases hc:c=a
    · subst hc
      unfold ju at q
      by_cases z:c=c/\G.H0 c≠none
      · rw[if_pos z] at q;cases q
      · rw[if_neg z] at q;exact q
    · rw[vf hc] at q;exact q
  · have w:=W.dP x (bJ _ m)
    obtain⟨f,x,v⟩:=x
    cases x with
    |d x=>exact(ai.mv mv w).av (toS f)
    | fz u qs =>
      obtain⟨c,e1,e2,e3⟩:=w
      subst e1
      have hc:c≠a:=fun z=>hF f u qs _ m (by rw[z])
      exact⟨c,rfl,fun z=>e2 (toS _ _ z),by rw[aA hc];exact e3⟩
    | th c =>
      have hc:=hT f c v m
      obtain⟨e,n,q⟩:=w
      exact⟨e,fun b hb=>⟨fun z=>(n b hb).1 (toS _ _ z),by rw[aA (fun z=>by subst z;exact hc hb)];exact(n b hb).2⟩,c.av (toS f) (c.keep ⟨fun b hb o e=>by rw[aA (fun z=>by subst z;exact hc hb)];exact e,fun b xs _=>mv.lst b xs,fun b xs _=>mv.tup b xs,fun b qs _=>mv.bO b qs⟩ q)⟩
  · obtain⟨x,e1,w⟩:=W.ok i s e
    refine⟨x,e1,?_⟩
    cases s with
    |no=>trivial
    |d f d=>obtain⟨v,e,w⟩:=w;exact⟨v,e,(ai.mv mv w).av (toS f)⟩
    |own c f es=>obtain⟨e,n,q,xs,hx,hd⟩:=w;exact⟨e,n,q,xs,mv.lst _ _ hx,(af.mv mv hd).av (toS f)⟩
    |ay=>exact w
    |raw v=>exact w
    | bO c f es =>
      obtain⟨e,n,q,xs,hx,hd⟩:=w
      exact⟨e,n,q,xs,by rw[aA (fun z=>by subst z;exact hnb n)];exact hx,(aq.mv mv hd).av (toS f)⟩
    | cu c =>
      obtain⟨e,n,q⟩:=w
      exact⟨e,n,c.av (toS c.f) (c.keep ⟨fun b hb o e=>by rw[aA (fun z=>by subst z;exact hnb (n _ hb).1)];exact e,fun b xs _=>mv.lst b xs,fun b xs _=>mv.tup b xs,fun b qs _=>mv.bO b qs⟩ q)⟩
abbrev Gx.hz(G:Gx)(a:Addr)(o:Obj)(ps:List (Key×V)):Gx:={G with hold:=(false, .fz o ps, .ref a)::G.hold}
theorem Wd.hz(W:Wd G nb ρ σ H)(hS:¬G.S nb false a)(h:H a=some (.bG o (.dK ps))):Wd (G.hz a o ps) nb ρ σ H:=
 ⟨W.ay,W.live,W.old,W.c6,W.gA,W.len,W.gB,fun x m=>by
  rcases aP.mp m with e|m
  ·subst e;exact⟨a,rfl,hS,h⟩
  ·exact W.dP x m,fun i s e=>by
   obtain⟨x,e1,h⟩:=W.ok i s e
   refine⟨x,e1,?_⟩
   cases s<;>exact h,W.apart,W.eE,W.dg⟩
theorem Wd.D5(W:Wd (G.hz a o ps) nb ρ σ H):Wd G nb ρ σ H/\H a=some (.bG o (.dK ps)):=by
 refine⟨⟨W.ay,W.live,W.old,W.c6,W.gA,W.len,W.gB,fun x m=>W.dP x (bJ _ m),fun i s e=>by
   obtain⟨x,e1,h⟩:=W.ok i s e
   refine⟨x,e1,?_⟩
   cases s<;>exact h,W.apart,W.eE,W.dg⟩,?_⟩
 obtain⟨a',ea,_,h⟩:=(show gb ((G.hz a o ps).S nb false) H (.fz o ps) (.ref a) from W.dP _ (ck ..))
 cases ea
 exact h
end
end L2
set_option maxRecDepth 100000
set_option maxHeartbeats 4000000
namespace L2
open PySem PySem.Spec PyProof.Rows
theorem Sv.lift{G:Gx}{ρ:Rh}{s:TS}{E:DE}{f:Bool}{ds:List PyData}{a:Addr}(i:Nat)(e:ρ[i]?=some (.own a f ds))(hs:dJ ds=true)(h:Sv G (ρ.set i (.own a true ds)) s E):Sv G ρ s E:=fun nb σ H D W K=>by
 obtain⟨x,e1,h1,h2,h3,xs,hx,hd⟩:=W.ok i _ e
 have W':=Sv.CS (g:=true) W e (af.g5 (bC:=G.S nb true) (H':=H) hs hd)
 have:upd H a (.lst xs)=H:=by
  funext b
  by_cases c:b=a
  ·subst c;rw[aR,hx]
  ·rw[aA c]
 rw[this] at W'
 exact h nb σ H D W' K
end L2
set_option maxRecDepth 100000
set_option maxHeartbeats 4000000
namespace L2
open PySem PySem.Spec PyProof.Rows
theorem HK(g h:Nat->Int):∀(l:List Nat) (f:Nat->Int),az f (l.map fun j=>g j+h j)=az f (l.map g)+az f (l.map h)
  |[],_=>rfl
  | j :: l, f => by
    show f 0*(g j+h j)+az _ _=(f 0*g j+az _ _)+(f 0*h j+az _ _)
    rw[HK g h l]
    grind
theorem pB{n i:Nat}(g:Nat->Int)(h:i<n):gI ((List.range n).map g) i=g i:=by
 unfold gI
 rw[bU,bx,CI h]
 rfl
theorem CH{n:Nat}(f:Nat->Int):∀prs:aN,(∀pr∈prs,pr.1.toNat<n)->az f ((List.range n).map (co prs))=(prs.map fun pr=>f pr.1.toNat*pr.2).sum
  | [], _ => by
    rw[nj _ _ fun i hi=>by rw[aj,gG] at hi;rw[pB _ hi];show f i*0=0;rw[gZ]]
    rfl
  | pr :: prs, h => by
    have e:(co (pr::prs))=fun j=>(if pr.1.toNat=j then pr.2 else 0)+co prs j:=by funext j;rfl
    rw[e,HK,CH f prs fun q hq=>h q (bJ _ hq),bh,nM]
    have hp:=h pr (ck ..)
    congr 1
    rw[o7 f _ pr.1.toNat (by rw[aj,gG];exact hp) fun i hi hne=>?_,pB _ hp,if_pos rfl]
    rw[aj,gG] at hi
    rw[pB _ hi,if_neg (fun z=>hne z.symm),gZ]
end L2
set_option maxRecDepth 100000
set_option maxHeartbeats 4000000
namespace L2
open PySem PySem.Spec PyProof.Rows
theorem nX{P:(Addr->Prop)->Prop}{H:Hp}(hP:∀{S S':Addr->Prop},(∀a,S' a->S a)->P S->P S')(hf:∀{S:Addr->Prop} {p:Addr},H p=none->P S->P fun a=>S a\/a=p):∀{L:List Addr} {S:Addr->Prop},(∀a∈L,H a=none)->P S->P fun a=>S a\/a∈L
 |[],S,_,h=>hP (fun a z=>z.elim (fun z=>z) fun z=>by cases z) h
 | p :: L, S, hL, h => hP (fun a z => by
   rcases z with z|z
   ·exact .inl (.inl z)
   ·rcases aP.mp z with z|z
    ·exact .inr z
    ·exact .inl (.inr z)) (hf (hL p (ck ..)) (nX hP hf (L:=L) (fun a m=>hL a (bJ _ m)) h))
section
variable{G:Gx}{ρ:Rh}{nb:Addr->Prop}{σ:St}{H H1:Hp}{i:Nat}{L:List Addr}{c c':Cu}{f:Bool}{d:PyData}{p:Addr}{o:HO}{E:DE}
theorem Wd.Vs(W:Wd G nb ρ σ H)(s1:Step G.B H H1)(ha:∀a∈L,H a=none)(e:∀a∈L,H1 a≠none):Wd G (fun x=>nb x\/x∈L) ρ σ H1/\(∀a∈L,NB G.B a)/\∀f x,G.S (fun x=>nb x\/x∈L) f x->(G.S nb f x\/x∈L):=by
  have hN:∀a∈L,NB G.B a:=fun a m=>NB.new W.ay (ha a m)
  have hA:∀f x,G.S (fun x=>nb x\/x∈L) f x->(G.S nb f x\/x∈L):=fun f x z=>by
    rcases z with (z|z)|z|z|z
    · exact .inl (.inl z)
    · exact .inr z
    · exact .inl (.inr (.inl z))
    · exact .inl (.inr (.inr (.inl z)))
    · exact .inl (.inr (.inr (.inr z)))
  have W1:=W.step s1
  have fD:∀{S:Addr->Prop} {d:PyData} {v:V},ai S H d v->ai (fun a=>S a\/a∈L) H d v:=fun{S d v} h=>nX (P:=fun S=>ai S H d v) (fun z h=>ai.av z h) (fun hp h=>ai.fresh hp h) ha h
  have MN:∀{S:Addr->Prop} {d:List PyData} {v:List V},af S H d v->af (fun a=>S a\/a∈L) H d v:=fun{S d v} h=>nX (P:=fun S=>af S H d v) (fun z h=>af.av z h) (fun hp h=>af.fresh hp h) ha h
  have Wl:∀{S:Addr->Prop} {d:List (PyData×PyData)} {v:List (Key×V)},aq S H d v->aq (fun a=>S a\/a∈L) H d v:=fun{S d v} h=>nX (P:=fun S=>aq S H d v) (fun z h=>aq.av z h) (fun hp h=>aq.fresh hp h) ha h
  have fH:∀{S:Addr->Prop} {d:HD} {v:V},gb S H d v->gb (fun a=>S a\/a∈L) H d v:=fun{S d v} h=>nX (P:=fun S=>gb S H d v) (fun z h=>gb.av h z) (fun hp h=>gb.fresh h hp) ha h
  refine⟨?_,hN,hA⟩
  refine⟨W1.ay,fun x n=>?_,W1.old,fun x n q=>?_,W.gA,W.len,W.gB,fun h m=>((fH (W.dP h m)).keep (s1.but fun x z=> .inl (.inr (.inr (.inl z))))).av (hA h.1),fun j s e'=>?_,W.apart,W.eE,W.dg⟩
  · rcases n with n|n
    · exact W1.live x n
    · exact e x n
  · rcases n with n|n
    · exact W.c6 x n q
    · cases z:G.H0 x with
      |none=>rfl
      |some o=>have:=ha x n;rw[W.old x o q z] at this;cases this
  · obtain⟨x,e1,h⟩:=W.ok j s e'
    refine⟨x,e1,?_⟩
    cases s with
    |no=>trivial
    |d f d=>obtain⟨v,e,h⟩:=h;exact⟨v,e,((fD h).keep (s1.but fun x z=> .inl (.inr (.inr (.inl z))))).av (hA f)⟩
    |own c f es=>obtain⟨e,n,q,xs,hx,hd⟩:=h;exact⟨e, .inl n,q,xs,s1.1 _ _ q hx,((MN hd).keep (s1.but fun x z=> .inl (.inr (.inr (.inl z))))).av (hA f)⟩
    |ay=>exact h
    |raw v=>exact h
    |bO c f es=>obtain⟨e,n,q,xs,hx,hd⟩:=h;exact⟨e, .inl n,q,xs,s1.1 _ _ q hx,((Wl hd).keep (s1.but fun x z=> .inl (.inr (.inr (.inl z))))).av (hA f)⟩
    | cu c =>
      obtain⟨e,n,q⟩:=h
      refine⟨e,fun a ha=>⟨.inl (n a ha).1,(n a ha).2⟩,c.av (hA c.f) (c.keep (.of fun x o hx e=>s1.1 x o ?_ e) (nX (P:=fun S=>c.P S H) (fun z h=>c.av z h) (fun hp h=>c.fresh hp h) ha q))⟩
      rcases hx with hx|hx
      · exact gR fun z=>hx (.inl (.inr (.inr (.inl z))))
      · exact(n x hx).2
theorem nh.Qu{x:Option V}{s:Sl}(h:nh G nb H x s):∀a∈s.adr,nb a/\NB G.B a:=by
 cases s with
 |own a f ds=>intro x hx;rw[aU.mp hx];exact⟨h.2.1,h.2.2.1⟩
 |bO a f ds=>intro x hx;rw[aU.mp hx];exact⟨h.2.1,h.2.2.1⟩
 |cu c=>exact h.2.1
 |no=>intro _ z;cases z
 |d _ _=>intro _ z;cases z
 |ay=>intro _ z;cases z
 |raw _=>intro _ z;cases z
theorem Wd.UD(W:Wd G nb ρ σ H)(s1:Step G.B H H1)(ha:∀a∈c.F,H a=none)(e:∀a∈c.F,H1 a≠none)(hP:c.P (fun x=>G.S nb c.f x\/x∈c.F) H1):Wd G (fun x=>nb x\/x∈c.F) (ρ.set i (.cu c)) (σ.set i (some c.v)) H1:=by
 obtain⟨W2,hN,hA⟩:=W.Vs s1 ha e
 refine W2.set ⟨rfl,fun a m=>⟨.inr m,hN a m⟩,c.av (hA c.f) hP⟩ (fun _ _ _ z=>by cases z) (fun _ _ _ z=>by cases z) (fun x hx j t hj ht hc z=>?_)
 obtain⟨y,e1,h⟩:=W.ok j _ ht
 exact W.live x (h.Qu x z).1 (ha x hx)
theorem Wd.Tp(W:Wd G nb ρ σ H)(e:ρ[i]?=some (.cu c))(hp:p∈c.F)(hv:c'.v=c.v)(hF:∀a∈c'.F,a∈c.F)(h:c'.P (G.S nb c'.f) (upd H p o)):Wd G nb (ρ.set i (.cu c')) σ (upd H p o):=by
 obtain⟨x,e1,h1,h2,h3⟩:=W.ok i _ e
 subst h1
 have hil:i<ρ.length:=(bI.mp e).1
 have W0:Wd G nb (ρ.set i .no) (σ.set i (some c.v)) H:=W.set trivial fun _ _ _ z=>by cases z
 have other:∀(j:Nat) s,(ρ.set i .no)[j]?=some s->s≠ .no->p∉s.adr:=fun j s hs hn=>by
  have hij:i≠j:=fun z=>by subst z;rw[dh hil] at hs;cases hs;exact hn rfl
  rw[bN hij] at hs
  exact W.dg i j c s hij e hs p hp
 have W1:Wd G nb (ρ.set i .no) (σ.set i (some c.v)) (upd H p o):=W0.write (h2 p hp).1 (h2 p hp).2 (fun j a f ds hs z=>other j _ hs (by intro z;cases z) (aU.mpr z.symm)) (fun j a f ds hs z=>other j _ hs (by intro z;cases z) (aU.mpr z.symm)) (fun j c hs=>other j _ hs (by intro z;cases z))
 have W2:=W1.set (i:=i) (s:= .cu c') (x:=some c.v) ⟨by rw[hv],fun a m=>h2 a (hF a m),h⟩ (fun _ _ _ z=>by cases z) (fun _ _ _ z=>by cases z) (fun x hx j t hj ht hc=>by
  rw[bN (bu hj)] at ht
  exact W.dg i j c t (bu hj) e ht x (hF x hx))
 rw[j7,j7] at W2
 have:σ.set i (some c.v)=σ:=by
  apply iy
  intro j
  by_cases hij:i=j
  ·subst hij;rw[dh (by rw[W.len];exact hil),e1]
  ·rw[bN hij]
 rwa[this] at W2
end
end L2
set_option maxRecDepth 100000
set_option maxHeartbeats 4000000
namespace L2
open PySem PySem.Spec PyProof.Rows
abbrev WQ:=Int×Addr×List PyData
section
variable{G:Gx}{ρ:Rh}{ta tb te tk:TE}{E:DE}{i:Nat}{f:Bool}{K:PySem.W.Frag}{Φ:Pd}{a:Addr}{rows:List WQ}
theorem au.Qs{Θ:Bool->List PyData->Prop}(h:Ev G ρ te fun _ x=>∃ks:Ks,x= .dict (ks.map bE)/\ks.length<64/\∀rs:List Int,rs.Pairwise (· <= ·)->rs.Perm (ks.map (·.1))->Θ true (rs.map .int)):au G ρ (fN yf (bR te cy)) Θ:=fun nb σ H Q W z=>
 h nb σ H _ W fun f v H1 x ⟨ks,ex,hl,q⟩ s1 hv=>by
  subst ex
  unfold ai at hv
  obtain⟨a,ps,rfl,n,hp,hd⟩:=hv
  refine⟨a,ps,ks.map (·.1),rfl,hp,aq.keys hd,by rw[aj];exact hl,fun l rs hl' hw qT=>?_⟩
  exact au.fin (f:=true) W s1 hl' (wB rs) (q rs hw qT) z
end
end L2
set_option maxRecDepth 100000
set_option maxHeartbeats 4000000
set_option maxRecDepth 100000
set_option maxHeartbeats 4000000
namespace L2
open PySem PySem.Spec PyProof.Rows
def kq(p d:Addr):HO:= .ext fun h=>h.IsItemsView p d
def Fi:V->List V->Hp->VK->Prop:=fun x vs H Q=>∃a kvs,x= .ref a/\vs=[]/\Rd H a (.dK kvs)/\∀p,H p=none->Q (.ref p) (upd H p (kq p a))
section
variable{X:Cx}
theorem Vq:qO X "dict.items" Fi:=by
 intro pins s σ H x vs v us Q I rx rv h
 obtain⟨a,kvs,rfl,rfl,hH,q⟩:=h
 cases rx
 have xF:=rv.zero
 subst xF
 obtain⟨z,hd,ps,rel,dd⟩:=mP I.hok hH
 refine call_meetsIn Ji dd.typeIs PySem.F.entry_dict_items (PySem.F.args_dict_items_1 _) (meets_dict_items (c9 X.prog X.w) a hd) ⟨⟨ps,dd⟩,?_⟩
 have new:bK X.prog X.w (upd H s.heap.objs.size (kq s.heap.objs.size a)) (s.heap.push {cls:= .type "dict_items",data:= .fields #[.ref a]}) s.heap.objs.size (kq s.heap.objs.size a):=by
  refine⟨⟨_,dX _ rfl,rfl,rfl⟩,⟨_,dX _ rfl⟩,fun h1 h2 z k=>?_⟩
  obtain⟨o,ho,r⟩:=z
  exact⟨o,k o ho,r⟩
 exact⟨.ref s.heap.objs.size,_,I.laid (t':=s.toks) (fun b o e=>bH _ e) (aS _) new,rfl,q _ (I.hok.fresh (aS _))⟩
end
@[reducible] def X3(t:Int×Int×Int):PyData:= .tuple [.int t.1, .int t.2.1, .int t.2.2]
end L2
set_option maxRecDepth 100000
set_option maxHeartbeats 4000000
namespace L2
open PySem PySem.Spec PyProof.Rows
def brk(p:Int)(cs:List aN)(ws:List Int):Nat:=cs.countP fun prs=>decide (aL prs (ws.map some)%p≠0)
end L2
set_option maxRecDepth 100000
set_option maxHeartbeats 4000000
set_option maxRecDepth 100000
set_option maxHeartbeats 4000000
set_option maxRecDepth 100000
set_option maxHeartbeats 4000000
namespace L2
open PySem PySem.Spec PyProof.Rows
structure mW(P:Program)(w:World)(K:PySem.W.Frag)(mg:Str->Option Value)(base:Heap)(C:Addr)(m:Str)(k:Nat)(ps:List Str)(sp:Sp):Prop where
 cl:fS K C
 ex:∃f fd,bB P w K mg base bM k f fd ps sp/\Binds K fd ps []/\Meth K C m f
structure yR(P:Program)(w:World)(K:PySem.W.Frag)(mg:Str->Option Value)(base:Heap)(C:Addr)(x:Str)(k:Nat)(ps:List Str)(sp:Sp):Prop where
 ex:∃f fd,bB P w K mg base bM k f fd ps sp/\Binds K fd ps []/\Mk K C f/\mg x=some (.ref C)
section
variable{X:Cx}{C:Addr}{k:Nat}{ps:List Str}{sp:Sp}{x m:Str}{p pos apos:Pos}{e o:Expr}{es:List Expr}{ta:TE}{t:TA}
theorem JW{pl:Sem Bool}(c:mW X.prog X.w X.K X.mg X.base C m k ps sp)(he:PE X o ta)(hr:dz k X.A)(ha:PA X (e::es) t)
  (hst:starEach (e::es) X.env=(false,eval e X.env)::starEach es X.env:=by rfl) (hpl:(backTo pos (starEach es X.env)).any (·.1)=false:=by rfl)
  (ht : eval (.Call (.Attribute o m apos) (e :: es) [] pos) X.env = (do
   let ov<-eval o X.env
   standAt apos.atName
   let (f,first)<-holding [ov] (getMethod ov m pl)
   callWith pos f first (backTo pos (starEach (e::es) X.env)) (backToKw pos (keywordEach [] X.env))):=by rfl):
  PE X (.Call (.Attribute o m apos) (e::es) [] pos) (rH C m sp [] E0 ta t):=by
 obtain⟨f,fd,F,b,mm⟩:=c.ex
 exact Nz (pl:=pl) he c.cl mm F hr b .nil vV ha hst hpl ht
theorem V0{pl:Sem Bool}(c:mW X.prog X.w X.K X.mg X.base C m k ps sp)(he:PE X o ta)(hr:dz k X.A)
  (ht : eval (.Call (.Attribute o m apos) [] [] pos) X.env = (do
   let ov<-eval o X.env
   standAt apos.atName
   let (f,first)<-holding [ov] (getMethod ov m pl)
   callWith pos f first (backTo pos (starEach [] X.env)) (backToKw pos (keywordEach [] X.env))):=by rfl):
  PE X (.Call (.Attribute o m apos) [] [] pos) (rH C m sp [] E0 ta cy):=by
 obtain⟨f,fd,F,b,mm⟩:=c.ex
 exact Q7 (pl:=pl) he c.cl mm F hr b .nil vV ht
theorem Rv(c:yR X.prog X.w X.K X.mg X.base C x k ps sp)(hr:dz (k+1) X.A)(ha:PA X (e::es) t)(hg:Gl X x:=by rfl)
  (hdb:(x==("__debug__":Str))=false:=by decide) (he:starEach (e::es) X.env=(false,eval e X.env)::starEach es X.env:=by rfl) (hpl:(backTo pos (starEach es X.env)).any (·.1)=false:=by rfl):
  PE X (.Call (.Name x p) (e::es) [] pos) (zX C sp [] E0 t):=by
 obtain⟨f,fd,F,b,M,m⟩:=c.ex
 exact Vk M F hr hg m b .nil vV ha hdb he hpl
end
structure By(c c':Cu)(H H':Hp):Prop where
 v:c'.v=c.v
 f:c'.f=false
 sub:∀a∈c.F,a∈c'.F
 new:∀a∈c'.F,a∈c.F\/H a=none
 kp:∀a o,a∉c.F->H a=some o->H' a=some o
 lv:∀a∈c'.F,H' a≠none
abbrev CF:=Cu->List PyData->(Cu->Pd)->Prop
def Gu(F:CF):Prop:=∀c ds (Φ Ψ:Cu->Pd),F c ds Φ->(∀c f d,Φ c f d->Ψ c f d)->F c ds Ψ
def tB(n:Nat)(F:CF):Sp:=fun vs H Q _=>vs.length=n/\∃(nb:Addr->Prop) (c:Cu) (ws:List V) (ds:List PyData),vs=c.v::ws/\iz nb H/\(∀a∈c.F,nb a)/\c.f=false/\c.P nb H/\af nb H ds ws/\
 F c ds fun c' f d=>∀v H',By c c' H H'->c'.P (fun a=>nb a\/a∈c'.F) H'->ai (fun a=>nb a\/a∈c'.F\/(f=true/\H a≠none)) H' d v->Q v H'
def ou(F:List Addr)(H:Hp)(nb:Addr->Prop):Gx:=⟨none,fun a=>if a∈F then none else H a,fun a=>nb a/\a∉F,[]⟩
structure BV(c c':Cu):Prop where
 v:c'.v=c.v
 f:c'.f=false
 sub:∀a∈c.F,a∈c'.F
def objE(G:Gx)(c:Cu)(Φ:Cu->Pd):DE where
 nx:=fun ρ=>∃c',ρ[0]?=some (.cu c')/\BV c c'/\Φ c' true .none
 rt:=fun _ _=>False
 rw:=fun nb ρ v H=>∃c' f d,ρ[0]?=some (.cu c')/\BV c c'/\Φ c' f d/\ai (G.S nb f) H d v
section
variable{ρ:Rh}{t:TS}{N:List Str}{ws:List V}{ds:List PyData}{nb:Addr->Prop}{H:Hp}{Q:VK}{Φ:Cu->Pd}{c:Cu}
theorem Sv.OA(hl:iz nb H)(hF:∀a∈c.F,nb a)(hf:c.f=false)(hP:c.P nb H)(hd:af nb H ds ws)
    (aF:∀c' f d v H',Φ c' f d->By c c' H H'->c'.P (fun a=>nb a\/a∈c'.F) H'->ai (fun a=>nb a\/a∈c'.F\/(f=true/\H a≠none)) H' d v->Q v H')
    (cI:ρ= .cu c::ds.map (Sl.d false)++List.replicate (N.length-(ds.length+1)) .no) (h:Sv (ou c.F H nb) ρ t (objE (ou c.F H nb) c Φ)):t {nx:=fun _ H'=>Q .aE H',rt:=Q} (start N (c.v::ws)) H:=by
  have hlen:=hd.length
  have ly:∀a,NB (ou c.F H nb).B a:=fun a b l e=>by cases e
  have key:∀{bC ρ' σ' H' c'} {f:Bool} {d:PyData} {v:V},Wd (ou c.F H nb) bC ρ' σ' H'->ρ'[0]?=some (.cu c')->BV c c'->Φ c' f d->ai ((ou c.F H nb).S bC f) H' d v->Q v H':=fun{bC ρ' σ' H' c' f d v} W e up p hv=>by
    obtain⟨x0,e1,h1,h2,h3⟩:=W.ok 0 _ e
    have EG:∀(f:Bool) a,nb a\/a∈c'.F\/(f=true/\H a≠none)->(ou c.F H nb).S bC f a:=fun f a z=>by
      by_cases m:a∈c'.F
      · exact .inl (h2 a m).1
      have m':a∉c.F:=fun z=>m (up.sub a z)
      rcases z with z|z|z
      · exact .inr (.inl ⟨z,m'⟩)
      · exact absurd z m
      · exact .inr (.inr (.inr ⟨z.1,by show(if a∈c.F then none else H a)≠none;rw[if_neg m'];exact z.2⟩))
    refine aF c' f d v H' p ⟨up.v,up.f,up.sub,fun a m=>?_,fun a o n q=>?_,fun a m=>W.live a (h2 a m).1⟩ (c'.av (fun a z=>by rw[up.f];exact EG false a (z.elim .inl fun z=> .inr (.inl z))) h3) (hv.av (EG f))
    · have:=W.c6 a (h2 a m).1 (h2 a m).2
      by_cases z:a∈c.F
      · exact .inl z
      · exact .inr (by have q:(if a∈c.F then none else H a)=none:=this;rwa[if_neg z] at q)
    · exact W.old a o (ly a) (by show(if a∈c.F then none else H a)=_;rw[if_neg n];exact q)
  refine h (fun a=>a∈c.F) _ H _ ⟨fun _ _ z=>(by cases z),fun a z=>hl a (hF a z),fun a o _ e=>?_,fun a z _=>by show(if a∈c.F then none else H a)=none;rw[if_pos z],fun a z=>?_,?_,fun _ _ z=>(by cases z),fun _ m=>(by cases m),fun i s e=>?_,?_,?_,?_⟩ ⟨fun bC ρ' σ' H' ⟨c',e,up,p⟩ W=>key W e up p .aE,fun _ _ _ _ q _=>q.elim,fun _ _ _ _ q _=>q.elim,fun _ _ _ _ _ _ _ q _ _=>q.elim,fun bC ρ' σ' v H' ⟨c',f,d,e,up,p,hv⟩ W=>key W e up p hv⟩
  · have e:(if a∈c.F then none else H a)=some o:=e
    by_cases z:a∈c.F
    · rw[if_pos z] at e;cases e
    · rwa[if_neg z] at e
  · show(if a∈c.F then none else H a)≠none
    rw[if_neg z.2];exact hl a z.1
  · rw[cI];unfold start;simp[hlen]
  · rw[cI] at e
    unfold start
    have av:∀a,(ou c.F H nb).S (fun a=>a∈c.F) false a->nb a:=fun a z=>by
      rcases z with z|z|z|z
      · exact hF a z
      · exact z.1
      · exact absurd (ly a) z
      · cases z.1
    cases i with
    |zero=>simp at e;subst e;exact⟨some c.v,by simp,rfl,fun a m=>⟨m,ly a⟩,by rw[hf];exact c.av av hP⟩
    | succ i =>
      simp only[jK,jw,bh,fE] at e⊢
      by_cases hi:i<ds.length
      · rw[fT (by rw[aj];exact hi)] at e
        obtain⟨v,d,hv,rfl,q⟩:=jo hd e
        refine⟨some v,?_,v,rfl,q.av av⟩
        rw[fT (by rw[aj,hlen];exact hi),bx,hv];rfl
      · rw[gk (by rw[aj];omega),eV] at e
        split at e
        · rename_i h'
          cases e
          refine⟨none,?_,trivial⟩
          rw[aj] at h'
          rw[gk (by rw[aj];omega),eV,if_pos (by rw[aj,hlen];exact h')]
        · cases e
  all_goals
    have sl:∀{i:Nat} {s:Sl},ρ[i+1]?=some s->s.adr=[]:=fun{i s} e1=>by
      rw[cI] at e1
      simp only[jK,jw] at e1
      by_cases hi:i<ds.length
      · rw[fT (by rw[aj];exact hi)] at e1
        obtain⟨_,_,_,z,_⟩:=jo hd e1
        subst z;rfl
      · rw[gk (by rw[aj];omega),eV] at e1
        split at e1
        · cases e1;rfl
        · cases e1
    have s0:∀{s:Sl},ρ[0]?=some s->s= .cu c:=fun{s} e1=>by rw[cI] at e1;simp at e1;exact e1.symm
  · intro i j a f as c2 g cs hij e1
    cases i with
    |zero=>cases s0 e1
    |succ i=>cases sl e1
  · intro i j a f as c2 g cs hij e1
    cases i with
    |zero=>cases s0 e1
    |succ i=>cases sl e1
  · intro i j c2 s hij e1 e2 a m
    cases i with
    | zero =>
      cases j with
      |zero=>exact absurd rfl hij
      |succ j=>rw[sl e2];exact fun z=>by cases z
    | succ i =>
      have:=sl e1
      rw[show Sl.adr (.cu c2)=c2.F from rfl] at this
      rw[this] at m;cases m
end
end L2
set_option maxRecDepth 100000
set_option maxHeartbeats 4000000
namespace L2
open PySem PySem.Spec PyProof.Rows
theorem Kp.sub{S:Addr->Prop}{F F':List Addr}{H H':Hp}(k:Kp S F H H')(h:∀a∈F',a∈F):Kp S F' H H':=⟨fun a m=>k.own a (h a m),k.lst,k.tup,k.bO⟩
def RC(a:Addr)(ds:List PyData):Cu where
 v:= .ref a
 F:=[a]
 f:=false
 P:=fun S H=>∃xs,H a=some (.lst xs)/\af S H ds xs
 keep:=fun k ⟨xs,h,q⟩=>⟨xs,k.own _ (aU.mpr rfl) _ h,af.kp k q⟩
 av:=fun z ⟨xs,h,q⟩=>⟨xs,h,q.av z⟩
 fresh:=fun z ⟨xs,h,q⟩=>⟨xs,h,q.fresh z⟩
inductive Fl where
 |d (d:PyData)|cu (c:Cu)
def Fl.adr:Fl->List Addr
 | .d _=>[]
 | .cu c=>c.F
def jQ(S:Addr->Prop)(H:Hp)(v:V):Fl->Prop
 | .d d=>ai S H d v
 | .cu c=>v=c.v/\c.P S H
abbrev Fs:=List (Str×Fl)
def cF(S:Addr->Prop)(H:Hp):Fs->List (Str×V)->Prop
 |[],vs=>vs=[]
 |f::fs,vs=>∃v ws,vs=(f.1,v)::ws/\jQ S H v f.2/\cF S H fs ws
def gp(x dx:Addr)(fs:Fs):List Addr:=x::dx::fs.flatMap fun f=>f.2.adr
theorem jQ.map{S S':Addr->Prop}{H H':Hp}{v:V}{fl:Fl}(h:jQ S H v fl)(hd:∀d v,ai S H d v->ai S' H' d v)(hc:∀c,fl= .cu c->c.P S H->c.P S' H'):jQ S' H' v fl:=by
 cases fl with
 |d d=>exact hd _ _ h
 |cu c=>exact⟨h.1,hc c rfl h.2⟩
theorem cF.map{S S':Addr->Prop}{H H':Hp}:∀{fs:Fs} {vs:List (Str×V)},cF S H fs vs->(∀d v,ai S H d v->ai S' H' d v)->(∀f∈fs,∀c,f.2= .cu c->c.P S H->c.P S' H')->cF S' H' fs vs
 |[],_,h,_,_=>h
 |f::fs,_,⟨v,ws,e,h1,h2⟩,hd,hc=>⟨v,ws,e,h1.map hd (hc f (ck ..)),cF.map h2 hd fun g m=>hc g (bJ _ m)⟩
theorem Jt{x dx:Addr}{fs:Fs}{f:Str×Fl}(h:f∈fs){a:Addr}(m:a∈f.2.adr):a∈gp x dx fs:=bJ _ (bJ _ (zz.mpr ⟨f,h,m⟩))
def eZ(C x dx:Addr)(fs:Fs):Cu where
 v:= .ref x
 F:=gp x dx fs
 f:=false
 P:=fun S H=>(gp x dx fs).Nodup/\H dx=some (.own x)/\fs.length<=900/\∃vs,H x=some (.ins C dx vs)/\cF S H fs vs
 keep:=fun k ⟨n,h,l,vs,q,r⟩=>⟨n,k.own _ (by simp[gp]) _ h,l,vs,k.own _ (by simp[gp]) _ q,r.map (fun d v z=>ai.kp k z) fun f m c e z=>c.keep (k.sub fun a y=>Jt m (by rw[e];exact y)) z⟩
 av:=fun z ⟨n,h,l,vs,q,r⟩=>⟨n,h,l,vs,q,r.map (fun d v y=>y.av z) fun f m c e y=>c.av z y⟩
 fresh:=fun z ⟨n,h,l,vs,q,r⟩=>⟨n,h,l,vs,q,r.map (fun d v y=>y.fresh z) fun f m c e y=>c.fresh z y⟩
theorem cF.get{S:Addr->Prop}{H:Hp}{f:Str}{fl:Fl}:∀{fs:Fs} {vs:List (Str×V)},cF S H fs vs->fs.lookup f=some fl->∃v,vs.lookup f=some v/\jQ S H v fl
  |[],_,h,e=>by simp at e
  | (g, x) :: fs, _, ⟨v, ws, e, h1, h2⟩, q => by
    subst e
    rw[dR] at q⊢
    cases hb:(f==g) with
    |true=>rw[hb] at q;cases q;exact⟨v,rfl,h1⟩
    |false=>rw[hb] at q;exact cF.get h2 q
theorem cF.no{S:Addr->Prop}{H:Hp}{f:Str}:∀{fs:Fs} {vs:List (Str×V)},cF S H fs vs->fs.lookup f=none->vs.lookup f=none
  |[],_,h,e=>by unfold cF at h;subst h;rfl
  | (g, x) :: fs, _, ⟨v, ws, e, h1, h2⟩, q => by
    subst e
    rw[dR] at q⊢
    cases hb:(f==g) with
    |true=>rw[hb] at q;cases q
    |false=>rw[hb] at q;exact cF.no h2 q
def g7(f:Str)(v:Fl):Fs->Fs
 |[]=>[(f,v)]
 |(g,x)::r=>if g=f then(g,v)::r else(g,x)::g7 f v r
theorem cF.put{S:Addr->Prop}{H:Hp}{f:Str}{fl:Fl}{v:V}(hv:jQ S H v fl):∀{fs:Fs} {vs:List (Str×V)},cF S H fs vs->cF S H (g7 f fl fs) (fU f v vs)
  |[],_,h=>by unfold cF at h;subst h;exact⟨v,[],rfl,hv,rfl⟩
  | (g, x) :: fs, _, ⟨w, ws, e, h1, h2⟩ => by
    subst e
    unfold g7 fU
    by_cases h:g=f
    · rw[if_pos h,if_pos h];exact⟨v,ws,rfl,hv,h2⟩
    · rw[if_neg h,if_neg h];exact⟨w,_,rfl,h1,cF.put hv h2⟩
theorem cF.len{S:Addr->Prop}{H:Hp}:∀{fs:Fs} {vs:List (Str×V)},cF S H fs vs->vs.length=fs.length
 |[],_,h=>by unfold cF at h;subst h;rfl
 |f::fs,_,⟨v,ws,e,h1,h2⟩=>by subst e;simp[cF.len h2]
theorem eZ.is{C x dx:Addr}{fs:Fs}{m:Str}(hm:fs.lookup m=none):∀S H,(eZ C x dx fs).P S H->∃a dx' vs,(eZ C x dx fs).v= .ref a/\H a=some (.ins C dx' vs)/\vs.lookup m=none:=fun S H ⟨n,h,l,vs,q,r⟩=>⟨x,dx,vs,rfl,q,r.no hm⟩
section
variable{G:Gx}{ρ:Rh}{Φ:Pd}{ta tb te:TE}{t:TA}{i:Nat}{E:DE}{C x dx l:Addr}{fs:Fs}{K:PySem.W.Frag}{f m:Str}{d:PyData}{ds:List PyData}
theorem Wd.Qy{nb:Addr->Prop}{σ:St}{H:Hp}(W:Wd G nb ρ σ H)(e:ρ[i]?=some (.cu (eZ C x dx fs))):∃vs,σ[i]?=some (some (.ref x))/\(∀a∈gp x dx fs,nb a/\NB G.B a)/\(gp x dx fs).Nodup/\H dx=some (.own x)/\fs.length<=900/\H x=some (.ins C dx vs)/\cF (G.S nb false) H fs vs:=by
 obtain⟨x0,e1,h1,h2,n,h,l,vs,q,r⟩:=W.ok i _ e
 subst h1
 exact⟨vs,e1,h2,n,h,l,q,r⟩
theorem lookup_mem{fl:Fl}:∀{fs:Fs},fs.lookup f=some fl->(f,fl)∈fs
  |[],h=>by simp at h
  | (g, y) :: r, h => by
    rw[dR] at h
    cases hb:(f==g) with
    |true=>rw[hb] at h;cases h;rw[beq_iff_eq.mp hb];exact ck ..
    |false=>rw[hb] at h;exact bJ _ (lookup_mem h)
theorem Od{fl:Fl}(hl:fs.lookup f=some fl){a:Addr}(m:a∈fl.adr):a∈gp x dx fs:=Jt (lookup_mem hl) m
theorem E5{fl rm:Fl}(h':rm.adr=fl.adr):∀{fs:Fs},fs.lookup f=some fl->((g7 f rm fs).flatMap fun g=>g.2.adr)=fs.flatMap fun g=>g.2.adr
  |[],h=>by simp at h
  | (g, y) :: r, h => by
    unfold g7
    rw[dR] at h
    cases hb:(f==g) with
    | true =>
      rw[hb] at h;cases h
      rw[if_pos (beq_iff_eq.mp hb).symm,sF,sF,h']
    | false =>
      rw[hb] at h
      rw[if_neg (fun z=>by rw[z,beq_self_eq_true] at hb;cases hb),sF,sF,E5 h' h]
theorem E6{fl rm:Fl}:∀{fs:Fs},fs.lookup f=some fl->(g7 f rm fs).length=fs.length
  |[],h=>by simp at h
  | (g, y) :: r, h => by
    unfold g7
    rw[dR] at h
    cases hb:(f==g) with
    |true=>rw[if_pos (beq_iff_eq.mp hb).symm];rfl
    | false =>
      rw[hb] at h
      rw[if_neg (fun z=>by rw[z,beq_self_eq_true] at hb;cases hb),fE,fE,E6 h]
theorem jQ.wr{S:Addr->Prop}{H:Hp}{v:V}{fl:Fl}{p:Addr}{o:HO}(hS:S p)(hp:p∉fl.adr)(h:jQ S H v fl):jQ S (upd H p o) v fl:=
 h.map (fun d v z=>z.keep (bq.set hS)) fun c e z=>c.keep (.of fun a o' m q=>by
  rw[aA]
  ·exact q
  ·rintro rfl
   rcases m with m|m
   ·exact m hS
   ·rw[e] at hp;exact hp m) z
theorem cF.JG{S:Addr->Prop}{H:Hp}{p:Addr}{o:HO}(hS:S p):∀{fs:Fs} {vs:List (Str×V)},(p∉fs.flatMap fun g=>g.2.adr)->cF S H fs vs->cF S (upd H p o) fs vs
  |[],_,_,h=>h
  | g :: fs, _, hp, ⟨v, ws, e, h1, h2⟩ => by
    rw[sF,ez] at hp
    exact⟨v,ws,e,h1.wr hS fun z=>hp (.inl z),cF.JG hS (fun z=>hp (.inr z)) h2⟩
theorem cF.Uz{S:Addr->Prop}{H:Hp}{fl:Fl}{v:V}{p:Addr}{o:HO}(hS:S p)(hv:jQ S (upd H p o) v fl){fs:Fs}{vs:List (Str×V)}(hp:p∉fs.flatMap fun g=>g.2.adr)(h:cF S H fs vs):cF S (upd H p o) (g7 f fl fs) (fU f v vs):=cF.put hv (cF.JG hS hp h)
theorem zG{fl:Fl}:∀{fs:Fs},fs.lookup f=none->g7 f fl fs=fs++[(f,fl)]
  |[],_=>rfl
  | (g, y) :: r, h => by
    unfold g7
    rw[dR] at h
    cases hb:(f==g) with
    |true=>rw[hb] at h;cases h
    | false =>
      rw[hb] at h
      rw[if_neg (fun z=>by rw[z,beq_self_eq_true] at hb;cases hb),zG h];rfl
theorem Sv.uT(e:ρ[i]?=some (.cu (eZ C x dx fs)))(cl:fS K C)(na:gf K C f)(hl:fs.lookup f=none\/∃d0,fs.lookup f=some (.d d0))(hlen:fs.length<900)(h:Ev G ρ te fun _ d=>E.nx (ρ.set i (.cu (eZ C x dx (g7 f (.d d) fs))))):Sv G ρ (JB K (fq i) te f) E:=fun nb σ H D W KK=>
 h nb σ H _ W fun fg v H1 d q s1 hv=>by
  have W1:=W.step s1
  obtain⟨vs,e1,h2,n,h3,len,qx,r⟩:=W1.Qy e
  have Fe:G.S nb false x:= .inl (h2 x (by simp[gp])).1
  have hn:=n
  unfold gp at hn
  obtain⟨n1,n2⟩:=ic.mp hn
  have hdx:dx≠x:=fun z=>n1 (by rw[z];exact ck ..)
  have hx:x∉fs.flatMap fun g=>g.2.adr:=fun z=>n1 (bJ _ z)
  have eF:gp x dx (g7 f (.d d) fs)=gp x dx fs:=by
   unfold gp
   rcases hl with hl|⟨d0,hl⟩
   ·rw[zG hl,List.flatMap_append]
    show _::_::(_++([]++[]))=_
    rw[j8,j8]
   ·rw[E5 (fl:= .d d0) (rm:= .d d) rfl hl]
  have eL:(g7 f (.d d) fs).length<=900:=by
   rcases hl with hl|⟨d0,hl⟩
   ·rw[zG hl,fF,lB];omega
   ·rw[E6 hl];exact len
  refine⟨.ref x,e1,x,C,dx,vs,rfl,qx,cl,na,by rw[r.len];omega,KK.nx nb _ _ _ q ?_⟩
  refine W1.Tp (c':=eZ C x dx (g7 f (.d d) fs)) e (by show x∈gp x dx fs;simp[gp]) rfl (fun a m=>by rw[show(eZ C x dx (g7 f (.d d) fs)).F=gp x dx fs from eF] at m;exact m) ?_
  refine⟨by rw[eF];exact n,by rw[aA hdx];exact h3,eL,_,aR,cF.Uz Fe ?_ hx r⟩
  exact(hv.av (cJ (fun z=>by cases z) fun _ z=>z)).keep (bq.set Fe)
def jD(G:Gx)(ρ:Rh)(ta:TA)(Φ:List PyData->Prop):Prop:=∀nb σ H (Q:List V->Hp->Prop),Wd G nb ρ σ H->(∀ds vs H',Φ ds->Step G.B H H'->af (fun a=>¬NB G.B a) H' ds vs->Q vs H')->ta σ H Q
theorem jD.nil{Θ:List PyData->Prop}(h:Θ []):jD G ρ cy Θ:=fun nb σ H Q W z=>z [] [] H h (.refl W.ay) .nil
theorem jD.cons{Θ:List PyData->Prop}(h:Ev G ρ te fun _ d=>jD G ρ t fun ds=>Θ (d::ds)):jD G ρ (bR te t) Θ:=fun nb σ H Q W z=>
 h nb σ H _ W fun f v H1 d p1 s1 q1=>p1 nb σ H1 _ (W.step s1) fun ds vs H2 p2 s2 q2=>z _ _ H2 p2 (s1.trans s2) (.cons ((q1.av fun a y=> .inr (.inr (.inl y))).keep (s2.but fun _ y=>y)) q2)
theorem Sv.make{n:Nat}{F:CF}(hm:Gu F)(h:Av G ρ t fun es=>es.length+1=n/\∀x dx,F (eZ C x dx []) (es.map (·.2)) fun c' _ d=>d= .none/\E.nx (ρ.set i (.cu c'))):Sv G ρ (i6 (zX C (tB n F) [] E0 t) (ir i)) E:=fun nb σ H D W KK=>
 h nb σ H _ W fun es vs H1 ⟨hl,p⟩ s1 q1 x dx hx hdx hne=>by
  have W1:=W.step s1
  have hsm:cE H1 (upd (upd H1 dx (.own x)) x (.ins C dx [])):=fun a o e=>by
   rw[aA (gH e hx),aA (gH e hdx)];exact e
  have UM:∀a,G.S nb false a->H1 a≠none:=fun a y=>W1.kJ a y
  have fD:af (fun a=>G.S nb false a\/a∈[x,dx]) (upd (upd H1 dx (.own x)) x (.ins C dx [])) (es.map (·.2)) vs:=by
   have hq:=q1.all (f:=false) fun z=>by cases z
   generalize es.map (·.2)=dl at hq
   refine af.keep (bq.of hsm) ?_
   exact nX (P:=fun S=>af S H1 dl vs) (fun z h=>af.av z h) (fun hp h=>af.fresh hp h) (L:=[x,dx]) (fun a m=>by
    rcases aP.mp m with m|m
    ·rw[m];exact hx
    ·rw[aU.mp m];exact hdx) hq
  rw[j8]
  refine⟨by rw[fE,q1.len,hl],fun a=>G.S nb false a\/a∈[x,dx],eZ C x dx [],vs,es.map (·.2),rfl,fun a y=>?_,fun a m=> .inr m,rfl,?_,fD,hm _ _ _ _ (p x dx) fun c' f d ⟨hd0,hp⟩ v H' to hP hd=>?_⟩
  ·rcases y with y|y
   ·cases e:H1 a with
    |none=>exact absurd e (UM a y)
    |some o=>rw[hsm a o e];exact jv _
   ·rcases aP.mp y with m|m
    ·rw[m,aR];exact jv _
    ·rw[aU.mp m,aA hne,aR];exact jv _
  ·refine⟨by simp[gp,bu hne],by rw[aA hne,aR],by decide,[],aR,rfl⟩
  ·subst hd0
   refine⟨hd.vL,?_⟩
   have hfr:∀a∈c'.F,H1 a=none:=fun a m=>by
    rcases to.new a m with y|y
    ·rcases aP.mp y with m|m
     ·rw[m];exact hx
     ·rw[aU.mp m];exact hdx
    ·cases e:H1 a with
     |none=>rfl
     |some o=>rw[hsm a o e] at y;cases y
   have st:Step G.B H1 H':=by
    have sm:cE H1 H':=fun a o e=>to.kp a o (fun m=>by
     rcases aP.mp m with m|m
     ·rw[m,hx] at e;cases e
     ·rw[aU.mp m,hdx] at e;cases e) (hsm a o e)
    exact .same W1.ay sm
   have:=W1.UD (i:=i) (c:=c') st hfr to.lv (c'.av (fun a y=>?_) hP)
   ·rw[to.v] at this
    exact KK.nx _ _ _ _ hp this
   ·rw[to.f] at y
    rcases y with y|y
    ·exact .inl (.inl y)
    ·exact .inr y
end
end L2
set_option maxRecDepth 100000
set_option maxHeartbeats 4000000
set_option maxRecDepth 100000
set_option maxHeartbeats 4000000
set_option maxRecDepth 100000
set_option maxHeartbeats 4000000
set_option maxRecDepth 100000
set_option maxHeartbeats 4000000
set_option maxRecDepth 100000
set_option maxHeartbeats 4000000
namespace L2
open PySem PySem.Spec PyProof.Rows
inductive Oi where
 |own (b:Addr)|dat (x:PyData)
inductive OO where
 |lst (xs:List Oi)|tup (xs:List Oi)|bO (ks:List (Int×Oi))
abbrev Yd:=List (Addr×OO)
end L2
set_option maxRecDepth 100000
set_option maxHeartbeats 4000000
set_option maxRecDepth 100000
set_option maxHeartbeats 4000000
set_option maxRecDepth 100000
set_option maxHeartbeats 4000000
set_option maxRecDepth 100000
set_option maxHeartbeats 4000000
namespace L2
open PySem PySem.Spec PyProof.Rows
structure c8(p:Int)(ls:List Int)(rows:List (List Int)):Prop where
 hp:gJ p
 jV:p<10^40
 k0:1<=ls.length
 k1:ls.length<=200
 lr:∀x∈ls,0<=x/\x<p
 ml:rows.length<=200
 rk:∀r∈rows,kG ls.length r
def gc(k:Int)(c:Nat)(row:List Int):aN:=(row++(if 0<(c:Int) then[k+c-1] else[])).map fun x=>(x,(1:Int))
theorem l9(p k:Int)(c:Nat)(row:List Int):dG p k c row=gc k c row++[(k+c,p-1)]:=rfl
def aZ(p:Int)(ls:List Int)(rows:List (List Int)):Nat->List Int
 |0=>ls
 |c+1=>aZ p ls rows c++[aL (gc ls.length c (rows.getD c [])) ((aZ p ls rows c).map some)%p]
section
variable{p:Int}{ls:List Int}{rows:List (List Int)}
theorem oR:∀c,(aZ p ls rows c).length=ls.length+c
 |0=>rfl
 |c+1=>by show(aZ p ls rows c++[_]).length=_;rw[fF,oR c];rfl
theorem uR{c:Nat}:∀(d i:Nat),i<ls.length+c->(aZ p ls rows (c+d))[i]?=(aZ p ls rows c)[i]?
  |0,_,_=>rfl
  | d + 1, i, h => by
    show(aZ p ls rows (c+d)++[_])[i]?=_
    rw[fT (by rw[oR];omega)]
    exact uR d i h
theorem Ds(hp:0<p)(h:∀x∈ls,0<=x/\x<p):∀c,∀x∈aZ p ls rows c,0<=x/\x<p
  |0,x,hx=>h x hx
  | c + 1, x, hx => by
    rcases ez.mp (show x∈aZ p ls rows c++[_] from hx) with z|z
    · exact Ds hp h c x z
    · rw[aU.mp z];exact⟨fP _ (by omega),fZ _ hp⟩
theorem DI{prs:aN}{a b:List Int}(h:∀pr∈prs,a[pr.1.toNat]?=b[pr.1.toNat]?):aL prs (a.map some)=aL prs (b.map some):=by
 unfold aL
 congr 1
 apply mH
 intro pr aH
 unfold jE
 rw[bx,bx,h pr aH]
theorem sL{k:Int}{c:Nat}{row:List Int}(hk:0<=k)(hr:∀x∈row,0<=x/\x<k):∀pr∈gc k c row,0<=pr.1/\pr.1<k+c/\(pr.1<k\/(0<c/\pr.1=k+c-1)):=fun pr aH=>by
 obtain⟨x,hx,rfl⟩:=aI.mp aH
 rcases ez.mp hx with z|z
 ·have:=hr x z
  exact⟨this.1,by show x<k+c;omega, .inl this.2⟩
 ·split at z
  ·rename_i h
   rw[aU.mp z]
   exact⟨by show 0<=k+c-1;omega,by show k+c-1<k+c;omega, .inr ⟨by omega,rfl⟩⟩
  ·cases z
theorem c8.row(h:c8 p ls rows){c:Nat}(hc:c<rows.length):kG ls.length (rows.getD c []):=by
 rw[bU,aD hc]
 exact h.rk _ (cV hc)
theorem c8.at(h:c8 p ls rows){c:Nat}(hc:c<rows.length):(aZ p ls rows rows.length)[ls.length+c]?=some (aL (gc ls.length c (rows.getD c [])) ((aZ p ls rows rows.length).map some)%p):=by
 have e:rows.length=c+1+(rows.length-(c+1)):=by omega
 have h1:(aZ p ls rows rows.length)[ls.length+c]?=(aZ p ls rows (c+1))[ls.length+c]?:=by
  rw[show aZ p ls rows rows.length=aZ p ls rows (c+1+(rows.length-(c+1))) by rw[<-e]]
  exact uR _ _ (by omega)
 rw[h1]
 show(aZ p ls rows c++[_])[ls.length+c]?=_
 rw[gk (by rw[oR];omega),oR,Nat.sub_self]
 have h2:aL (gc ls.length c (rows.getD c [])) ((aZ p ls rows c).map some)=aL (gc ls.length c (rows.getD c [])) ((aZ p ls rows rows.length).map some):=DI fun pr aH=>by
  have:=sL (c:=c) (by omega) (h.row hc).2.1 pr aH
  rw[show aZ p ls rows rows.length=aZ p ls rows (c+(rows.length-c)) by rw[show c+(rows.length-c)=rows.length by omega]]
  exact(uR _ _ (by omega)).symm
 rw[h2];rfl
theorem c8.EF(h:c8 p ls rows){c:Nat}(hc:c<rows.length):aL (dG p ls.length c (rows.getD c [])) ((aZ p ls rows rows.length).map some)%p=0:=by
 rw[l9,DS,uI,pY (pr:=((ls.length:Int)+c,p-1)) (x:=aL (gc ls.length c (rows.getD c [])) ((aZ p ls rows rows.length).map some)%p) (by rw[show((ls.length:Int)+(c:Int)).toNat=ls.length+c by omega];exact h.at hc)]
 generalize aL (gc ls.length c (rows.getD c [])) ((aZ p ls rows rows.length).map some)=D
 show(D+((p-1)*(D%p)+0))%p=0
 have e1:=Gf D p
 have:D+((p-1)*(D%p)+0)=p*(D/p+D%p):=by
  rw[Int.mul_add,CL,qX]
  omega
 rw[this]
 exact Int.mul_emod_right _ _
theorem qo{k:Int}{c:Nat}(hc:c<rows.length):(fL p k rows)[c]?=some (dG p k c (rows.getD c [])):=by
 unfold fL
 rw[bx,CI hc];rfl
theorem vp{k:Int}:(fL p k rows).length=rows.length:=by unfold fL;rw[aj,gG]
theorem wG{k:Int}{prs:aN}(h:prs∈fL p k rows):∃c<rows.length,prs=dG p k c (rows.getD c []):=by
 unfold fL at h
 obtain⟨c,hc,rfl⟩:=aI.mp h
 exact⟨c,dI.mp hc,rfl⟩
theorem c8.AJ(h:c8 p ls rows):(aZ p ls rows rows.length).length=ls.length+rows.length:=oR _
theorem c8.HL(h:c8 p ls rows):∀x∈aZ p ls rows rows.length,0<=x/\x<p:=Ds (by have:=h.hp.1;omega) h.lr _
theorem c8.HH(h:c8 p ls rows):∀prs∈fL p ls.length rows,aL prs ((aZ p ls rows rows.length).map some)%p=0:=fun prs fG=>by
 obtain⟨c,hc,rfl⟩:=wG fG
 exact h.EF hc
theorem c8.pre(_:c8 p ls rows):∀i<ls.length,(aZ p ls rows rows.length)[i]?=ls[i]?:=fun i hi=>by
 have:=uR (p:=p) (ls:=ls) (rows:=rows) (c:=0) rows.length i (by omega)
 rwa[Nat.zero_add] at this
end
end L2
set_option maxRecDepth 100000
set_option maxHeartbeats 4000000
set_option maxRecDepth 100000
set_option maxHeartbeats 4000000
namespace L2
open PySem PySem.Spec PyProof.Rows
theorem AX{m:Nat}{k:Int}(h0:0<=k)(h1:k<m):fk m k=some k.toNat:=by
 unfold fk
 repeat (first|rw[if_pos (by omega)]|rw[if_neg (by omega)])
def mC(p:Nat):Nat->List (List Int)
 |0=>[[]]
 |n+1=>(List.range p).flatMap fun(a:Nat)=>(mC p n).map fun w=>(a:Int)::w
theorem t7{p:Int}(hp:0<=p):∀{n:Nat} {w:List Int},w∈mC p.toNat n↔bf p n w
  | 0, w => by
    show w∈[[]]↔_
    rw[aU]
    constructor
    · rintro rfl;exact⟨rfl,fun x h=>by cases h⟩
    · intro h;exact oF.mp h.len
  | n + 1, w => by
    show w∈List.flatMap _ _↔_
    rw[zz]
    constructor
    · rintro⟨a,ha,hw⟩
      obtain⟨u,hu,rfl⟩:=aI.mp hw
      have h:=(t7 hp).mp hu
      rw[dI] at ha
      refine⟨by rw[fE,h.len],fun x hx=>?_⟩
      rcases aP.mp hx with z|z
      · omega
      · exact h.rg x z
    · intro h
      cases w with
      |nil=>have:=h.len;cases this
      | cons x xs =>
        have hx:=h.rg x (ck ..)
        refine⟨x.toNat,dI.mpr (by omega),aI.mpr ⟨xs,(t7 hp).mpr ⟨?_,fun y hy=>h.rg y (bJ _ hy)⟩,?_⟩⟩
        · have:=h.len;rw[fE] at this;omega
        · rw[show((x.toNat:Nat):Int)=x by omega]
theorem Jc(p:Nat):∀n,(mC p n).length=p^n
  |0=>rfl
  | n + 1 => by
    show(List.flatMap _ _).length=_
    rw[EV]
    have:(List.map (fun a=>((mC p n).map fun w=>((a:Nat):Int)::w).length) (List.range p))=List.replicate p (p^n):=by
      apply rG
      · simp
      · intro i h1 h2;simp[Jc p n]
    rw[this,DP,ye,mj]
theorem Hx(p:Nat):∀n,(mC p n).Nodup
  |0=>by simp[mC]
  | n + 1 => by
    show(List.flatMap _ _).Nodup
    rw[List.Nodup,Ig]
    refine⟨fun a _=>?_,?_⟩
    · rw[kK]
      exact(Hx p n).imp fun h z=>h (wK z).2
    · refine(uU (n:=p)).imp ?_
      intro a b h x hx y hy z
      obtain⟨u,_,rfl⟩:=aI.mp hx
      obtain⟨v,_,rfl⟩:=aI.mp hy
      have:=(wK z).1
      omega
theorem yo{α β:Type}[DecidableEq β](f:α->β):∀(l:List α) (m:List β),l.Nodup->(∀x∈l,f x∈m)->(∀x∈l,∀y∈l,f x=f y->x=y)->l.length<=m.length
  |[],_,_,_,_=>eU _
  | x :: l, m, hn, hm, hi => by
    obtain⟨h1,h2⟩:=ic.mp hn
    have hx:=hm x (ck ..)
    have ih:=yo f l (m.erase (f x)) h2 (fun y hy=>(List.mem_erase_of_ne (fun z=>h1 (by
      rw[<-hi y (bJ _ hy) x (ck ..) z];exact hy))).mpr (hm y (bJ _ hy))) fun y hy z hz=>hi y (bJ _ hy) z (bJ _ hz)
    rw[List.length_erase_of_mem hx] at ih
    have:=List.length_pos_of_mem hx
    rw[fE]
    omega
noncomputable def fu(p n:Nat)(V:List Int->Prop):List (List Int):=(mC p n).filter fun w=> @decide (V w) (Classical.propDecidable _)
theorem lU{p:Int}{n:Nat}{V:List Int->Prop}(hp:0<=p){w:List Int}:w∈fu p.toNat n V↔bf p n w/\V w:=by
 unfold fu
 simp only[jm,t7 hp,decide_eq_true_eq]
theorem Gr{p n:Nat}{V:List Int->Prop}:(fu p n V).Nodup:=(Hx p n).filter _
def Rk(p:Int)(n:Nat)(V:List Int->Prop)(k:Nat):Prop:=(fu p.toNat n V).length*p.toNat^k=p.toNat^n
section
variable{p:Int}{n k k':Nat}{V V':List Int->Prop}{R:List (List Int)}{r:List Int}
theorem Rk.congr(h:Rk p n V k)(hp:0<=p)(e:∀w,bf p n w->(V w↔V' w)):Rk p n V' k:=by
 have:fu p.toNat n V=fu p.toNat n V':=by
  unfold fu
  refine List.filter_congr fun w hw=>?_
  rw[decide_eq_decide]
  exact e w ((t7 hp).mp hw)
 unfold Rk at h⊢
 rw[<-this];exact h
theorem Rk.uniq(h:Rk p n V k)(h':Rk p n V k')(hp:2<=p):k=k':=by
 unfold Rk at h h'
 have e:=h.trans h'.symm
 have h0:0<(fu p.toNat n V).length:=by
  rcases Nat.eq_zero_or_pos (fu p.toNat n V).length with z|z
  ·rw[z,tP] at h
   have:0<p.toNat^n:=Nat.pow_pos (by omega)
   omega
  ·exact z
 have e2:=Nat.eq_of_mul_eq_mul_left h0 e
 have h1:=(Gy (a:=p.toNat) (by omega)).mp (nN e2)
 have h2:=(Gy (a:=p.toNat) (by omega)).mp (nN e2.symm)
 omega
theorem Rk.all:Rk p n (fun _=>True) 0:=by
 have:fu p.toNat n (fun _=>True)=mC p.toNat n:=by
  unfold fu
  exact List.filter_eq_self.mpr fun w _=>by simp
 unfold Rk
 rw[this,Jc,Bk,tQ]
def addW(p:Int)(w:List Int)(a:Int)(v:List Int):List Int:=List.zipWith (fun x y=>(x+a*y)%p) w v
theorem bf.add{w v:List Int}{a:Int}(h:bf p n w)(h2:bf p n v)(hp:0<p):bf p n (addW p w a v):=by
 refine⟨by unfold addW;rw[rR,h.len,h2.len,Nat.min_self],fun x hx=>?_⟩
 unfold addW at hx
 obtain⟨i,hi⟩:=iO hx
 rw[lD] at hi
 cases e1:w[i]?<;>cases e2:v[i]?<;>rw[e1,e2] at hi<;>simp at hi
 subst hi
 exact⟨fP _ (by omega),fZ _ hp⟩
theorem kR{r:List Int}{i:Nat}(h:r.length<=i):gI r i=0:=by
 unfold gI;rw[bU,eO h];rfl
theorem Cq{w v:List Int}{a:Int}(h:bf p n w)(h2:bf p n v)(i:Nat):gI (addW p w a v) i=(gI w i+a*gI v i)%p:=by
 by_cases c:i<n
 ·unfold gI addW
  rw[bU,lD,bU,bU,aD (show i<w.length by rw[h.len];exact c),aD (show i<v.length by rw[h2.len];exact c)]
  rfl
 ·rw[kR (by unfold addW;rw[rR,h.len,h2.len,Nat.min_self];omega),kR (by rw[h.len];omega),kR (by rw[h2.len];omega),gZ,nV,pU]
theorem Ez:∀(r:List Int) (f g:Nat->Int),(∀i,p∣f i-g i)->p∣az f r-az g r
  |[],_,_,_=>⟨0,by simp[az]⟩
  | x :: xs, f, g, h => by
    obtain⟨a,ha⟩:=Ez xs (fun i=>f (i+1)) (fun i=>g (i+1)) fun i=>h (i+1)
    obtain⟨b,hb⟩:=h 0
    refine⟨b*x+a,?_⟩
    show(f 0*x+az _ xs)-(g 0*x+az _ xs)=_
    have e:f 0=g 0+p*b:=by omega
    rw[e]
    grind
theorem ES(a:Int):∀(f:Nat->Int) (r:List Int),az (fun i=>a*f i) r=a*az f r
  |_,[]=>by simp[az]
  | f, x :: xs => by
    show a*f 0*x+az (fun i=>a*f (i+1)) xs=a*(f 0*x+az _ xs)
    rw[ES a (fun i=>f (i+1)) xs]
    grind
theorem qD{w v:List Int}{a:Int}(h:bf p n w)(h2:bf p n v)(r:List Int):p∣az (gI (addW p w a v)) r-(az (gI w) r+a*az (gI v) r):=by
 rw[<-ES,<-qi]
 refine Ez r _ _ fun i=>?_
 rw[Cq h h2,nE]
 exact⟨-((gI w i+a*gI v i)/p),by grind⟩
theorem zQ{w v:List Int}{a b:Int}(h:bf p n w)(h2:bf p n v)(hp:0<p)(e:a+b=0):addW p (addW p w a v) b v=w:=by
 have h3:=h.add (a:=a) h2 hp
 have h4:=h3.add (a:=b) h2 hp
 apply rG
 ·rw[h4.len,h.len]
 ·intro i g1 g2
  have hi:i<n:=by rw[h.len] at g2;exact g2
  have e1:=Cq (a:=b) h3 h2 i
  rw[Cq h h2] at e1
  have e2:gI (addW p (addW p w a v) b v) i=(addW p (addW p w a v) b v)[i]:=by unfold gI;rw[bU,aD g1];rfl
  have e3:gI w i=w[i]:=by unfold gI;rw[bU,aD g2];rfl
  rw[<-e2,e1,<-e3,Int.emod_add_emod,Int.add_assoc,<-Int.add_mul,e,ja,nV]
  have:=h.g (i:=i) hp
  exact n5 this.1 this.2
def Ex(p:Int)(n:Nat)(V:List Int->Prop):Prop:=∀w v a,bf p n w->bf p n v->V w->V v->V (addW p w a v)
theorem Rk.step(h:Rk p n V k)(hp:gJ p)(hV:Ex p n V){v0:List Int}(hv0:bf p n v0)(JM:V v0)(hne:¬p∣az (gI v0) r):Rk p n (fun w=>V w/\p∣az (gI w) r) (k+1):=by
 have p2:=hp.1
 have hp0:0<p:=by omega
 obtain⟨v1,hv1,JC,m1,e1⟩:∃v1,bf p n v1/\V v1/\∃m,az (gI v1) r=1+p*m:=by
  obtain⟨j,hj⟩:=N8 (p:=p) (b:=az (gI v0) r) (a:=1) hp (fun z=>hne (qm z))
  refine⟨addW p v0 (sol p (az (gI v0) r) 1-1) v0,hv0.add hv0 hp0,hV _ _ _ hv0 hv0 JM JM,?_⟩
  obtain⟨t,ht⟩:=qD (a:=sol p (az (gI v0) r) 1-1) hv0 hv0 r
  exact⟨t+j,by grind⟩
 have hB:∀w,bf p n w->V w->∀a,p∣az (gI w) r+a->(V (addW p w a v1)/\p∣az (gI (addW p w a v1)) r):=fun w hw nA a ha=>by
  refine⟨hV _ _ _ hw hv1 nA JC,?_⟩
  obtain⟨t,ht⟩:=qD (a:=a) hw hv1 r
  obtain⟨s,hs⟩:=ha
  exact⟨t+s+a*m1,by rw[e1] at ht;grind⟩
 obtain⟨Pr,AY⟩:∃Pr:List (Nat×List Int),Pr=(List.range p.toNat).flatMap fun a=>(fu p.toNat n fun w=>V w/\p∣az (gI w) r).map fun w=>(a,w):=⟨_,rfl⟩
 have lE:∀q,q∈Pr↔q.1<p.toNat/\q.2∈fu p.toNat n fun w=>V w/\p∣az (gI w) r:=fun q=>by
  rw[AY,zz]
  constructor
  ·rintro⟨a,ha,hq⟩
   obtain⟨w,hw,rfl⟩:=aI.mp hq
   exact⟨dI.mp ha,hw⟩
  ·rintro⟨ha,hw⟩
   exact⟨q.1,dI.mpr ha,aI.mpr ⟨q.2,hw,rfl⟩⟩
 have XR:Pr.length=p.toNat*(fu p.toNat n fun w=>V w/\p∣az (gI w) r).length:=by
  rw[AY,EV]
  have:(List.map (fun a=>((fu p.toNat n fun w=>V w/\p∣az (gI w) r).map fun w=>((a:Nat),w)).length) (List.range p.toNat))=List.replicate p.toNat (fu p.toNat n fun w=>V w/\p∣az (gI w) r).length:=by
   apply rG
   ·simp
   ·intro i h1 h2;simp
  rw[this,DP]
 have Aj:Pr.Nodup:=by
  rw[AY,List.Nodup,Ig]
  refine⟨fun a _=>?_,?_⟩
  ·rw[kK]
   exact Gr.imp fun h z=>h (ue z).2
  ·refine(uU (n:=p.toNat)).imp ?_
   intro a b h x hx y hy z
   obtain⟨u,_,rfl⟩:=aI.mp hx
   obtain⟨v,_,rfl⟩:=aI.mp hy
   exact h (ue z).1
 have key:∀w,bf p n w->addW p (addW p w (-(az (gI w) r%p)) v1) (az (gI w) r%p) v1=w:=fun w hw=>zQ hw hv1 hp0 (by omega)
 have Xx:(fu p.toNat n V).length<=Pr.length:=by
  refine yo (fun w=>((az (gI w) r%p).toNat,addW p w (-(az (gI w) r%p)) v1)) _ _ Gr (fun w hw=>?_) fun w hw u hu e=>?_
  ·obtain⟨hw,nA⟩:=(lU (by omega)).mp hw
   have m0:=fP (az (gI w) r) (show p≠0 by omega)
   have m1:=fZ (az (gI w) r) hp0
   rw[lE]
   refine⟨by show(az (gI w) r%p).toNat<p.toNat;omega,(lU (by omega)).mpr ⟨hw.add hv1 hp0,hB w hw nA _ ?_⟩⟩
   rw[nE]
   exact⟨az (gI w) r/p,by omega⟩
  ·obtain⟨hw,nA⟩:=(lU (by omega)).mp hw
   obtain⟨hu,Ye⟩:=(lU (by omega)).mp hu
   obtain⟨f1,f2⟩:=ue e
   have a0:=fP (az (gI w) r) (show p≠0 by omega)
   have b0:=fP (az (gI u) r) (show p≠0 by omega)
   have f3:az (gI w) r%p=az (gI u) r%p:=by omega
   rw[<-key w hw,<-key u hu,f2,f3]
 have XY:Pr.length<=(fu p.toNat n V).length:=by
  refine yo (fun q:Nat×List Int=>addW p q.2 q.1 v1) _ _ Aj (fun q hq=>?_) fun q hq q' hq' e=>?_
  ·obtain⟨_,hw⟩:=(lE q).mp hq
   obtain⟨hw,nA,_⟩:=(lU (by omega)).mp hw
   exact(lU (by omega)).mpr ⟨hw.add hv1 hp0,hV _ _ _ hw hv1 nA JC⟩
  ·obtain⟨ha,hw⟩:=(lE q).mp hq
   obtain⟨hw,nA,s,hs⟩:=(lU (by omega)).mp hw
   obtain⟨ha',oK⟩:=(lE q').mp hq'
   obtain⟨oK,Xr,s',hs'⟩:=(lU (by omega)).mp oK
   obtain⟨t,ht⟩:=qD (a:=q.1) hw hv1 r
   obtain⟨t',ht'⟩:=qD (a:=q'.1) oK hv1 r
   have e:addW p q.2 q.1 v1=addW p q'.2 q'.1 v1:=e
   rw[e] at ht
   have hd:p∣(q.1:Int)-q'.1:=⟨t'-t-s+s'+(q'.1:Int)*m1-(q.1:Int)*m1,by rw[e1] at ht ht';grind⟩
   have ea:q.1=q'.1:=by
    rcases wX q.1 q'.1 with z|z|z
    ·have:=mQ (a:=p) (b:=(q'.1:Int)-q.1) (by omega) (by have:=Int.dvd_neg.mpr hd;rwa[Int.neg_sub] at this)
     omega
    ·exact z
    ·have:=mQ (a:=p) (b:=(q.1:Int)-q'.1) (by omega) hd
     omega
   have ew:q.2=q'.2:=by
    rw[<-zQ (a:=q.1) (b:= -(q.1:Int)) hw hv1 hp0 (by omega),e,ea,zQ oK hv1 hp0 (by omega)]
   exact Prod.ext ea ew
 unfold Rk at h⊢
 have:(fu p.toNat n V).length=p.toNat*(fu p.toNat n fun w=>V w/\p∣az (gI w) r).length:=by omega
 rw[this] at h
 rw[<-h,ye]
 generalize (fu p.toNat n fun w=>V w/\p∣az (gI w) r).length=L
 generalize p.toNat^k=M
 rw[mj M,<-oW,mj L]
def VR(p:Int)(R:List (List Int))(w:List Int):Prop:=∀r∈R,p∣az (gI w) r
theorem VR.ln:Ex p n (VR p R):=fun w v a hw hv h1 h2 r hr=>by
 obtain⟨t,ht⟩:=qD (a:=a) hw hv r
 obtain⟨x,hx⟩:=h1 r hr
 obtain⟨y,hy⟩:=h2 r hr
 exact⟨t+x+a*y,by rw[hx,hy] at ht;grind⟩
theorem VR.PX{w:List Int}:VR p (r::R) w↔VR p R w/\p∣az (gI w) r:=
 ⟨fun h=>⟨fun s hs=>h s (bJ _ hs),h r (ck ..)⟩,fun h s hs=>(aP.mp hs).elim (fun e=>e▸h.2) (h.1 s)⟩
theorem VR.nil{w:List Int}:VR p [] w:=fun _ h=>nomatch h
def sO(n pl:Nat):List Int:=(List.range n).map fun i=>if i=pl then 1 else 0
theorem Oc{pl:Nat}(hp:2<=p):bf p n (sO n pl):=by
 refine⟨by unfold sO;rw[aj,gG],fun x hx=>?_⟩
 obtain⟨i,_,rfl⟩:=aI.mp hx
 split<;>omega
theorem zD{pl:Nat}(hpl:pl<n)(i:Nat):gI (sO n pl) i=if i=pl then 1 else 0:=by
 by_cases c:i<n
 ·exact pB (fun i=>if i=pl then 1 else 0) c
 ·rw[kR (by unfold sO;rw[aj,gG];omega),if_neg (by omega)]
theorem Ke{pl:Nat}(hpl:pl<n)(r:List Int):az (gI (sO n pl)) r=gI r pl:=by
 by_cases c:pl<r.length
 ·rw[o7 _ r pl c fun i _ hne=>by rw[zD hpl,if_neg hne,ja],zD hpl,if_pos rfl,qX]
 ·rw[kR (by omega)]
  exact nj _ r fun i hi=>by rw[zD hpl,if_neg (by omega),ja]
theorem Rk.xT(hp:gJ p):∀(L:List (List Int×Nat)),(∀q∈L,q.2<n/\¬p∣gI q.1 q.2)->L.Pairwise (fun a b=>p∣gI b.1 a.2)->Rk p n (VR p (L.map (·.1))) L.length
  |[],_,_=>(Rk.all (p:=p) (n:=n)).congr (by have:=hp.1;omega) fun w _=>⟨fun _=>VR.nil,fun _=>trivial⟩
  | q :: L, h, hl => by
    rw[List.pairwise_cons] at hl
    obtain⟨h1,h2⟩:=h q (ck ..)
    have ih:=Rk.xT hp L (fun x hx=>h x (bJ _ hx)) hl.2
    refine(ih.step hp VR.ln (r:=q.1) (Oc (pl:=q.2) hp.1) (fun r hr=>?_) (by rw[Ke h1];exact h2)).congr (by have:=hp.1;omega) fun w _=>VR.PX.symm
    obtain⟨x,hx,rfl⟩:=aI.mp hr
    rw[Ke h1]
    exact hl.1 x hx
end
def VN(p:Int)(cs:List aN)(w:List Int):Prop:=∀q∈cs,p∣aL q (w.map some)
section
variable{p n:Int}{cs:List aN}{R:List (List Int)}{T:List (Nat×Nat)}{k:Nat}
theorem D7{prs:aN}{w:List Int}{m c:Nat}(hw:w.length=n.toNat)(n0:0<=n)(hn:(prs.map (·.1)).Nodup)(h:∀pr∈prs,0<=pr.1/\pr.1<n)(hc:c<m):az (gI w) (jx n.toNat m c prs)=aL prs (w.map some):=by
 rw[Vc (gI w) hn h n0 hc,nP hw prs h,kR (by omega),nV]
theorem VN.rows(hN:iR p n cs){w:List Int}(hw:w.length=n.toNat):VR p (dY n.toNat cs.length cs) w↔VN p cs w:=by
 have n0:=hN.n0
 constructor
 ·intro h q hq
  obtain⟨c,hc⟩:=iO hq
  obtain⟨g1,g2,g3⟩:=hN.ok q hq
  have:=h _ (Nk (n:=n) (m:=cs.length) hc)
  rwa[D7 hw (by omega) g1 (fun pr aH=>⟨(g3 pr aH).1,(g3 pr aH).2.1⟩) (bI.mp hc).1] at this
 ·intro h r hr
  obtain⟨c,prs,e,rfl⟩:=G0 hr
  obtain⟨g1,g2,g3⟩:=hN.ok prs (bD e)
  rw[D7 hw (by omega) g1 (fun pr aH=>⟨(g3 pr aH).1,(g3 pr aH).2.1⟩) (bI.mp e).1]
  exact h prs (bD e)
theorem dW.rank(hN:iR p n cs)(hS:dW p (n.toNat+cs.length) (dY n.toNat cs.length cs) R T (List.range n.toNat)):Rk p n.toNat (VN p cs) T.length:=by
 have p2:=hN.hp.1
 have h1:=Rk.xT (p:=p) (n:=n.toNat) hN.hp (T.map fun q=>(R.getD q.1 [],q.2)) (fun x hx=>by
  obtain⟨q,hq,rfl⟩:=aI.mp hx
  obtain⟨g1,g2⟩:=hS.rg q hq
  refine⟨dI.mp g2,?_⟩
  show¬p∣gI (R.getD q.1 []) q.2
  rw[hS.one q hq q.1 g1,if_pos rfl]
  intro z
  have:=mQ (by decide) z
  omega) (by
  rw[kK]
  have hnd:=hS.nd
  rw[List.Nodup,kK] at hnd
  refine wY (fun{a b} ha hb hne=>?_) hnd
  show p∣gI (R.getD b.1 []) a.2
  rw[hS.one a ha b.1 (hS.rg b hb).1,if_neg (fun z=>hne z.symm)]
  exact⟨0,by omega⟩)
 rw[aj] at h1
 refine h1.congr (by omega) fun w hw=>?_
 rw[<-VN.rows hN hw.len]
 refine Iff.trans ?_ (hS.sp (gI w)).symm
 constructor
 ·intro h r hr
  obtain⟨i,hi⟩:=iO hr
  have hil:=(bI.mp hi).1
  have hg:R.getD i []=r:=by rw[bU,hi];rfl
  by_cases c:i∈T.map (·.1)
  ·obtain⟨q,hq,rfl⟩:=aI.mp c
   exact h r (aI.mpr ⟨(R.getD q.1 [],q.2),aI.mpr ⟨q,hq,rfl⟩,hg⟩)
  ·refine⟨0,?_⟩
   rw[gZ]
   refine nj _ r fun j hj=>?_
   by_cases cj:j<n.toNat
   ·have:=hS.zero i hil c j (dI.mpr cj)
    rw[hg] at this
    rw[this,gZ]
   ·rw[kR (by rw[hw.len];omega),ja]
 ·intro h r hr
  obtain⟨x,hx,rfl⟩:=aI.mp hr
  obtain⟨q,hq,rfl⟩:=aI.mp hx
  have:=(hS.rg q hq).1
  refine h _ ?_
  show R.getD q.1 []∈R
  rw[iZ this]
  exact cV _
end
def lK(w:Nat)(R:List (List Int))(T:List (Nat×Nat)):Prop:=∀i<R.length,i∉T.map (·.1)->gI (R.getD i []) (w-1)=if i+1=R.length then 1 else 0
theorem lK.take{p inv:Int}{w k d:Nat}{R R0:List (List Int)}{T:List (Nat×Nat)}{D:List Nat}(h:lK w R T)(hS:dW p w R0 R T D)(hp:1<p)(hw:0<w)(hk:k<R.length)(jY:k∉T.map (·.1))(C9:∀i<k,i∉T.map (·.1)->gI (R.getD i []) d=0):lK w (fV p inv R k d) (T++[(k,d)]):=by
 intro i hi hn
 rw[qQ] at hi⊢
 rw[cS,ez,not_or] at hn
 have hik:i≠k:=fun y=>hn.2 (by rw[y];simp)
 have h1:=h i hi hn.1
 have h2:=h k hk jY
 rw[Bv hS.ok (by omega) hk hi (by omega),if_neg hik]
 have hr:bf p w (R.getD i []):=by rw[iZ hi];exact hS.ok _ (cV hi)
 have hb:=hr.g (i:=w-1) (by omega)
 have e:gI (R.getD i []) d*(inv*gI (R.getD k []) (w-1)%p)=0:=by
  by_cases c:k+1=R.length
  ·rw[C9 i (by omega) hn.1,ja]
  ·rw[h2,if_neg c,gZ,pU,gZ]
 rw[e,uA,n5 hb.1 hb.2,h1]
theorem MB{p n:Int}{cs:List aN}(hN:iR p n cs):lK (n.toNat+cs.length) (dY n.toNat cs.length cs) []:=by
 intro i hi _
 rw[wJ] at hi⊢
 have n0:=hN.n0
 have hc:cs[i]?=some cs[i]:=aD hi
 obtain⟨g1,g2,g3⟩:=hN.ok _ (bD hc)
 have e:(dY n.toNat cs.length cs).getD i []=jx n.toNat cs.length i cs[i]:=by
  unfold dY
  rw[bU,bx,AQ,hc]
  simp
 rw[e]
 unfold jx
 rw[qM (by rw[pN,jb];omega),Ac _ _ _ fun pr aH=>by have:=g3 pr aH;omega,zL]
 by_cases c:i+1=cs.length
 ·rw[if_pos (by omega),if_pos c]
 ·rw[if_neg (by omega),if_neg c]
end L2
set_option maxRecDepth 100000
set_option maxHeartbeats 4000000
namespace L2
open PySem PySem.Spec PyProof.Rows
abbrev RF:=Cu->List PyData->Pd->Prop
def qf(F:RF):Prop:=∀c ds (Φ Ψ:Pd),F c ds Φ->(∀f d,Φ f d->Ψ f d)->F c ds Ψ
def jl(n:Nat)(F:RF):Sp:=fun vs H Q _=>vs.length=n/\∃(nb:Addr->Prop) (c:Cu) (ws:List V) (ds:List PyData),vs=c.v::ws/\iz nb H/\(∀a∈c.F,¬nb a/\H a≠none)/\c.P nb H/\af nb H ds ws/\
 F c ds fun f d=>∀v H',cE H H'->ai (fun a=>nb a\/(f=true/\H a≠none)) H' d v->Q v H'
theorem Dh{n:Nat}{F:RF}{vs:List V}{H:Hp}{Q:VK}{E:XK}(h:jl n F vs H Q E):∃(nb:Addr->Prop) (c:Cu) (ws:List V) (ds:List PyData) (Φ:Pd),vs=c.v::ws/\iz nb H/\(∀a∈c.F,¬nb a/\H a≠none)/\c.P nb H/\af nb H ds ws/\(∀f d v H',Φ f d->cE H H'->ai (fun a=>nb a\/(f=true/\H a≠none)) H' d v->Q v H')/\F c ds Φ:=by
 obtain⟨_,nb,c,ws,ds,e,h1,h2,h3,h4,h5⟩:=h
 exact⟨nb,c,ws,ds,_,e,h1,h2,h3,h4,fun f d v H' q=>q v H',h5⟩
section
variable{ρ:Rh}{t:TS}{N:List Str}{ws:List V}{ds:List PyData}{nb:Addr->Prop}{H:Hp}{Q:VK}{Φ:Pd}{c:Cu}
abbrev qW(H:Hp)(nb:Addr->Prop)(c:Cu):Gx:=⟨none,H,nb,[(false, .th c,c.v)]⟩
theorem Sv.Ar(hl:iz nb H)(hF:∀a∈c.F,¬nb a/\H a≠none)(hP:c.P nb H)(hd:af nb H ds ws)(aF:∀f d v H',Φ f d->cE H H'->ai (fun a=>nb a\/(f=true/\H a≠none)) H' d v->Q v H')
    (cI:ρ= .raw c.v::ds.map (Sl.d false)++List.replicate (N.length-(ds.length+1)) .no) (h:Sv (qW H nb c) ρ t {nx:=fun _=>Φ true .none,rt:=Φ}):t {nx:=fun _ H'=>Q .aE H',rt:=Q} (start N (c.v::ws)) H:=by
  have hlen:=hd.length
  have ly:∀a,NB (qW H nb c).B a:=fun a b l e=>by cases e
  have sm:∀{bC ρ' σ' H'},Wd (qW H nb c) bC ρ' σ' H'->cE H H':=fun W a o e=>W.old a o (ly a) e
  have av:∀a,(qW H nb c).S (fun _=>False) false a->nb a:=fun a z=>by
    rcases z with z|z|z|z
    · exact z.elim
    · exact z
    · exact absurd (ly a) z
    · cases z.1
  have sl:∀{i:Nat} {s:Sl},ρ[i]?=some s->s.adr=[]:=fun{i s} e1=>by
    rw[cI] at e1
    cases i with
    |zero=>simp at e1;subst e1;rfl
    | succ i =>
      simp only[jK,jw] at e1
      by_cases hi:i<ds.length
      · rw[fT (by rw[aj];exact hi)] at e1
        obtain⟨_,_,_,z,_⟩:=jo hd e1
        subst z;rfl
      · rw[gk (by rw[aj];omega),eV] at e1
        split at e1
        · cases e1;rfl
        · cases e1
  refine h (fun _=>False) _ H _ ⟨fun _ _ z=>(by cases z),fun _ z=>z.elim,fun _ _ _ e=>e,fun _ z=>z.elim,hl,?_,fun _ _ z=>(by cases z),fun x m=>?_,fun i s e=>?_,?_,?_,?_⟩ ⟨fun bC ρ' σ' H' q W=>aF _ _ _ _ q (sm W) .aE,fun _ _ _ _ q _=>q.elim,fun _ _ _ _ q _=>q.elim,fun bC ρ' σ' f v H' d q W hv=>aF f d v H' q (sm W) (hv.av fun a z=>?_),fun _ _ _ _ _ q _=>q.elim⟩
  · rw[cI];unfold start;simp[hlen]
  · rw[aU.mp m]
    exact⟨rfl,fun a m=>⟨fun z=>(hF a m).1 (av a z),(hF a m).2⟩,c.av av hP⟩
  · rw[cI] at e
    unfold start
    cases i with
    |zero=>simp at e;subst e;exact⟨some c.v,by simp,rfl⟩
    | succ i =>
      simp only[jK,jw,bh,fE] at e⊢
      by_cases hi:i<ds.length
      · rw[fT (by rw[aj];exact hi)] at e
        obtain⟨v,d,hv,rfl,q⟩:=jo hd e
        refine⟨some v,?_,v,rfl,q.av av⟩
        rw[fT (by rw[aj,hlen];exact hi),bx,hv];rfl
      · rw[gk (by rw[aj];omega),eV] at e
        split at e
        · rename_i h'
          cases e
          refine⟨none,?_,trivial⟩
          rw[aj] at h'
          rw[gk (by rw[aj];omega),eV,if_pos (by rw[aj,hlen];exact h')]
        · cases e
  · intro i j a f as c2 g cs hij e1
    cases sl e1
  · intro i j a f as c2 g cs hij e1
    cases sl e1
  · intro i j c2 s hij e1 e2 a m
    have:=sl e1
    rw[show Sl.adr (.cu c2)=c2.F from rfl] at this
    rw[this] at m;cases m
  · rcases z with z|z
    · exact .inr (.inl z)
    · exact .inr (.inr (.inr z))
end
section
variable{G:Gx}{ρ:Rh}{Φ:Pd}{ta tb te:TE}{t:TA}{i n:Nat}{E:DE}{C x dx l:Addr}{fs:Fs}{K:PySem.W.Frag}{f m:Str}{d:PyData}{ds:List PyData}{c:Cu}{F:RF}
theorem SD{nb:Addr->Prop}{σ:St}{H1:Hp}{Q:VK}{vs:List V}(hm:qf F)(W1:Wd G nb ρ σ H1)(q1:af (fun a=>¬NB G.B a) H1 ds vs)(kC:∀a∈c.F,NB G.B a/\H1 a≠none)(kW:c.P (fun a=>¬NB G.B a) H1)(hl:ds.length+1=n)(p:F c ds fun f d=>(f=true\/gX d=true)/\Φ true d)
  (z:∀f v H' d,Φ f d->Step G.B H1 H'->ai (G.S nb f) H' d v->Q v H'):jl n F (c.v::(vs++[])) H1 Q E0:=by
 rw[j8]
 refine⟨by rw[fE,q1.length,hl],fun a=>¬NB G.B a,c,vs,ds,rfl,fun a y=>NB.lO W1.ay y,fun a m=>⟨fun y=>y (kC a m).1,(kC a m).2⟩,kW,q1,hm _ _ _ _ p fun f d ⟨hf,hp⟩ v H' sm hd=>z true v H' d hp (.same W1.ay sm) ?_⟩
 rcases hf with hf|hf
 ·exact hd.av fun a y=> .inr ⟨hf,W1.kJ (f:=true) a y⟩
 ·exact hd.g5 hf
theorem Vh{nb:Addr->Prop}{σ:St}{H:Hp}(W:Wd G nb ρ σ H)(e:ρ[i]?=some (.cu c))(hcf:c.f=false):(∀a∈c.F,NB G.B a/\H a≠none)/\c.P (fun a=>¬NB G.B a) H:=by
 obtain⟨x0,e1,h1,h2,h3⟩:=W.ok i _ e
 exact⟨fun a m=>⟨(h2 a m).2,W.live a (h2 a m).1⟩,c.av (fun a y=> .inr (.inr (.inl y))) h3⟩
theorem Sg{H H1:Hp}(st:Step G.B H H1)(h:(∀a∈c.F,NB G.B a/\H a≠none)/\c.P (fun a=>¬NB G.B a) H):(∀a∈c.F,NB G.B a/\H1 a≠none)/\c.P (fun a=>¬NB G.B a) H1:=by
 refine⟨fun a m=>⟨(h.1 a m).1,JR (h.1 a m).1 st (h.1 a m).2⟩,c.keep (.of fun a o m q=>st.1 a o ?_ q) h.2⟩
 rcases m with m|m
 ·exact gR m
 ·exact(h.1 a m).1
theorem Ev.CA(hm:qf F)(e:ρ[i]?=some (.cu c))(hcf:c.f=false)(hi:∀S H,c.P S H->∃a dx fs,c.v= .ref a/\H a=some (.ins C dx fs)/\fs.lookup m=none)
  (h:jD G ρ t fun ds=>ds.length+1=n/\F c ds fun f d=>(f=true\/gX d=true)/\Φ true d):Ev G ρ (rH C m (jl n F) [] E0 (fq i) t) Φ:=fun nb σ H Q W z=>by
 obtain⟨x0,e1,h1,h2,h3⟩:=W.ok i _ e
 subst h1
 obtain⟨a,dx,fs,g1,g2,g3⟩:=hi _ _ h3
 refine⟨c.v,e1,a,dx,fs,g1,g2,g3,h nb σ H _ W fun ds vs H1 ⟨hl,p⟩ s1 q1=>?_⟩
 have k:=Sg s1 (Vh W e hcf)
 exact SD hm (W.step s1) q1 k.1 k.2 hl p fun f v H' d hp st hv=>z f v H' d hp (s1.trans st) hv
theorem Wd.held{nb:Addr->Prop}{σ:St}{H:Hp}{v:V}(W:Wd G nb ρ σ H)(hh:(false,HD.th c,v)∈G.hold):v=c.v/\(∀a∈c.F,¬G.S nb false a/\H a≠none)/\c.P (G.S nb false) H:=W.dP _ hh
inductive qz:Fl->PyData->Prop
 |d {d:PyData}:qz (.d d) d
 |own {l:Addr} {ds:List PyData}:qz (.cu (RC l ds)) (.list ds)
theorem qz.is{S:Addr->Prop}{H:Hp}{v:V}{fl:Fl}(h:qz fl d)(q:jQ S H v fl)(hS:∀a∈fl.adr,¬S a):ai S H d v:=by
 cases h with
 |d=>exact q
 |own=>obtain⟨e,xs,hx,hd⟩:=q;rw[e];exact .lst (hS _ (aU.mpr rfl)) hx hd
theorem Ev.nQ{fl:Fl}(e:ρ[i]?=some (.raw (.ref x)))(hh:(false,HD.th (eZ C x dx fs),V.ref x)∈G.hold)(cl:fS K C)(na:gf K C f)(hl:fs.lookup f=some fl)(hfl:qz fl d)(h:Φ false d):Ev G ρ (ET K (fq i) f) Φ:=fun nb σ H Q W z=>by
 obtain⟨x0,e1,h1⟩:=W.ok i _ e
 have h1:x0=some (.ref x):=h1
 subst h1
 obtain⟨_,h2,n,h3,len,vs,q,r⟩:=W.held hh
 obtain⟨v,g1,g2⟩:=r.get hl
 exact⟨.ref x,e1,x,C,dx,vs,v,rfl,q,cl,na,g1,z false v H d h (.refl W.ay) (hfl.is g2 fun a m=>(h2 a (Od hl m)).1)⟩
end
end L2
set_option maxRecDepth 100000
set_option maxHeartbeats 4000000
namespace L2
open PySem PySem.Spec PyProof.Rows
def rC(a:Addr)(o:Obj)(ps:List (Key×V)):It:=
 ⟨fun i H=>H a=some (.bG o (.dK ps))/\i<ps.length,fun i H x H'=>∃T p,x= .ref T/\H T=none/\ps[i]?=some p/\H'=upd H T (.tup [kV p.1,p.2]),fun i H=>H a=some (.bG o (.dK ps))/\ps.length=i⟩
theorem KV.at:∀{as:List (Key×V)} {bs:List (Key×Value)} {j:Nat} {p:Key×V} {q:Key×Value},KV as bs->as[j]?=some p->bs[j]?=some q->p.1=q.1/\RelV p.2 q.2:=by
  intro as
  induction as with
  |nil=>intro bs j p q _ h;simp at h
  | cons a0 as ih =>
    intro bs j p q r h1 h2
    cases r with
    | cons r1 r2 =>
      cases j with
      |zero=>simp at h1 h2;subst h1 h2;exact r1
      |succ j=>simp at h1 h2;exact ih r2 h1 h2
theorem Ph{P:Program}{w:World}{K:PySem.W.Frag}{elts:List Expr}{k:Nat}{pos:Pos}(a it:Addr)(hne:a≠it){o:Obj}{ps:List (Key×V)}{vs:List (Key×Value)}{ep:Nat}(rel:KV ps vs)
  (hD:∀h:Heap,h.get? a=some o->h.DictAt (c9 P w) a vs ep):Turn P w K (.Tuple elts k pos) (rC a o ps) [it] it (fun i h=>∃ok ov,IsItemIter h it a i vs.length ep ok ov) where
 mem:=by simp
 obj:=fun i h st b hb=>by
  have e:b=it:=by simpa using hb
  subst e
  obtain⟨ok,ov,e⟩:=st
  exact⟨_,e,fun v z=>by
   have z':Data.fields _=Data.cell v:=z
   cases z'⟩
 keep:=fun i h h' st k=>let ⟨ok,ov,e⟩:=st;⟨ok,ov,k it (by simp) _ e⟩
 item:=by
  intro X hP hw hK hc i pins s σ H E I hf st hg
  subst hP hw hK
  obtain⟨hq,hi⟩:=hg
  obtain⟨ho,_⟩:=(show bK X.prog X.w H s.heap a (.bG o (.dK ps)) from I.hok a _ hq)
  have fi:=hf it (by simp)
  obtain⟨ok,ov,st⟩:=st
  have hl:=rel.length
  have zd:vs[i]?=some vs[i]:=aD (by omega)
  have xE:ps[i]?=some ps[i]:=aD hi
  obtain⟨r1,r2⟩:=KV.at rel xE zd
  generalize vs[i]=kv at zd r1 r2
  generalize ps[i]=p at xE r1 r2
  obtain⟨k0,x0⟩:=kv
  refine wpAny_pyNext_items_item (knd:=c9 X.prog X.w) st (hD _ ho) zd fun key h' hk so ht hsz kp=>⟨.ref s.heap.objs.size,rfl,?_⟩
  refine wpAny_letOwnedTupleGo_items so fun h'' st' sb=>?_
  have mz:s.heap.objs.size≠it:=fun z=>absurd (bw st) (by rw[z];exact iG _)
  have t1:h''.get? s.heap.objs.size=some {cls:= .type "tuple",data:= .seq #[key,x0]}:=(sb.2 _ mz).trans ht
  have hk1:RelV (kV p.1) key:=by rw[r1];exact Rw hk
  refine⟨.ref s.heap.objs.size,upd H s.heap.objs.size (.tup [kV p.1,p.2]),I.Fv (fun b v h1 h2 q=>(sb.2 b h1).trans (kp b v h1 q)) fi fi (aS _) mz mz ⟨_,st⟩ ⟨_,st⟩ ?_,rfl,⟨_,p,rfl,I.hok.fresh (aS _),xE,rfl⟩,⟨key,x0,st'⟩,fun b hb=>?_⟩
  ·exact⟨by show 2<=sizeLine;decide,[key,x0], .cons hk1 (.cons r2 .nil),_,t1,rfl,_,rfl⟩
  ·rw[aA,(hf b hb).1]
   rw[show b=it by simpa using hb]
   exact bu mz
 done:=by
  intro X hP hw hK hc i pins s σ H E I hf st hg
  subst hP hw hK
  obtain⟨hq,hi⟩:=hg
  obtain⟨ho,_⟩:=(show bK X.prog X.w H s.heap a (.bG o (.dK ps)) from I.hok a _ hq)
  have fi:=hf it (by simp)
  obtain⟨ok,ov,st⟩:=st
  have hl:=rel.length
  refine wpAny_pyNext_items_end (knd:=c9 X.prog X.w) (I.ok.hd hc) st (hD _ ho) (eO (by omega)) fun h' kp=>⟨rfl,?_⟩
  exact I.HA (t':=s.toks) (fun b v h1 h2 q=>kp b v h1 q) fi fi
 self:=fun _ _ _ _ _ st h=>let ⟨ok,ov,e⟩:=st;PySem.W.kcp_self e h
section
variable{X:Cx}
def CD(NF:Addr->Prop)(tl:TE):TI:=fun σ H R=>tl σ H fun x H1=>∃p a ps,x= .ref p/\H1 p=some (kq p a)/\p≠a/\((H1 a=some (.dK ps)/\∀o,NF a->R (rC a o ps) (upd H1 a (.bG o (.dK ps))))\/∃o,H1 a=some (.bG o (.dK ps))/\R (rC a o ps) H1)
theorem LD{l:Expr}{elts:List Expr}{k:Nat}{tpos:Pos}{tl:TE}(hl:PE X l tl):PI X (.Tuple elts k tpos) l (CD (wL X) tl):=by
 intro pins s σ H R I h
 refine aK (hl pins s σ H _ I h) fun v s1 ⟨x,H1,I1,r1,q1⟩=>?_
 obtain⟨p,a,ps,e,hp,hpa,q⟩:=q1
 subst e
 cases r1
 have key:∃o H2,s1.heap.get? a=some o/\H2 a=some (.bG o (.dK ps))/\H2 p=some (kq p a)/\Inv X pins σ H2 s1/\R (rC a o ps) H2:=by
  rcases q with ⟨h1,q⟩|⟨o,h1,q⟩
  ·obtain⟨z,hd,vs,rel,o,es,ep,ho,r⟩:=DT I1.hok h1
   refine⟨o,_,ho,aR,by rw[aA hpa];exact hp,I1.freeze h1 ho,q o fun o' u' z=>?_⟩
   rw[I1.base.jI _ _ _ z] at h1;cases h1
  ·obtain⟨ho,_⟩:=(show bK X.prog X.w H1 s1.heap a (.bG o (.dK ps)) from I1.hok a _ h1)
   exact⟨o,H1,ho,h1,hp,I1,q⟩
 obtain⟨o,H2,ho,h2,hp2,I2,q⟩:=key
 obtain⟨z,hd,vs,rel,dd⟩:=mP I2.hok (.inr ⟨o,h2⟩)
 obtain⟨hv,_,_⟩:=I2.hok p _ hp2
 obtain⟨ep,hat⟩:=dd.dictAt
 refine wpAny_pyIter_items (knd:=c9 X.prog X.w) hv hat ?_
 refine⟨s1.heap.objs.size,[s1.heap.objs.size],_,_,H2,rfl,I2.kept (t':=s1.toks) fun b o e=>bH _ e,Ph a _ (cG (bw ho)) rel (fun h hh=>hat.at' fun o' e=>by rw[ho] at e;cases e;exact hh),⟨_,_,dX _ rfl⟩,fun b hb=>?_,q⟩
 have e:b=s1.heap.objs.size:=by simpa using hb
 subst e
 exact I2.nO (aS _) (I2.hok.fresh (aS _))
end
section
variable{G:Gx}{ρ bA:Rh}{ta te:TE}{gt:TG}{K:PySem.W.Frag}{Θ:Bool->List PyData->Prop}{tc:TT}{mp:List (Option Nat)}{nb:Addr->Prop}{σ:St}{H H1:Hp}{a:Addr}{o:Obj}{ps:List (Key×V)}{f:Bool}
theorem G1{J:It}{G':Gx}{n:Nat}{it:Nat->PyData->Prop}{fi:Bool}{acc:Addr}{Qe:Hp->Prop}(hgo:∀i H,H a=some (.bG o (.dK ps))->i<n->J.go i H)(hst:∀H,H a=some (.bG o (.dK ps))->J.stop n H)(hn:n<=10000)
  (hz:∀{nb ρ σ H},Wd G' nb ρ σ H->H a=some (.bG o (.dK ps))) (hy:∀{nb ρ σ H i x H'},Wd G' nb ρ σ H->i<n->J.k7 i H x H'->∃d,it i d/\Step G'.B H H'/\ai (G'.S nb fi) H' d x)
  (W0:Wd G' nb bA σ H1) (hacc:H1 acc=none) (h:dZ G' bA n it fi gt tc te Θ)
  (z:∀σ' H' ds xs fl,Wd G' (fun x=>nb x\/x=acc) bA σ' H'->Step G'.B H1 H'->H' acc=some (.lst xs)->af (G'.S (fun x=>nb x\/x=acc) fl) H' ds xs->Θ (fl||dJ ds) ds->Qe H'):mO J gt tc te acc Qe σ (upd H1 acc (.lst [])):=by
 obtain⟨fl,I,h0,ht,he⟩:=h
 have W1:=W0.more hacc (o:= .lst [])
 have hN:=NB.new W0.ay hacc
 have hno:=rY W0 hacc
 have jh:Step G'.B H1 (upd H1 acc (.lst [])):= .same W0.ay (bQ hacc)
 refine⟨fun i m σ H=>m=n-i/\i<=n/\∃ds xs,Wd G' (fun x=>nb x\/x=acc) bA σ H/\Step G'.B H1 H/\H acc=some (.lst xs)/\af (G'.S (fun x=>nb x\/x=acc) fl) H ds xs/\ds.length<=i/\I i ds,⟨n,by simp,eU _,[],[],W1,jh,aR, .nil,aS _,h0⟩,?_⟩
 rintro i m σ H ⟨rfl,hi,ds,xs,W,st,hx,hd,hl,hI⟩
 by_cases hlt:i<n
 ·refine .inr ⟨hgo i H (hz W) hlt,fun σ H=>∃ds xs,Wd G' (fun x=>nb x\/x=acc) bA σ H/\Step G'.B H1 H/\H acc=some (.lst xs)/\af (G'.S (fun x=>nb x\/x=acc) fl) H ds xs/\ds.length<=i+1/\I (i+1) ds,fun σ' H' q=>⟨n-(i+1),by omega,rfl,hlt,q⟩,fun x H' y=>?_⟩
  obtain⟨d,hit,s2,hdx⟩:=hy W hlt y
  exact su hn hlt (W.step s2) (.inr rfl) hN hno (st.trans s2) hacc (s2.1 _ _ hN hx) (hd.keep s2.cR) hl hdx (ht i d ds hit hl hI) fun σ' H' ds' xs' W' st' hx' hd' hl' hI'=>⟨ds',xs',W',st',hx',hd',hl',hI'⟩
 ·have e:i=n:=by omega
  subst e
  exact .inl ⟨hst H (hz W),z σ H ds xs fl W st hx hd (he ds hl hI)⟩
theorem aq.at{S:Addr->Prop}{H:Hp}:∀{ks:Ks} {ps:List (Key×V)} {i:Nat} {p:Int×PyData},aq S H (ks.map bE) ps->ks[i]?=some p->∃v,ps[i]?=some (Sum.inl p.1,v)/\ai S H p.2 v
  |[],_,_,_,_,e=>by simp at e
  | q :: ks, ps, i, p, h, e => by
    rw[bh] at h
    unfold aq at h
    obtain⟨y,ys,rfl,h1,h2⟩:=h
    cases i with
    | zero =>
      simp at e
      subst e
      obtain⟨y1,y2⟩:=y
      unfold bE cg at h1
      obtain⟨g1,g2⟩:=h1
      refine⟨y2,?_,g2⟩
      have kr:y1=Sum.inl q.1:=by
        have g:EJ (PyData.int q.1) y1:=g1
        cases g;rfl
      rw[kr];rfl
    |succ i=>exact aq.at (i:=i) h2 (by simpa using e)
theorem au.KH{NF:Addr->Prop}{t0:TE}(hm:(mp.filterMap id).Nodup)(cI:jA mp ρ=bA)(hnt:∀f c v,(f,HD.th c,v)∉G.hold)
  (h:Ev G ρ t0 fun fi x=>∃ks:Ks,x= .dict (ks.map bE)/\ks.length<=10000/\∀G':Gx,dZ G' bA ks.length (fun i d=>∃p,ks[i]?=some p/\d= .tuple [.int p.1,p.2]) fi gt tc te Θ):au G ρ (Dn NF (jG (CD NF (wo K "dict" Fi t0)) gt tc te mp)) Θ:=fun nb σ H Q W z=>by
 unfold Dn jG CD wo
 refine h nb σ H _ W fun fi v H1 x ⟨ks,ex,hn,q⟩ s1 hv=>?_
 subst ex
 have W1:=W.step s1
 have hv0:=hv
 unfold ai at hv
 obtain⟨a,ps,rfl,n,hp,hd⟩:=hv
 have hlen:ps.length=ks.length:=by have:=congrArg List.length (aq.keys hd);simpa using this
 have hS:¬G.S nb false a:=fun z=>n (cJ (fun w=>by cases w) (fun _ w=>w) a z)
 have hN:NB G.B a:=gR fun z=>hS (.inr (.inr (.inl z)))
 refine⟨?tv,a,ps,rfl,rfl,hp,fun p vC=>?_⟩
 case tv=>
  refine .inr (.inr (.inl ⟨rfl,?_⟩))
  rcases hp with hp|⟨o,hp⟩
  ·exact .inl ⟨_,hp⟩
  ·exact .inr (.inr ⟨_,_,hp⟩)
 have s2:Step G.B H1 (upd H1 p (kq p a)):= .same W1.ay (bQ vC)
 have W2:=W1.step s2
 have hpa:p≠a:=fun e=>by
  subst e
  rcases hp with hp|⟨o,hp⟩<;>rw[vC] at hp<;>cases hp
 have hv2:ai (G.S nb fi) (upd H1 p (kq p a)) (.dict (ks.map bE)) (.ref a):=hv0.keep s2.cR
 have hp2:Rd (upd H1 p (kq p a)) a (.dK ps):=by
  rcases hp with hp|⟨o,hp⟩
  ·exact .inl (by rw[aA (bu hpa)];exact hp)
  ·exact .inr ⟨o,by rw[aA (bu hpa)];exact hp⟩
 generalize ML:upd H1 p (kq p a)=H2 at s2 W2 hv2 hp2
 have US:H2 p=some (kq p a):=by rw[<-ML];exact aR
 have yl:∀{G':Gx} {o:Obj} {nb ρ σ H i x H'},Wd (G'.hd fi (.dict (ks.map bE)) (.ref a)) nb ρ σ H->H a=some (.bG o (.dK ps))->i<ks.length->(rC a o ps).k7 i H x H'->∃d,(∃p,ks[i]?=some p/\d= .tuple [.int p.1,p.2])/\Step (G'.hd fi (.dict (ks.map bE)) (.ref a)).B H H'/\ai ((G'.hd fi (.dict (ks.map bE)) (.ref a)).S nb fi) H' d x:=fun{G' o nb ρ σ H i x H'} W ha hi hy=>by
  obtain⟨T,r,rfl,hT,hr,rfl⟩:=hy
  obtain⟨a',ps',e',n',lN,hd'⟩:=(show ai (G'.S nb fi) H (.dict (ks.map bE)) (.ref a) from W.cO.2)|>fun h=>by unfold ai at h;exact h
  cases e'
  have Vf:ps'=ps:=by
   rcases lN with lN|⟨o',lN⟩
   ·rw[ha] at lN;cases lN
   ·rw[ha] at lN;cases lN;rfl
  subst Vf
  obtain⟨v,hv,hD⟩:=aq.at hd' (aD hi)
  rw[hr] at hv
  cases hv
  have st:Step G'.B H (upd H T (.tup [kV (Sum.inl ks[i].1),v])):= .same W.ay (bQ hT)
  exact⟨_,⟨_,aD hi,rfl⟩,st, .tup (W.fresh hT) aR (.cons (.int _) (.cons (hD.keep st.cR) .nil))⟩
 refine⟨p,a,ps,rfl,US,hpa,?_⟩
 rcases hp2 with hp2|⟨o,hp2⟩
 ·refine .inl ⟨hp2,fun o nf acc hacc=>?_⟩
  have hG:∀u,G.H0 a=some u->u= .dK ps:=fun u e=>by have:=W2.old a u hN e;rw[hp2] at this;exact(fR this).symm
  have hF:∀f o' qs v,(f,HD.fz o' qs,v)∈G.hold->v≠ .ref a:=fun f o' qs v m e=>by
   obtain⟨c,e1,_,e3⟩:=(show gb (G.S nb f) H2 (.fz o' qs) v from W2.dP _ m)
   rw[e1] at e;cases e
   rw[hp2] at e3;cases e3
  have hT:∀f c v,(f,HD.th c,v)∈G.hold->a∉c.F:=fun f c v m=>absurd m (hnt f c v)
  have mv:=Mv.bG (o:=o) hp2
  have W3:=(W2.freeze (o:=o) hp2 hS hT).hd (f:=fi) (d:= .dict (ks.map bE)) (v:= .ref a) ((ai.mv mv hv2).av fun b z=>Gx.vJ.mp z)
  have W4:Wd ((G.fz a o ps).hd fi (.dict (ks.map bE)) (.ref a)) nb bA (ef mp σ) (upd H2 a (.bG o (.dK ps))):=by rw[<-cI];exact W3.ef hm
  have GY:acc≠a:=fun e=>by subst e;rw[aR] at hacc;cases hacc
  refine G1 (G':=(G.fz a o ps).hd fi (.dict (ks.map bE)) (.ref a)) (n:=ks.length) (fun i H h hi=>⟨h,by omega⟩) (fun H h=>⟨h,hlen⟩) hn (fun W=>(W.cO.1.mR hG hF hT).2) (fun W hi hy=>yl (G':=G.fz a o ps) W (W.cO.1.mR hG hF hT).2 hi hy) W4 hacc (q _) fun σ' H' ds xs fl W' st hx hds nF=>?_
  obtain⟨W5,hz⟩:=W'.cO.1.mR hG hF hT
  refine .inr ⟨a,o,ps,hz,nf,?_⟩
  have Nt:H2 acc=none:=by rw[aA GY] at hacc;exact hacc
  have kT:Step G.B H2 (upd H' a (.dK ps)):=⟨fun b u MX e=>by
   by_cases hb:b=a
   ·subst hb
    rw[hp2] at e;cases e
    exact aR
   ·rw[aA hb]
    exact st.1 b u MX (by rw[aA hb];exact e),W5.ay⟩
  refine oY W (s1.trans s2) Nt kT (by rw[aA GY];exact hx) ((af.mv (Mv.mR hz) hds).av fun b z=>?_) nF z
  exact Gx.vJ.mpr z
 ·refine .inr ⟨o,hp2,fun acc hacc=>?_⟩
  have W3:=(W2.hz hS hp2).hd (f:=fi) (d:= .dict (ks.map bE)) (v:= .ref a) hv2
  have W4:Wd ((G.hz a o ps).hd fi (.dict (ks.map bE)) (.ref a)) nb bA (ef mp σ) H2:=by rw[<-cI];exact W3.ef hm
  refine G1 (G':=(G.hz a o ps).hd fi (.dict (ks.map bE)) (.ref a)) (n:=ks.length) (fun i H h hi=>⟨h,by omega⟩) (fun H h=>⟨h,hlen⟩) hn (fun W=>W.cO.1.D5.2) (fun W hi hy=>yl (G':=G.hz a o ps) W W.cO.1.D5.2 hi hy) W4 hacc (q _) fun σ' H' ds xs fl W' st hx hds nF=>?_
  exact .inl (oY W (s1.trans s2) hacc st hx hds nF z)
end
end L2
set_option maxRecDepth 100000
set_option maxHeartbeats 4000000
namespace L2
open PySem PySem.Spec PyProof.Rows
section
variable{G:Gx}{ρ:Rh}{te:TE}{s:TS}{gt:TG}{E:DE}{K:PySem.W.Frag}
theorem Sv.SO{t1 t2:TE}(h:Ev G ρ t1 fun f1 x=>∃es,x= .list es/\dJ es=true/\∀v,Ev (G.hd f1 (.list es) v) ρ t2 fun f2 y=>∃cT,y= .list cT/\dJ cT=true/\cT.length=es.length/\∀v2,qq ((G.hd f1 (.list es) v).hd f2 (.list cT) v2) ρ es.length (fun i d=>∃e e2,es[i]?=some e/\cT[i]?=some e2/\d= .tuple [e,e2]) true gt s E):Sv G ρ (oS (xu K t1 t2) gt s) E:=fun nb σ H D W KK=>
 h nb σ H _ W fun f1 v H0 x ⟨es,ex,hs,q⟩ s0 hv=>by
  subst ex
  have Wa:=(W.step s0).hd hv
  refine q v nb σ H0 _ Wa fun f2 v2 H1 y ⟨cT,ey,hs2,hlen,q⟩ s1 hv2=>?_
  subst ey
  obtain⟨I,h0,ht,he⟩:=q v2
  have W0:=(Wa.step s1).hd hv2
  obtain⟨_,hv'⟩:=(Wa.step s1).cO
  obtain⟨a,xs,rfl,n,hx,hd⟩:=hv'.cQ
  obtain⟨b,qR,rfl,n2,rz,hd2⟩:=hv2.cQ
  have l1:=hd.length
  have l2:=hd2.length
  have key:∀{nb ρ' σ H},Wd ((G.hd f1 (.list es) (.ref a)).hd f2 (.list cT) (.ref b)) nb ρ' σ H->(∃xs,H a=some (.lst xs)/\af (G.S nb f1) H es xs)/\∃ys,H b=some (.lst ys)/\af (G.S nb f2) H cT ys:=fun W=>by
   obtain⟨a',xs',e',_,h',d'⟩:=W.cO.1.cO.2.cQ
   cases e'
   obtain⟨b',ys',e'',_,h'',d''⟩:=W.cO.2.cQ
   cases e''
   exact⟨⟨xs',h',d'⟩,ys',h'',d''⟩
  refine⟨a,b,rfl,rfl,⟨xs, .of hx⟩,⟨qR, .of rz⟩,?_⟩
  refine⟨fun i m σ H=>m=es.length-i/\i<=es.length/\∃nb ρ',I i ρ'/\Wd ((G.hd f1 (.list es) (.ref a)).hd f2 (.list cT) (.ref b)) nb ρ' σ H,⟨es.length,by simp,eU _,nb,ρ,h0,W0⟩,?_⟩
  rintro i m σ H ⟨rfl,hi,nb,ρ',hI,W⟩
  obtain⟨⟨xs,hx,hD⟩,ys,hy,rV⟩:=key W
  have l1:=hD.length
  have l2:=rV.length
  by_cases hlt:i<es.length
  ·refine .inr ⟨⟨xs,ys,xs[i]'(by omega),ys[i]'(by omega), .of hx, .of hy,aD _,aD _⟩,fun σ H=>∃nb ρ',I (i+1) ρ'/\Wd ((G.hd f1 (.list es) (.ref a)).hd f2 (.list cT) (.ref b)) nb ρ' σ H,fun σ' H' q=>⟨es.length-(i+1),by omega,rfl,hlt,q⟩,fun x H' y=>?_⟩
   obtain⟨p,u,w,e,hn,hz,hz2,e2⟩:=y
   subst e e2
   have hu:=hz xs (.of hx)
   have hw:=hz2 ys (.of hy)
   obtain⟨x',hx',dx⟩:=hD.get (aD hlt)
   rw[hu] at hx';cases hx'
   obtain⟨y',hy',dy⟩:=rV.get (aD (show i<cT.length by omega))
   rw[hw] at hy';cases hy'
   have sx:=jz.mp hs _ (cV hlt)
   have sy:=jz.mp hs2 _ (cV (show i<cT.length by omega))
   have st:Step ((G.hd f1 (.list es) (.ref a)).hd f2 (.list cT) (.ref b)).B H (upd H p (.tup [u,w])):= .same W.ay (bQ hn)
   refine ht i _ ρ' ⟨_,_,aD hlt,aD (show i<cT.length by omega),rfl⟩ hI nb σ _ _ _ (W.step st) (.tup (W.fresh hn) aR (.cons (dx.g5 sx) (.cons (dy.g5 sy) .nil))) fun σ2 sj q W2=>q nb σ2 _ _ W2 ?_
   exact⟨fun nb ρ σ H q W=>⟨nb,ρ,q,W⟩,fun nb ρ σ H q W=>KK.nx nb ρ σ H q W.cO.1.cO.1,fun nb ρ σ H q W=>⟨nb,ρ,q,W⟩,fun nb ρ σ f v H d q W hv=>KK.rt nb ρ σ f v H d q W.cO.1.cO.1 hv,fun nb ρ σ v H q W=>KK.rw nb ρ σ v H q W.cO.1.cO.1⟩
  ·have e:i=es.length:=by omega
   subst e
   exact .inl ⟨⟨xs,ys, .of hx, .of hy,by omega⟩,KK.nx nb ρ' σ H (he ρ' hI) W.cO.1.cO.1⟩
end
theorem Oq{ks:Ks}(nd:(ks.map (·.1)).Nodup):oB [] ks=ks:=by
  have key:∀(S acc:Ks),((acc++S).map (·.1)).Nodup->oB acc S=acc++S:=by
    intro S
    induction S with
    |nil=>intro acc _;simp[oB]
    | cons x S ih =>
      intro acc nd
      have hx:x.1∉acc.map (·.1):=fun z=>by
        rw[cS] at nd
        exact(qd.mp nd).2.2 x.1 z x.1 (by simp) rfl
      show oB (jU acc x.1 x.2) S=_
      have e:jU acc x.1 x.2=acc++[x]:=by
        unfold jU
        rw[if_neg (by rw[J6];exact hx)]
      rw[e,ih (acc++[x]) (by rw[wM];exact nd),wM]
      rfl
  exact key ks [] (by simpa using nd)
theorem qZ{r:List Int}{i:Nat}(h:i<r.length):r[i]?=some (gI r i):=by
 unfold gI
 rw[bU,aD h]
 rfl
def u6(q:Int×aN):PyData:= .tuple [.int q.1,jR q.2]
structure kP(p n:Int)(cs:List aN)(sp:List Int)(ru:List (Int×aN)):Prop where
 sX:sp.Pairwise (· < ·)
 rg:∀s∈sp,0<=s/\s<n
 LQ:(ru.map (·.1)).Nodup
 pK:∀q∈ru,0<=q.1/\q.1<n/\q.1∉sp/\q.2.map (·.1)=sp/\∀pr∈q.2,0<=pr.2/\pr.2<p
 all:∀j:Nat,j<n.toNat->(j:Int)∈sp\/(j:Int)∈ru.map (·.1)
 eqv:∀w,bf p n.toNat w->(VN p cs w↔∀q∈ru,p∣gI w q.1.toNat+aL q.2 (w.map some))
 rank:Rk p n.toNat (VN p cs) ru.length
 cnt:sp.length+ru.length=n.toNat
theorem EZ:∀(sp:List Nat) (f:Nat->Int) (r:List Int),sp.Nodup->(∀s∈sp,s<r.length)->az (fun i=>if i∈sp then f i else 0) r=(sp.map fun s=>f s*gI r s).sum
  |[],f,r,_,_=>nj _ r fun i _=>by simp
  | s :: sp, f, r, hn, hl => by
    obtain⟨h1,h2⟩:=ic.mp hn
    have e:(fun i=>if i∈s::sp then f i else 0)=fun i=>(fun i=>if i=s then f i else 0) i+(fun i=>if i∈sp then f i else 0) i:=by
      funext i
      by_cases c:i=s
      · subst c;simp[h1]
      · simp[c]
    rw[e,qi,EZ sp f r h2 fun x hx=>hl x (bJ _ hx),o7 _ r s (hl s (ck ..)) fun i _ c=>by rw[if_neg c,ja],if_pos rfl]
    rfl
theorem R6{w:List Int}{n:Int}(hw:w.length=n.toNat){sp:List Nat}(g:Nat->Int)(h:∀s∈sp,s<n.toNat):aL (sp.map fun(s:Nat)=>((s:Int),g s)) (w.map some)=(sp.map fun s=>gI w s*g s).sum:=by
 rw[nP hw _ fun pr aH=>?_,fO]
 ·congr 1
 ·obtain⟨s,hs,rfl⟩:=aI.mp aH
  have:=h s hs
  exact⟨by show(0:Int)<=s;omega,by show(s:Int)<n;omega⟩
def fj(n:Nat)(T:List (Nat×Nat)):List Nat:=(List.range n).filter fun j=>decide (j∉T.map (·.2))
def gW(R:List (List Int))(T:List (Nat×Nat)):Ks:=T.map fun q=>((q.2:Int),aB (R.getD q.1 []))
section
variable{p n:Int}{cs:List aN}{R R0:List (List Int)}{T:List (Nat×Nat)}{D:List Nat}{w:Nat}
theorem dW.qu(hS:dW p w R0 R T D):(T.map (·.2)).Nodup:=by
 have h1:=hS.nd
 rw[List.Nodup,kK] at h1⊢
 exact wY (fun{a b} ha hb hne z=>hne (hS.inj ha hb z)) h1
theorem Aq:(gW R T).map (·.1)=T.map fun q=>(q.2:Int):=by unfold gW;rw[fO];rfl
theorem EL(hS:dW p w R0 R T D):((gW R T).map (·.1)).Nodup:=by
 rw[Aq]
 have h:=hS.qu
 rw[List.Nodup,kK] at h⊢
 exact h.imp fun h z=>h (by omega)
theorem K1(hS:dW p w R0 R T D){q:Nat×Nat}(hq:q∈T):iN (gW R T) (q.2:Int)=some (aB (R.getD q.1 [])):=by
  have hn:=EL hS
  unfold gW at hn⊢
  clear hS
  induction T with
  |nil=>cases hq
  | cons t T ih =>
    rw[bh] at hn⊢
    rw[qC]
    rw[bh,ic] at hn
    rcases aP.mp hq with z|z
    · subst z;rw[if_pos rfl]
    · rw[if_neg (fun y:((t.2:Nat):Int)=q.2=>hn.1 (by
        rw[fO]
        exact aI.mpr ⟨q,z,y.symm⟩))]
      exact ih z hn.2
theorem S7(k:Nat):jC (gW R T) (k:Int)=decide (k∈T.map (·.2)):=by
 rw[iW,J6,Aq,decide_eq_true_eq]
 constructor
 ·intro h
  obtain⟨q,hq,e⟩:=aI.mp h
  exact aI.mpr ⟨q,hq,by omega⟩
 ·intro h
  obtain⟨q,hq,e⟩:=aI.mp h
  exact aI.mpr ⟨q,hq,by omega⟩
def lX(R:List (List Int))(T:List (Nat×Nat))(sp:List Nat)(pl:Nat):Int×aN:=((pl:Int),sp.map fun(s:Nat)=>((s:Int),gI (R.getD ((T.find? fun q=>q.2==pl).elim 0 (·.1)) []) s))
theorem uD(hS:dW p w R0 R T D){q:Nat×Nat}(hq:q∈T)(sp:List Nat):lX R T sp q.2=((q.2:Int),sp.map fun(s:Nat)=>((s:Int),gI (R.getD q.1 []) s)):=by
  unfold lX
  cases e:T.find? (fun z=>z.2==q.2) with
  |none=>have:=List.find?_eq_none.mp e q hq;simp at this
  | some z =>
    have hz:=List.mem_of_find?_eq_some e
    have he:z.2=q.2:=by simpa using List.find?_some e
    show(_,_)=_
    rw[show((some z).elim 0 fun x:Nat×Nat=>x.1)=z.1 from rfl,hS.inj hz hq he]
theorem IE(hN:iR p n cs)(hS:dW p (n.toNat+cs.length) (dY n.toNat cs.length cs) R T (List.range n.toNat)){q:Nat×Nat}(hq:q∈T){w:List Int}(hw:w.length=n.toNat):az (gI w) (R.getD q.1 [])=gI w q.2+aL ((fj n.toNat T).map fun(s:Nat)=>((s:Int),gI (R.getD q.1 []) s)) (w.map some):=by
  obtain⟨g1,g2⟩:=hS.rg q hq
  have hr:=hS.ok (R.getD q.1 []) (by rw[iZ g1];exact cV _)
  have hrl:=hr.len
  generalize hrr:R.getD q.1 []=r at hrl hr
  have hone:∀q'∈T,gI r q'.2=if q.1=q'.1 then 1 else 0:=fun q' hq'=>by rw[<-hrr];exact hS.one q' hq' q.1 g1
  rw[dI] at g2
  have iF:∀s∈fj n.toNat T,s<n.toNat:=fun s hs=>dI.mp (jm.mp hs).1
  have hnd:(fj n.toNat T).Nodup:=uU.filter _
  rw[R6 hw (gI r) iF,<-EZ (fj n.toNat T) (gI w) r hnd fun s hs=>by have:=iF s hs;omega]
  have e:gI w=fun i=>(fun i=>if i∈T.map (·.2) then gI w i else 0) i+(fun i=>if i∈fj n.toNat T then gI w i else 0) i:=by
    funext i
    by_cases c:i<n.toNat
    · by_cases c2:i∈T.map (·.2)
      · have:i∉fj n.toNat T:=fun z=>by have:=(jm.mp z).2;simp at this;obtain⟨q',hq',e⟩:=aI.mp c2;exact this q'.1 (by rw[<-e];exact hq')
        simp only[]
        rw[if_pos c2,if_neg this,nV]
      · have:i∈fj n.toNat T:=jm.mpr ⟨dI.mpr c,decide_eq_true c2⟩
        simp only[]
        rw[if_neg c2,if_pos this,vD]
    · have z:gI w i=0:=kR (by omega)
      simp[z]
  rw[show az (gI w) r=az (fun i=>(fun i=>if i∈T.map (·.2) then gI w i else 0) i+(fun i=>if i∈fj n.toNat T then gI w i else 0) i) r from congrArg (fun f=>az f r) e,qi]
  congr 1
  rw[o7 _ r q.2 (by omega) fun i hi hne=>?_,if_pos (jO hq),hone q hq,if_pos rfl,uH]
  by_cases c2:i∈T.map (·.2)
  · obtain⟨q',hq',rfl⟩:=aI.mp c2
    have:q.1≠q'.1:=fun z=>by
      have h3:=hS.one q' hq' q'.1 (hS.rg q' hq').1
      have h4:=hS.qu
      have key:∀(T:List (Nat×Nat)),(T.map (·.1)).Nodup->∀a b:Nat×Nat,a∈T->b∈T->a.1=b.1->a=b:=by
        intro T
        induction T with
        |nil=>intro _ a b ha;cases ha
        | cons t T ih =>
          intro hn a b ha hb e
          rw[bh,ic] at hn
          rcases aP.mp ha with y|y<;>rcases aP.mp hb with y2|y2
          · rw[y,y2]
          · exact absurd (aI.mpr ⟨b,y2,by rw[<-e,y]⟩) hn.1
          · exact absurd (aI.mpr ⟨a,y,by rw[e,y2]⟩) hn.1
          · exact ih hn.2 a b y y2 e
      exact hne (congrArg Prod.snd (key T hS.nd q' q hq' hq z.symm))
    rw[hone q' hq',if_neg this,gZ]
  · rw[if_neg c2,ja]
theorem kP.of(hN:iR p n cs)(hS:dW p (n.toNat+cs.length) (dY n.toNat cs.length cs) R T (List.range n.toNat)){P:List Nat}(hP:P.Perm (T.map (·.2))):kP p n cs ((fj n.toNat T).map fun(s:Nat)=>(s:Int)) (P.map (lX R T (fj n.toNat T))):=by
 have p2:=hN.hp.1
 have n0:=hN.n0
 have iF:∀s∈fj n.toNat T,s<n.toNat/\s∉T.map (·.2):=fun s hs=>⟨dI.mp (jm.mp hs).1,of_decide_eq_true (jm.mp hs).2⟩
 have lE:∀pl,pl∈P↔pl∈T.map (·.2):=fun pl=>hP.mem_iff
 have JI:(P.map (lX R T (fj n.toNat T))).map (·.1)=P.map fun(s:Nat)=>(s:Int):=by rw[fO];rfl
 have iJ:∀q∈T,bf p (n.toNat+cs.length) (R.getD q.1 []):=fun q hq=>by
  have:=(hS.rg q hq).1
  rw[iZ this];exact hS.ok _ (cV _)
 have Aj:P.Nodup:=hP.nodup_iff.mpr hS.qu
 have hlen:P.length=T.length:=by rw[hP.length_eq,aj]
 refine⟨?_,fun s hs=>?_,?_,fun x hx=>?_,fun j hj=>?_,fun w hw=>?_,?_,?_⟩
 ·rw[kK]
  exact(Cw.filter _).imp fun h=>by omega
 ·obtain⟨k,hk,rfl⟩:=aI.mp hs
  have:=(iF k hk).1
  omega
 ·rw[JI,List.Nodup,kK]
  exact Aj.imp fun h z=>h (by omega)
 ·obtain⟨pl,hpl,rfl⟩:=aI.mp hx
  obtain⟨q,hq,rfl⟩:=aI.mp ((lE pl).mp hpl)
  rw[uD hS hq]
  have hr:=dI.mp (hS.rg q hq).2
  refine⟨by show(0:Int)<=q.2;omega,by show(q.2:Int)<n;omega,fun z=>?_,?_,fun pr aH=>?_⟩
  ·obtain⟨s,hs,e⟩:=aI.mp z
   have e:(s:Int)=q.2:=e
   exact(iF s hs).2 (by rw[show s=q.2 by omega];exact jO hq)
  ·rw[fO];rfl
  ·obtain⟨s,hs,rfl⟩:=aI.mp aH
   exact(iJ q hq).g (by omega)
 ·by_cases c:j∈T.map (·.2)
  ·exact .inr (by rw[JI];exact aI.mpr ⟨j,(lE j).mpr c,rfl⟩)
  ·exact .inl (aI.mpr ⟨j,jm.mpr ⟨dI.mpr hj,decide_eq_true c⟩,rfl⟩)
 ·rw[<-VN.rows hN hw.len]
  refine(hS.sp (gI w)).trans ?_
  constructor
  ·intro h x hx
   obtain⟨pl,hpl,rfl⟩:=aI.mp hx
   obtain⟨q,hq,rfl⟩:=aI.mp ((lE pl).mp hpl)
   rw[uD hS hq]
   have:=(hS.rg q hq).1
   show p∣gI w ((q.2:Nat):Int).toNat+aL _ _
   rw[kO,<-IE hN hS hq hw.len]
   exact h _ (by rw[iZ this];exact cV _)
  ·intro h r hr
   obtain⟨i,hi⟩:=iO hr
   have hil:=(bI.mp hi).1
   have hg:R.getD i []=r:=by rw[bU,hi];rfl
   by_cases c:i∈T.map (·.1)
   ·obtain⟨q,hq,rfl⟩:=aI.mp c
    have:=h (lX R T (fj n.toNat T) q.2) (aI.mpr ⟨q.2,(lE q.2).mpr (jO hq),rfl⟩)
    rw[uD hS hq] at this
    have this:p∣gI w ((q.2:Nat):Int).toNat+aL _ _:=this
    rw[kO,<-IE hN hS hq hw.len,hg] at this
    exact this
   ·refine⟨0,?_⟩
    rw[gZ]
    refine nj _ r fun j hj=>?_
    by_cases cj:j<n.toNat
    ·have:=hS.zero i hil c j (dI.mpr cj)
     rw[hg] at this
     rw[this,gZ]
    ·rw[kR (by rw[hw.len];omega),ja]
 ·rw[aj,hlen];exact hS.rank hN
 ·rw[aj,aj,hlen]
  unfold fj
  have h1:∀(l:List Nat) (Q:Nat->Bool),(l.filter Q).length+(l.filter fun x=>!Q x).length=l.length:=by
   intro l Q
   induction l with
   |nil=>rfl
   |cons x l ih=>cases h:Q x<;>simp[h]<;>omega
  have h2:=h1 (List.range n.toNat) fun j=>decide (j∉T.map (·.2))
  rw[gG] at h2
  have h3:((List.range n.toNat).filter fun j=>!decide (j∉T.map (·.2))).Perm (T.map (·.2)):=by
   refine(List.perm_ext_iff_of_nodup (uU.filter _) hS.qu).mpr fun j=>?_
   rw[jm,dI]
   constructor
   ·rintro⟨_,h⟩
    simpa using h
   ·intro h
    refine⟨?_,by simpa using h⟩
    obtain⟨q,hq,rfl⟩:=aI.mp h
    exact dI.mp (hS.rg q hq).2
  have h4:=h3.length_eq
  rw[aj] at h4
  omega
end
def putL(w:List Int)(sp ls:List Int):List Int:=(sp.zip ls).foldl (fun w q=>w.set q.1.toNat q.2) w
def iK(p:Int)(w:List Int)(ru:List (Int×aN)):List Int:=ru.foldl (fun w q=>w.set q.1.toNat (-(aL q.2 (w.map some)%p)%p)) w
def pO(p n:Int)(sp:List Int)(ru:List (Int×aN))(ls:List Int):List Int:=iK p (putL (List.replicate n.toNat 0) sp ls) ru
theorem vo:∀(sp ls w:List Int),(putL w sp ls).length=w.length
  |[],_,_=>by simp[putL]
  |_::_,[],_=>by simp[putL]
  | s :: sp, l :: ls, w => by
    show(putL (w.set s.toNat l) sp ls).length=_
    rw[vo sp ls,fX]
theorem zN{p:Int}:∀(sp ls w:List Int),(∀x∈ls,0<=x/\x<p)->(∀x∈w,0<=x/\x<p)->∀x∈putL w sp ls,0<=x/\x<p
  |[],_,w,_,h=>by simpa[putL] using h
  |_::_,[],w,_,h=>by simpa[putL] using h
  | s :: sp, l :: ls, w, hl, h => by
    show∀x∈putL (w.set s.toNat l) sp ls,_
    refine zN sp ls _ (fun x hx=>hl x (bJ _ hx)) fun x hx=>?_
    rcases rT hx with z|z
    · exact h x z
    · rw[z];exact hl l (ck ..)
theorem Gm:∀(sp ls w:List Int) (j:Nat),(∀s∈sp,s.toNat≠j)->gI (putL w sp ls) j=gI w j
  |[],_,w,_,_=>by simp[putL]
  |_::_,[],w,_,_=>by simp[putL]
  | s :: sp, l :: ls, w, j, h => by
    show gI (putL (w.set s.toNat l) sp ls) j=_
    rw[Gm sp ls _ j fun x hx=>h x (bJ _ hx)]
    unfold gI
    rw[bU,bN (h s (ck ..)),bU]
theorem ER:∀(sp ls w:List Int),sp.Pairwise (· < ·)->(∀s∈sp,0<=s/\s.toNat<w.length)->∀(i:Nat) s l,sp[i]?=some s->ls[i]?=some l->gI (putL w sp ls) s.toNat=l
  |[],_,w,_,_,i,s,l,e,_=>by simp at e
  |_::_,[],w,_,_,i,s,l,_,e=>by simp at e
  | s0 :: sp, l0 :: ls, w, hp, h, i, s, l, e1, e2 => by
    rw[List.pairwise_cons] at hp
    show gI (putL (w.set s0.toNat l0) sp ls) s.toNat=_
    cases i with
    | zero =>
      simp at e1 e2
      subst e1 e2
      have h0:=h s0 (ck ..)
      rw[Gm sp ls _ _ fun x hx=>by have:=hp.1 x hx;have:=h x (bJ _ hx);omega,qM h0.2,if_pos rfl]
    | succ i =>
      exact ER sp ls _ hp.2 (fun x hx=>by rw[fX];exact h x (bJ _ hx)) i s l (by simpa using e1) (by simpa using e2)
theorem M0{w w':List Int}{n:Int}(hw:w.length=n.toNat)(oK:w'.length=n.toNat){prs:aN}(h:∀pr∈prs,0<=pr.1/\pr.1<n/\gI w pr.1.toNat=gI w' pr.1.toNat):aL prs (w.map some)=aL prs (w'.map some):=by
 rw[nP hw prs fun pr hp=>⟨(h pr hp).1,(h pr hp).2.1⟩,nP oK prs fun pr hp=>⟨(h pr hp).1,(h pr hp).2.1⟩]
 congr 1
 exact mH fun pr hp=>by rw[(h pr hp).2.2]
section
variable{p n:Int}{cs:List aN}{sp:List Int}{ru:List (Int×aN)}{ls:List Int}
structure lq(p n:Int)(sp:List Int)(ru:List (Int×aN))(w0:List Int)(k:Nat)(w:List Int):Prop where
 len:w.length=n.toNat
 rg:∀x∈w,0<=x/\x<p
 out:∀j,(∀q∈ru.take k,q.1.toNat≠j)->gI w j=gI w0 j
 on:∀q∈ru.take k,gI w q.1.toNat= -(aL q.2 (w0.map some)%p)%p
theorem lq.init{w0:List Int}(h1:w0.length=n.toNat)(h2:∀x∈w0,0<=x/\x<p):lq p n sp ru w0 0 w0:=⟨h1,h2,fun _ _=>rfl,fun _ h=>by simp at h⟩
theorem lq.due(hM:kP p n cs sp ru){w0 w:List Int}{k:Nat}(hI:lq p n sp ru w0 k w)(hw0:w0.length=n.toNat){q:Int×aN}(hq:q∈ru):aL q.2 (w.map some)=aL q.2 (w0.map some):=by
 obtain⟨g0,g1,g2,g3,g4⟩:=hM.pK q hq
 refine M0 hI.len hw0 fun pr aH=>?_
 have hs:pr.1∈sp:=by rw[<-g3];exact jO aH
 have:=hM.rg pr.1 hs
 refine⟨this.1,this.2,hI.out _ fun x hx z=>?_⟩
 obtain⟨a0,a1,a2,_⟩:=hM.pK x (qh hx)
 exact a2 (by rw[show x.1=pr.1 by omega];exact hs)
theorem lq.step(hM:kP p n cs sp ru)(hp:0<p){w0 w:List Int}{k:Nat}(hI:lq p n sp ru w0 k w)(hw0:w0.length=n.toNat){q:Int×aN}(hq:ru[k]?=some q):lq p n sp ru w0 (k+1) (w.set q.1.toNat (-(aL q.2 (w.map some)%p)%p)):=by
 have sR:=bD hq
 obtain⟨g0,g1,g2,g3,g4⟩:=hM.pK q sR
 have hlt:q.1.toNat<w.length:=by rw[hI.len];omega
 have hnd:=hM.LQ
 rw[hI.due hM hw0 sR]
 have et:ru.take (k+1)=ru.take k++[q]:=by rw[qL,hq];rfl
 refine⟨by rw[fX];exact hI.len,fun x hx=>?_,fun j hj=>?_,fun x hx=>?_⟩
 ·rcases rT hx with z|z
  ·exact hI.rg x z
  ·rw[z];exact⟨fP _ (by omega),fZ _ hp⟩
 ·rw[et] at hj
  rw[qM hlt,if_neg (fun z=>hj q (iY _ (aU.mpr rfl)) z.symm)]
  exact hI.out j fun x hx=>hj x (kh _ hx)
 ·rw[et] at hx
  rw[qM hlt]
  rcases ez.mp hx with z|z
  ·have hne:x.1.toNat≠q.1.toNat:=fun e=>by
    obtain⟨a0,a1,_⟩:=hM.pK x (qh z)
    obtain⟨i,hi⟩:=iO z
    have hik:i<k:=by have:=(bI.mp hi).1;rw[ig] at this;omega
    rw[Cd hik] at hi
    rw[List.Nodup,kK,Ij] at hnd
    obtain⟨l1,e1⟩:=bI.mp hi
    obtain⟨l2,e2⟩:=bI.mp hq
    exact hnd i k l1 l2 hik (by rw[e1,e2];omega)
   rw[if_neg hne]
   exact hI.on x z
  ·rw[aU.mp z,if_pos rfl]
theorem Bc(hM:kP p n cs sp ru)(hp:0<p){w0:List Int}(hw0:w0.length=n.toNat)(h2:∀x∈w0,0<=x/\x<p):∀k,k<=ru.length->lq p n sp ru w0 k (iK p w0 (ru.take k))
  |0,_=>by rw[List.take_zero];exact .init hw0 h2
  | k + 1, hk => by
    have hq:ru[k]?=some ru[k]:=aD (by omega)
    have e:iK p w0 (ru.take (k+1))=(iK p w0 (ru.take k)).set (ru[k]).1.toNat (-(aL (ru[k]).2 ((iK p w0 (ru.take k)).map some)%p)%p):=by
      rw[qL,hq]
      unfold iK
      rw[qp]
      rfl
    rw[e]
    exact(Bc hM hp hw0 h2 k (by omega)).step hM hp hw0 hq
theorem kP.made(hM:kP p n cs sp ru)(hp:2<=p)(hl:ls.length=sp.length)(hr:∀x∈ls,0<=x/\x<p):bf p n.toNat (pO p n sp ru ls)/\VN p cs (pO p n sp ru ls)/\∀(i:Nat) s l,sp[i]?=some s->ls[i]?=some l->gI (pO p n sp ru ls) s.toNat=l:=by
 have hw0:(putL (List.replicate n.toNat 0) sp ls).length=n.toNat:=by rw[vo,jb]
 have h2:=zN (p:=p) sp ls (List.replicate n.toNat 0) hr fun x hx=>by rw[uQ] at hx;omega
 have hI:=Bc hM (by omega) hw0 h2 ru.length (aS _)
 have sr:=fun q hq=>lq.due hM hI hw0 (q:=q) hq
 rw[eT] at hI sr
 have hW:bf p n.toNat (pO p n sp ru ls):=⟨hI.len,hI.rg⟩
 refine⟨hW,(hM.eqv _ hW).mpr fun q hq=>?_,fun i s l e1 e2=>?_⟩
 ·have h1:=hI.on q (by rw[eT];exact hq)
  show p∣gI (iK p _ ru) q.1.toNat+aL q.2 ((iK p _ ru).map some)
  rw[h1,sr q hq,nE,nE]
  generalize aL q.2 _=X
  exact⟨X/p- -(X-p*(X/p))/p,by grind⟩
 ·have hs:=bD e1
  have ve:=hM.rg s hs
  show gI (iK p _ ru) s.toNat=l
  rw[hI.out s.toNat fun q hq z=>?_]
  ·exact ER sp ls _ hM.sX (fun s hs=>by have:=hM.rg s hs;rw[jb];omega) i s l e1 e2
  ·rw[eT] at hq
   obtain⟨a0,a1,a2,_⟩:=hM.pK q hq
   exact a2 (by rw[show q.1=s by omega];exact hs)
end
def vY(p n:Int)(sp:List Int)(ru:List (Int×aN)):Fs:=[("p", .d (.int p)),("n", .d (.int n)),("spots", .d (aB sp)),("rules", .d (.list (ru.map u6)))]
theorem PM{n:Int}{prs:aN}(hn:(prs.map (·.1)).Nodup)(h:∀pr∈prs,0<=pr.1/\pr.1<n):prs.length<=n.toNat:=by
 have:=vQ (l₂:=(List.range n.toNat).map fun(i:Nat)=>(i:Int)) hn fun k hk=>by
  obtain⟨pr,aH,rfl⟩:=aI.mp hk
  have:=h pr aH
  exact aI.mpr ⟨pr.1.toNat,dI.mpr (by omega),by omega⟩
 simpa using this
end L2
set_option maxRecDepth 100000
set_option maxHeartbeats 4000000
namespace L2
open PySem PySem.Spec PyProof.Rows
def zE:List V->Hp->VK->Prop:=fun xs H Q=>∃a kvs,xs=[V.ref a]/\Rd H a (.dK kvs)/\Q (.int kvs.length) H
theorem Sf{X:Cx}:eS X (.builtin "len") zE:=by
 intro pins s σ H xs us Q I r h
 obtain⟨a,kvs,rfl,ha,q⟩:=h
 obtain⟨u,rfl,ru⟩:=vals1 r
 cases ru
 exact RQ I ha fun t s' I'=>⟨.int kvs.length,H,I',⟨t,rfl⟩,q⟩
theorem Ev.Pz{G:Gx}{ρ:Rh}{Φ:Pd}{te:TE}(h:Ev G ρ te fun _ x=>∃ks:Ks,x= .dict (ks.map bE)/\Φ true (.int ks.length)):Ev G ρ (fN zE (bR te cy)) Φ:=fun nb σ H Q W z=>
 h nb σ H _ W fun f v H1 x ⟨ks,ex,q⟩ s1 hv=>by
  subst ex
  unfold ai at hv
  obtain⟨a,ps,rfl,n,hp,hd⟩:=hv
  have hlen:ps.length=ks.length:=by have:=congrArg List.length (aq.keys hd);simpa using this
  refine⟨a,ps,rfl,hp,?_⟩
  rw[hlen]
  exact z true _ H1 _ q s1 (.int _)
end L2
set_option maxRecDepth 100000
set_option maxHeartbeats 4000000
namespace L2
open PySem PySem.Spec PyProof.Rows
theorem Ss{os:List Bool}(h:∀(i:Nat) o,os[i]?=some o->o=true):os.all id=true:=by
 rw[jz]
 intro o ho
 obtain⟨i,hi⟩:=iO ho
 exact h i o hi
section
variable{p:Int}{ls:List Int}{rows:List (List Int)}
theorem rW{k:Int}{c:Nat}{row:List Int}(hk:0<=k)(hr:∀x∈row,0<=x/\x<k):∀pr∈dG p k c row,0<=pr.1/\pr.1<=k+c/\(pr.2=1\/pr.2=p-1):=fun pr aH=>by
 rw[l9] at aH
 rcases ez.mp aH with z|z
 ·have h1:=sL (c:=c) hk hr pr z
  obtain⟨x,_,rfl⟩:=aI.mp z
  exact⟨h1.1,by omega, .inl rfl⟩
 ·rw[aU.mp z]
  exact⟨by show 0<=k+(c:Int);omega,Am _, .inr rfl⟩
theorem D6{k:Int}{c:Nat}{row:List Int}(hk:0<=k)(hr:kG k row):((dG p k c row).map (·.1)).Nodup:=by
 obtain⟨r1,r2,r3⟩:=hr
 rw[l9]
 unfold gc
 rw[cS,fO,show(List.map ((fun x:Int×Int=>x.1)∘fun x=>(x,(1:Int))) (row++if 0<(c:Int) then[k+c-1] else[]))=row++if 0<(c:Int) then[k+c-1] else[] from List.map_id'' (fun _=>rfl) _,qd,qd]
 refine⟨⟨r1.imp fun h=>Int.ne_of_lt h,by split<;>simp,fun a ha b hb=>?_⟩,by simp,fun a ha b hb=>?_⟩
 ·have:=r2 a ha
  split at hb
  ·rw[aU.mp hb];omega
  ·cases hb
 ·have hb:b=k+c:=by simpa using hb
  rcases ez.mp ha with z|z
  ·have:=r2 a z;omega
  ·split at z
   ·rw[aU.mp z];omega
   ·cases z
theorem c8.Bu(h:c8 p ls rows):iR p ((ls.length:Int)+rows.length) (fL p ls.length rows):=by
 have p2:=h.hp.1
 have k0:=h.k0
 have k1:=h.k1
 have ml:=h.ml
 refine⟨h.hp,h.jV,by omega,by omega,by rw[vp];omega,fun q hq=>?_⟩
 obtain⟨c,hc,rfl⟩:=wG hq
 have iJ:=h.row hc
 have hm:=rW (p:=p) (c:=c) (show(0:Int)<=ls.length by omega) iJ.2.1
 have hn:=D6 (p:=p) (c:=c) (show(0:Int)<=ls.length by omega) iJ
 refine⟨hn,?_,fun pr aH=>?_⟩
 ·have:=PM (n:=(ls.length:Int)+rows.length) hn fun pr aH=>by have:=hm pr aH;omega
  omega
 ·have:=hm pr aH
  omega
theorem c8.uniq(h:c8 p ls rows){w:List Int}(hw:bf p (ls.length+rows.length) w)(hV:VN p (fL p ls.length rows) w)(hk:∀i<ls.length,w[i]?=ls[i]?):w=aZ p ls rows rows.length:=by
  have p2:=h.hp.1
  have p5:=h.AJ
  have key:∀i,i<ls.length+rows.length->w[i]?=(aZ p ls rows rows.length)[i]?:=by
    intro i
    induction i using Nat.strongRecOn with
    | ind i ih =>
      intro hi
      by_cases ci:i<ls.length
      · rw[hk i ci,h.pre i ci]
      · obtain⟨c,rfl⟩:∃c,i=ls.length+c:=⟨i-ls.length,by omega⟩
        have hc:c<rows.length:=by omega
        have iJ:=h.row hc
        have hA:=sL (c:=c) (show(0:Int)<=ls.length by omega) iJ.2.1
        have hd:=hV _ (bD (qo (p:=p) (k:=(ls.length:Int)) hc))
        rw[l9,DS] at hd
        have e1:aL (gc ls.length c (rows.getD c [])) (w.map some)=aL (gc ls.length c (rows.getD c [])) ((aZ p ls rows rows.length).map some):=DI fun pr aH=>by
          have:=hA pr aH
          exact ih _ (by omega) (by omega)
        have hwi:w[ls.length+c]?=some (w[ls.length+c]'(by rw[hw.len];omega)):=aD _
        have hb:=hw.rg _ (bD hwi)
        generalize (w[ls.length+c]'(by rw[hw.len];omega))=x at hwi hb
        have e2:aL [((ls.length:Int)+c,p-1)] (w.map some)=(p-1)*x:=by
          unfold aL
          rw[List.map_singleton,List.sum_singleton,pY (x:=x) (by show w[((ls.length:Int)+c).toNat]?=_;rw[show((ls.length:Int)+c).toNat=ls.length+c by omega];exact hwi)]
        rw[e1,e2] at hd
        rw[hwi,h.at hc]
        congr 1
        obtain⟨t,ht⟩:=hd
        generalize aL (gc ls.length c (rows.getD c [])) ((aZ p ls rows rows.length).map some)=S at ht
        have:S=x+p*(t-x):=by grind
        rw[this,B8,n5 hb.1 hb.2]
  apply iy
  intro i
  by_cases c:i<ls.length+rows.length
  · exact key i c
  · rw[eO (by rw[hw.len];omega),eO (by rw[p5];omega)]
theorem c8.rank(h:c8 p ls rows):Rk p (ls.length+rows.length) (VN p (fL p ls.length rows)) rows.length:=by
 have p2:=h.hp.1
 have hN:=h.Bu
 have hco:∀c,c<rows.length->∀j,gI ((List.range (ls.length+rows.length)).map (co (dG p ls.length c (rows.getD c [])))) j=if j<ls.length+rows.length then co (dG p ls.length c (rows.getD c [])) j else 0:=fun c hc j=>by
  by_cases cj:j<ls.length+rows.length
  ·rw[if_pos cj,pB _ cj]
  ·rw[if_neg cj,kR (by rw[aj,gG];omega)]
 have hz:∀c,c<rows.length->∀d,c<d->co (dG p ls.length c (rows.getD c [])) (ls.length+d)=0:=fun c hc d hd=>by
  have hm:=rW (p:=p) (c:=c) (show(0:Int)<=ls.length by omega) (h.row hc).2.1
  unfold co
  rw[show(dG p ls.length c (rows.getD c [])).map (fun pr=>if pr.1.toNat=ls.length+d then pr.2 else 0)=(dG p ls.length c (rows.getD c [])).map fun _=>(0:Int) from mH fun pr aH=>by have:=hm pr aH;rw[if_neg (by omega)]]
  clear hm
  generalize dG p ls.length c (rows.getD c [])=q
  induction q with
  |nil=>rfl
  |cons a q ih=>rw[bh,nM,ih];rfl
 have hd:∀c,c<rows.length->co (dG p ls.length c (rows.getD c [])) (ls.length+c)=p-1:=fun c hc=>by
  have hA:=sL (c:=c) (show(0:Int)<=ls.length by omega) (h.row hc).2.1
  rw[l9,OT,if_pos (by show((ls.length:Int)+c).toNat=_;omega)]
  have:co (gc ls.length c (rows.getD c [])) (ls.length+c)=0:=by
   unfold co
   rw[show(gc ls.length c (rows.getD c [])).map (fun pr=>if pr.1.toNat=ls.length+c then pr.2 else 0)=(gc ls.length c (rows.getD c [])).map fun _=>(0:Int) from mH fun pr aH=>by have:=hA pr aH;rw[if_neg (by omega)]]
   clear hA
   generalize gc ls.length c (rows.getD c [])=q
   induction q with
   |nil=>rfl
   |cons a q ih=>rw[bh,nM,ih];rfl
  rw[this];omega
 have h1:=Rk.xT (p:=p) (n:=ls.length+rows.length) h.hp ((List.range rows.length).reverse.map fun(c:Nat)=>((List.range (ls.length+rows.length)).map (co (dG p ls.length c (rows.getD c []))),ls.length+c)) (fun x hx=>by
  obtain⟨c,hc,rfl⟩:=aI.mp hx
  have hc:=dI.mp (z4.mp hc)
  refine⟨by show ls.length+c<_;omega,?_⟩
  show¬p∣gI _ (ls.length+c)
  rw[hco c hc,if_pos (by omega),hd c hc]
  intro z
  have:=mQ (by omega) z
  omega) (by
  rw[kK,List.pairwise_reverse]
  refine wY (fun{a b} ha hb hlt=>?_) Cw
  have ha:=dI.mp ha
  have hb:=dI.mp hb
  show p∣gI _ (ls.length+b)
  rw[hco a ha,if_pos (by omega),hz a ha b hlt]
  exact⟨0,by omega⟩)
 rw[aj,List.length_reverse,gG] at h1
 refine h1.congr (by omega) fun w hw=>?_
 have iJ:∀c,c<rows.length->az (gI w) ((List.range (ls.length+rows.length)).map (co (dG p ls.length c (rows.getD c []))))=aL (dG p ls.length c (rows.getD c [])) (w.map some):=fun c hc=>by
  have hm:=rW (p:=p) (c:=c) (show(0:Int)<=ls.length by omega) (h.row hc).2.1
  rw[CH (gI w) _ fun pr aH=>by have:=hm pr aH;omega,nP (n:=(ls.length:Int)+rows.length) (by rw[hw.len];omega) _ fun pr aH=>by have:=hm pr aH;omega]
 constructor
 ·intro hV q hq
  obtain⟨c,hc,rfl⟩:=wG hq
  rw[<-iJ c hc]
  exact hV _ (aI.mpr ⟨(_,ls.length+c),aI.mpr ⟨c,z4.mpr (dI.mpr hc),rfl⟩,rfl⟩)
 ·intro hV r hr
  obtain⟨x,hx,rfl⟩:=aI.mp hr
  obtain⟨c,hc,rfl⟩:=aI.mp hx
  have hc:=dI.mp (z4.mp hc)
  show p∣az (gI w) _
  rw[iJ c hc]
  exact hV _ (bD (qo hc))
theorem c8.vn(h:c8 p ls rows):VN p (fL p ls.length rows) (aZ p ls rows rows.length):=fun q hq=>qm (h.HH q hq)
theorem c8.rw(h:c8 p ls rows):bf p (ls.length+rows.length) (aZ p ls rows rows.length):=⟨h.AJ,h.HL⟩
theorem GB{q:aN}{j:Nat}(h:∀pr∈q,pr.1.toNat≠j):co q j=0:=by
 unfold co
 rw[show q.map (fun pr=>if pr.1.toNat=j then pr.2 else 0)=q.map fun _=>(0:Int) from mH fun pr aH=>by rw[if_neg (h pr aH)]]
 clear h
 induction q with
 |nil=>rfl
 |cons a q ih=>rw[bh,nM,ih];rfl
theorem GQ:∀{q:aN},(q.map (·.1)).Nodup->(∀pr∈q,0<=pr.1)->∀pr∈q,co q pr.1.toNat=pr.2
  |[],_,_,pr,h=>by cases h
  | x :: q, hn, h0, pr, h => by
    rw[bh,ic] at hn
    have e:co (x::q) pr.1.toNat=(if x.1.toNat=pr.1.toNat then x.2 else 0)+co q pr.1.toNat:=rfl
    rw[e]
    have hx:=h0 x (ck ..)
    have hp:=h0 pr h
    rcases aP.mp h with z|z
    · subst z
      rw[if_pos rfl,GB fun y hy e=>hn.1 (by
        have:=h0 y (bJ _ hy)
        rw[show pr.1=y.1 by omega];exact jO hy)]
      omega
    · rw[if_neg (fun e=>hn.1 (by rw[show x.1=pr.1 by omega];exact jO z)),GQ hn.2 (fun y hy=>h0 y (bJ _ hy)) pr z]
      omega
theorem Np{n:Int}{w:List Int}{q:aN}{j:Nat}{y:Int}(hw:w.length=n.toNat)(hj:j<n.toNat)(hq:∀pr∈q,0<=pr.1/\pr.1<n):aL q ((w.set j y).map some)=aL q (w.map some)+co q j*(y-gI w j):=by
 have z:∀u:List Int,u.length=n.toNat->aL q (u.map some)=az (gI u) ((List.range n.toNat).map (co q)):=fun u hu=>by rw[nP hu q hq];exact(CH (gI u) q fun pr aH=>by have:=hq pr aH;omega).symm
 rw[z _ (by rw[fX];exact hw),z _ hw]
 have e:gI (w.set j y)=fun i=>gI w i+(fun i=>if i=j then y-gI w j else 0) i:=by
  funext i
  rw[qM (by omega)]
  by_cases c:i=j
  ·subst c;simp only[if_pos];omega
  ·simp only[if_neg c];omega
 rw[show az (gI (w.set j y)) ((List.range n.toNat).map (co q))=az (fun i=>gI w i+(fun i=>if i=j then y-gI w j else 0) i) ((List.range n.toNat).map (co q)) from congrArg (fun f=>az f _) e,qi,o7 (fun i=>if i=j then y-gI w j else 0) _ j (by rw[aj,gG];exact hj) fun i _ c=>by rw[if_neg c,ja],if_pos rfl,pB _ hj,sI]
theorem c8.Qq(h:c8 p ls rows){j:Nat}{y:Int}(hj:j<ls.length)(y0:0<=y)(y1:y<p)(hy:y≠gI (aZ p ls rows rows.length) j):l5 p (fL p ls.length rows) (((aZ p ls rows rows.length).set j y).map some)↔∀r∈rows,(j:Int)∉r:=by
 have p2:=h.hp.1
 have hb:=h.rw.g (i:=j) (by omega)
 have hl:=h.AJ
 have hnone:none∉((aZ p ls rows rows.length).set j y).map some:=fun z=>by obtain⟨_,_,e⟩:=aI.mp z;cases e
 have hlen:(aZ p ls rows rows.length).length=((ls.length:Int)+rows.length).toNat:=by omega
 have sr:∀c,c<rows.length->aL (dG p ls.length c (rows.getD c [])) (((aZ p ls rows rows.length).set j y).map some)=aL (dG p ls.length c (rows.getD c [])) ((aZ p ls rows rows.length).map some)+co (dG p ls.length c (rows.getD c [])) j*(y-gI (aZ p ls rows rows.length) j):=fun c hc=>by
  have hm:=rW (p:=p) (c:=c) (show(0:Int)<=ls.length by omega) (h.row hc).2.1
  exact Np hlen (by omega) fun pr aH=>by have:=hm pr aH;omega
 have hin:∀c,c<rows.length->(j:Int)∈rows.getD c []->co (dG p ls.length c (rows.getD c [])) j=1:=fun c hc hin=>by
  have hm:=rW (p:=p) (c:=c) (show(0:Int)<=ls.length by omega) (h.row hc).2.1
  have:=GQ (D6 (p:=p) (c:=c) (show(0:Int)<=ls.length by omega) (h.row hc)) (fun pr aH=>(hm pr aH).1) ((j:Int),1) (by
   rw[l9]
   exact kh _ (aI.mpr ⟨_,kh _ hin,rfl⟩))
  simpa using this
 have hout:∀c,c<rows.length->(j:Int)∉rows.getD c []->co (dG p ls.length c (rows.getD c [])) j=0:=fun c hc hout=>GB fun pr aH z=>by
  rw[l9] at aH
  rcases ez.mp aH with y|y
  ·obtain⟨x,hx,rfl⟩:=aI.mp y
   have z:x.toNat=j:=z
   rcases ez.mp hx with u|u
   ·have:=(h.row hc).2.1 x u
    exact hout (by rw[show(j:Int)=x by omega];exact u)
   ·split at u
    ·rw[aU.mp u] at z;omega
    ·cases u
  ·rw[aU.mp y] at z
   have z:((ls.length:Int)+c).toNat=j:=z
   omega
 constructor
 ·rintro⟨_,ht⟩ r hr hjr
  obtain⟨c,hc⟩:=iO hr
  have hcl:=(bI.mp hc).1
  have hg:rows.getD c []=r:=by rw[bU,hc];rfl
  have h1:=ht _ (bD (qo (p:=p) (k:=(ls.length:Int)) hcl))
  have h2:=h.HH _ (bD (qo (p:=p) (k:=(ls.length:Int)) hcl))
  rw[sr c hcl,hin c hcl (by rw[hg];exact hjr),qX] at h1
  have d1:=qm h1
  have d2:=qm h2
  have d3:=Cz d1 d2
  rw[show∀S T:Int,S+T-S=T from fun S T=>by omega] at d3
  rcases Int.lt_trichotomy y (gI (aZ p ls rows rows.length) j) with z|z|z
  ·have:=mQ (a:=p) (b:=gI (aZ p ls rows rows.length) j-y) (by omega) (by have:=Int.dvd_neg.mpr d3;rwa[Int.neg_sub] at this)
   omega
  ·exact hy z
  ·have:=mQ (a:=p) (by omega) d3
   omega
 ·intro hr
  refine⟨hnone,fun q hq=>?_⟩
  obtain⟨c,hc,rfl⟩:=wG hq
  have hmem:rows.getD c []∈rows:=by rw[iZ hc];exact cV _
  rw[sr c hc,hout c hc (hr _ hmem),ja,nV]
  exact h.EF hc
end
end L2
set_option maxRecDepth 100000
set_option maxHeartbeats 8000000
namespace K68
open PySem L2
def top(i:Nat):Stmt:=PySem.Challenge.pw_fewchecks_k68_whole_all_true_words_are_l.main.body.getD i (.Pass ⟨0,0,0,0⟩)
abbrev CY:Stmt:=top 1
abbrev CZ:Stmt:=top 2
abbrev vg:Stmt:=top 4
abbrev uL:Stmt:=top 5
abbrev xY:Stmt:=top 6
abbrev uK:Stmt:=top 8
abbrev zV:Stmt:=top 9
abbrev vU:Stmt:=top 10
abbrev yz:Stmt:=top 12
abbrev Bt:Stmt:=top 13
abbrev za:Stmt:=top 14
abbrev vE:Stmt:=top 15
abbrev vj:Stmt:=top 16
abbrev uZ:Stmt:=top 17
abbrev AZ:Stmt:=top 18
abbrev BA:Stmt:=top 19
abbrev vS:Stmt:=top 22
abbrev Ce:Stmt:=top 23
abbrev yZ:Stmt:=top 24
abbrev wF:Stmt:=top 25
abbrev zc:Stmt:=top 26
abbrev sE:Stmt:=top 27
abbrev DB:Stmt:=top 28
abbrev uy:Stmt:=top 29
abbrev p8:Stmt:=top 30
abbrev tu:Stmt:=top 31
abbrev wQ:Stmt:=top 32
abbrev nH:Stmt:=top 33
abbrev jN:Stmt:=top 34
abbrev lH:Stmt:=inClass (top 20) 0
abbrev nL:Stmt:=inClass (top 20) 1
abbrev pQ:Stmt:=inClass (top 20) 2
abbrev pZ:Stmt:=inClass (top 20) 3
local macro_rules| `(tactic|walk_at "d0")=> `(tactic|first|omega|assumption|decide|(unfold Sm at*;omega)|(unfold tK;omega)|(unfold Di;decide)|(unfold Di;omega))
local macro_rules| `(tactic|walk_at "ds")=> `(tactic|((try dsimp only);first|walk_at "d0" |(refine And.intro ?_ ?_<;>walk_at "d0")|(refine Or.inl ?_;walk_at "d0")|(refine Or.inr (And.intro ?_ ?_)<;>walk_at "d0")))
local macro_rules| `(tactic|walk_at "s1")=> `(tactic|with_reducible first
 |refine R.seq ?_|refine R.asg ?_|refine R.oG ?_|refine R.ret ?_|refine R.next ?_|refine R.c ?_|refine R.op ?_|refine R.test ?_|refine R.bl ?_|refine R.tru ?_
 |refine R.and ?_|refine R.S9 ?_|refine R.cb ?_|refine R.call ?_|refine R.nil ?_|refine R.cons ?_
 |refine R.lst ?_|refine R.sl ?_|refine R.Ql ?_|refine R.part ?_|refine R.UQ ?_|refine R.bm ?_|refine R.Wh ?_|refine R.Jm ?_|refine R.QS ?_|refine R.V6 ?_|refine R.KD ?_|refine R.qN ?_
 |refine R.gP ?_|refine R.WT ?_|refine R.UR ?_|refine R.eqNI ?_|refine R.eqIN ?_|refine R.isI ?_|refine R.Jw ?_|refine R.Fy ?_|refine R.bits ?_
 |refine tw ?_|refine FQ ?_|refine R.nilE ?_|refine R.O8 ?_|refine R.KN ?_|refine R.VP ?_|refine R.R5 ?_|refine R.iL ?_|refine R.Mx ?_|refine R.comp ?_)
local macro_rules| `(tactic|walk_at "st")=> `(tactic|repeat (first
 |walk_at "s1"
 |((with_reducible refine' R.var ?h0 ?_);(case h0=>rfl))
 |((with_reducible refine' R.rI ?h1 ?_);(case h1=>walk_at "ds"))
 |((with_reducible refine' R.BI (o:= .lst []) ?h1 ?_);(case h1=>rfl))
 |((with_reducible refine' R.tH ?h0 ?h1 ?_);(case h0=>assumption);(case h1=>rfl))
 |((with_reducible refine' R.ixTM ?h0 ?h1 ?_);(case h0=>assumption);(case h1=>rfl))
 |((with_reducible refine' R.S2 ?h1 ?_);(case h1=>rfl))
 |((with_reducible refine' R.setM ?h0 ?h1 ?_);(case h0=>assumption);(case h1=>rfl))
 |((with_reducible refine' R.Pp ?h0 ?_);(case h0=>assumption))
 |((with_reducible refine' R.lenL ?h0 ?_);(case h0=>assumption))
 |((with_reducible refine' R.M6 ?h0 ?h1 ?_);(case h0=>walk_at "ds");(case h1=>walk_at "ds"))
 |((with_reducible refine' R.PN ?h0 ?_);(case h0=>walk_at "ds"))
 |((with_reducible refine' R.wj ?h0 ?_);(case h0=>assumption))
 |((with_reducible refine' R.JX ?h0 ?_);(case h0=>first|exact R.dT (by omega)|exact R.GI (by omega)|decide))
 |((with_reducible refine' R.Ff ?h0 ?_);(case h0=>first|exact R.dF (by omega)|exact R.Fg (by omega)|decide))
 |(with_reducible refine R.Ng ?_)|(with_reducible refine R.Kv ?_)))
local macro_rules| `(tactic|walk_at "fv")=> `(tactic|first|exact Or.inl rfl|exact Or.inr (Or.inl rfl)|exact Or.inr (Or.inr (Or.inl rfl))|exact Or.inr (Or.inr (Or.inr (Or.inl rfl)))|exact Or.inr (Or.inr (Or.inr (Or.inr rfl))))
local macro_rules| `(tactic|walk_at "d1")=> `(tactic|with_reducible first
 |refine Sv.seq ?_|refine Sv.Ho ?_|refine Sv.asg ?_|refine Sv.UJ ?_|refine Sv.oG ?_|refine Sv.ret ?_|refine Sv.next ?_|refine Sv.retN ?_
 |refine Ev.int ?_|refine Ev.bl ?_|refine Ev.aE ?_|refine Ev.gP ?_|refine Ev.LW ?_|refine Ev.rI ?_|refine Ev.rU ?_|refine Ev.eq ?_|refine Ev.ne ?_|refine Ev.is ?_|refine Ev.R7 ?_|refine Ev.Ri ?_|refine Ev.E4 ?_|refine Ev.MT ?_
 |refine Ev.BC ?_|refine Ev.orV ?_|refine Ev.TQ ?_|refine Tv.test ?_|refine Tv.and ?_|refine Tv.or ?_|refine Tv.not ?_|refine Tv.qN ?_|refine Tv.RM ?_
 |refine Ev.Ow ?_|refine Ev.tupS ?_|refine Ev.tup ?_|refine Ev.lst ?_|refine Av.nil ?_|refine Av.cons ?_|refine Av.K7 ?_|refine Ov.none ?_|refine Ov.some ?_|refine Ev.min2 ?_|refine Ev.max2 ?_|refine Ev.We ?_|refine Ev.whole ?_
 |refine R.di ?_|refine R.db ?_|refine R.dl ?_|refine R.dt ?_|refine R.Mf ?_|refine R.Uy ?_|refine R.NN ?_|refine R.eqni ?_|refine R.eqin ?_|refine R.eqnn ?_|refine R.M3 ?_
 |refine Gv.iX ?_|refine Gv.Lq ?_|refine Gv.nameN ?_|refine Gv.nameT ?_|refine Gv.jy ?_|refine Gv.xC ?_|refine Gv.qb ?_|refine tw ?_|refine FQ ?_)
local macro_rules| `(tactic|walk_at "dt")=> `(tactic|repeat (first
 |((with_reducible refine' Sv.En ?h0 ?_);(case h0=>rfl))
 |((with_reducible refine' Sv.qt ?h0 ?_);(case h0=>rfl))
 |walk_at "d1"
 |((with_reducible refine' Ev.var ?h0 ?_);(case h0=>rfl))
 |((with_reducible refine' Ev.draw ?h0 ?_);(case h0=>rfl))
 |((with_reducible refine' Ev.N6 ?h0 ?_);(case h0=>rfl))
 |((with_reducible refine' Ev.lenOwn ?h0 ?_);(case h0=>rfl))
 |((with_reducible refine' Ev.listOwn ?h0 ?_);(case h0=>rfl))
 |((with_reducible refine' Ev.slOwn ?h0 ?_);(case h0=>rfl))
 |((with_reducible refine' Sv.append ?h0 ?_);(case h0=>rfl))
 |((with_reducible refine' Sv.qt ?h0 ?_);(case h0=>rfl))
 |((with_reducible refine' Sv.En ?h0 ?_);(case h0=>rfl))
 |((with_reducible refine' Gv.tup ?h0 ?_);(case h0=>rfl))
 |((with_reducible refine' R.at_ ?h0 ?_);(case h0=>first|rfl|assumption))
 |(with_reducible refine Ev.NI ?_)|(with_reducible refine Ev.Wj ?_)|(with_reducible refine Ev.listOf ?_)|(with_reducible refine Ev.sl ?_)|(with_reducible refine Ev.cat ?_)|(with_reducible refine Ev.Uv ?_)
 |((with_reducible refine' Ev.Lh ?h0 ?_);(case h0=>walk_at "fv"))
 |((with_reducible refine' Ev.QK ?h0 ?h1 ?_);(case h0=>walk_at "fv");(case h1=>walk_at "fv"))
 |(with_reducible refine Ev.all ?_)|(with_reducible refine Ev.sum ?_)|(with_reducible refine Ev.BI ?_)
 |((with_reducible refine' R.Qv ?_))
 |((with_reducible refine' R.JX ?h0 ?_);(case h0=>first|exact R.dT (by omega)|exact R.GI (by omega)|rfl))
 |((with_reducible refine' R.Ff ?h0 ?_);(case h0=>first|exact R.dF (by omega)|exact R.Fg (by omega)|exact bV))
 |((with_reducible refine' R.L7 ?h0 ?_);(case h0=>first|walk_at "ds" |exact qj rfl))))
local macro_rules| `(tactic|walk_at "wk")=> `(tactic|repeat (first|exact Wk.nil|apply Wk.no|apply Wk.eq))
section
variable{P:Program}{w:World}{K:PySem.W.Frag}{mg:Str->Option Value}{base:Heap}{f:Addr}{fd:FuncData}
def tW:DF:=fun ds Φ=>∃(p c:Int) (w:Nat) (r:List Int),ds=[.int p, .int c,aB r]/\0<p/\p<10^40/\bf p w r/\w<=10000/\0<=c/\c<p/\Φ true (aB (mulR p c r))
theorem Sz:dS tW:=by
 intro ds Φ Ψ hm z
 obtain⟨p,c,w,r,e,h1,h2,h3,h4,h5,h6,q⟩:=hm
 exact⟨p,c,w,r,e,h1,h2,h3,h4,h5,h6,z _ _ q⟩
theorem Ws:bX ["p","factor","row"] ["p","factor","row"] (aJ vj):=⟨rfl,rfl,rfl,by decide+kernel,rfl,by decide+kernel,by decide+kernel⟩
theorem Sd(F:bP K "times" "times" vj f fd):
  bB P w K mg base bM 1 f fd ["p","factor","row"] (bF 3 tW):=by
 refine F.ok Ws (fun vs H Q E h=>h.1) (fun cdv A outer s H vs Q E hr h=>?_)
 obtain⟨nb,ds,Φ,hlive,hds,aF,hF⟩:=gn h
 obtain⟨p,c,w,r,rfl,hp,g9,hr,hw,c0,c1,q⟩:=hF
 refine⟨_,(@aO _ _ _ (@bz _ _ _ _ (dH (bS.of (show cW (aJ vj) ["p","factor","row"] _ ["number","p","factor"] [none,some 0,some 1]=true by decide+kernel)) (dQ (K:=K) rfl (pv 2)) (fun _ _ _ _=>⟨(br (i:=0) (by show List.Nodup (["number","p","factor"]:List Str);decide+kernel) rfl (Or.inl rfl)),eG,(@aM _ _ _ _ _ _ _ _ gM (@aM _ _ _ _ _ _ _ _ iD (pv 2) (pv 0)) (pv 1))⟩)))),?_⟩
 refine Sv.gy hlive hds aF (ρ:=[.d false _, .d false _, .d false _]) rfl ?_
 clear aF hds
 have hrl:(r.map PyData.int).length=r.length:=aj ..
 have hl:=hr.len
 have hsm:∀x:Int,0<=x->x<=p->Sm x:=fun x x0 x1=>by unfold Sm;omega
 walk_at "dt"
 refine au.ev (au.gx (by decide) rfl ?_)
 walk_at "dt"
 refine fun v=>⟨true,fun i ds=>ds=((r.take i).map fun x=>c*x%p).map PyData.int,rfl,?_,?_⟩
 ·rintro i d ds hd hl' rfl
  obtain⟨x,hx,rfl⟩:=dj hd
  obtain⟨x0,x1⟩:=hr.rg x (bD hx)
  have s1:=hsm c c0 (by omega)
  have s2:=hsm x x0 (by omega)
  walk_at "dt"
  refine⟨by walk_at "wk",?_⟩
  walk_at "dt"
  show _=List.map PyData.int (List.map _ (List.take (i+1) r))
  rw[take_snoc hx,cS,cS]
  rfl
 rintro ds hl' rfl
 rw[hrl,eT]
 exact q
theorem jt:bX ["p","b","last_rest","last_times","rest","times","quotient","next_rest","next_times"] ["p","b"] (aJ CY):=⟨rfl,rfl,rfl,by decide+kernel,rfl,by decide+kernel,by decide+kernel⟩
theorem Vv(F:bP K "inverse" "inverse" CY f fd)(Gq:Callee P w K mg base "times" 1 ["p","factor","row"] (bF 3 tW)):
  bB P w K mg base bM 2 f fd ["p","b"] Au:=by
 refine F.ok jt (fun vs H Q E h=>?_) (fun cdv A outer s H vs Q E hr h=>?_)
 ·obtain⟨p,b,rfl,hp,hp3,hb,q⟩:=h
  rfl
 obtain⟨p,b,rfl,hp,hp3,hb,q⟩:=h
 refine⟨_,(@aC _ _ _ _ _ (@aV _ _ (2) _ _ _ _ jt.nd rfl (Or.inl rfl) (pv 0) (by rfl) (by first|exact .inl rfl|exact .inr rfl|assumption)) (@aC _ _ _ _ _ (@aV _ _ (3) _ _ _ _ jt.nd rfl (Or.inl rfl) ao (by rfl) (by first|exact .inl rfl|exact .inr rfl|assumption)) (@aC _ _ _ _ _ (@aV _ _ (4) _ _ _ _ jt.nd rfl (Or.inl rfl) (@aM _ _ _ _ _ _ _ _ gM (pv 1) (pv 0)) (by rfl) (by first|exact .inl rfl|exact .inr rfl|assumption)) (@aC _ _ _ _ _ (@aV _ _ (5) _ _ _ _ jt.nd rfl (Or.inl rfl) ao (by rfl) (by first|exact .inl rfl|exact .inr rfl|assumption)) (@aC _ _ _ _ _ (@WA _ _ _ _ _ _ iH (@cC _ _ _ _ _ _ _ _ jB (pv 4) ao (bW _)) (@aC _ _ _ _ _ (@aV _ _ (6) _ _ _ _ jt.nd rfl (Or.inl rfl) (@aM _ _ _ _ _ _ _ _ qJ (pv 2) (pv 4)) (by rfl) (by first|exact .inl rfl|exact .inr rfl|assumption)) (@aC _ _ _ _ _ (@aV _ _ (7) _ _ _ _ jt.nd rfl (Or.inl rfl) (@aM _ _ _ _ _ _ _ _ m8 (pv 2) (@aM _ _ _ _ _ _ _ _ iD (pv 6) (pv 4))) (by rfl) (by first|exact .inl rfl|exact .inr rfl|assumption)) (@aC _ _ _ _ _ (@aV _ _ (8) _ _ _ _ jt.nd rfl (Or.inl rfl) (@aM _ _ _ _ _ _ _ _ m8 (pv 3) (@aM _ _ _ _ _ _ _ _ iD (pv 6) (pv 5))) (by rfl) (by first|exact .inl rfl|exact .inr rfl|assumption)) (@aC _ _ _ _ _ (@aV _ _ (2) _ _ _ _ jt.nd rfl (Or.inl rfl) (pv 4) (by rfl) (by first|exact .inl rfl|exact .inr rfl|assumption)) (@aC _ _ _ _ _ (@aV _ _ (3) _ _ _ _ jt.nd rfl (Or.inl rfl) (pv 5) (by rfl) (by first|exact .inl rfl|exact .inr rfl|assumption)) (@aC _ _ _ _ _ (@aV _ _ (4) _ _ _ _ jt.nd rfl (Or.inl rfl) (pv 7) (by rfl) (by first|exact .inl rfl|exact .inr rfl|assumption)) (@aO _ _ _ (@aV _ _ (5) _ _ _ _ jt.nd rfl (Or.inl rfl) (pv 8) (by rfl) (by first|exact .inl rfl|exact .inr rfl|assumption)))))))))) (@aO _ _ _ (@bz _ _ _ _ (@aM _ _ _ _ _ _ _ _ gM (pv 3) (pv 0))))))))),?_⟩
 have hp2:=hp.1
 walk_at "st"
 refine RV (fun σ H1=>H1=H/\∃(L lt r t:Int) (x6 x7 x8:Option V),σ=[some (.int p),some (.int b),some (.int L),some (.int lt),some (.int r),some (.int t),x6,x7,x8]/\Eu p b L lt r t) (fun(σ:St) (_:Hp)=>match σ[4]? with|some (some (V.int r))=>r.toNat|_=>0) ⟨rfl,_,_,_,_,_,_,_,rfl,Eu.start hp2⟩ ?_ ?_
 ·rintro σ H1 ⟨rfl,L,lt,r,t,x6,x7,x8,rfl,E⟩
  obtain⟨t1,t2⟩:=E.tb
  have e1:=E.l0
  have e2:=E.r0
  have e3:=E.lp
  have e4:=E.rp
  walk_at "st"
  refine pP (fun c=>?_) (fun c=>?_)
  ·have c:r≠0:=of_decide_eq_true c
   have hr:0<r:=by omega
   have q1:0<=L/r:=Dg (by omega) (by omega)
   have q2:L/r<=L:=Int.ediv_le_self _ (by omega)
   obtain⟨N1,N2⟩:=E.next hr
   walk_at "st"
   refine⟨⟨rfl,_,_,_,_,_,_,_,rfl,N1⟩,?_⟩
   show(L-L/r*r).toNat<r.toNat
   omega
  ·have c:r=0:=by simpa using c
   subst c
   walk_at "st"
   exact q _ (fP _ (by omega)) (fZ _ (by omega)) (E.fin hp hb)
 ·exact fun σ H Q Q' h ⟨v,e,s,k,ek,z⟩=>⟨v,e,s,k,ek,h _ _ z⟩
theorem sq:bX ["p","pairs","word","reached","place","factor"] ["p","pairs","word"] (aJ CZ):=⟨rfl,rfl,rfl,by decide+kernel,rfl,by decide+kernel,by decide+kernel⟩
theorem Nf(F:bP K "total" "total" CZ f fd):
    bB P w K mg base bM 1 f fd ["p","pairs","word"] qy:=by
  refine F.ok sq (fun vs H Q E h=>?_) (fun cdv A outer s H vs Q E hr h=>?_)
  · obtain⟨nb,p,va,vc,prs,wd,rfl,hA,hC,hp,h1,h2,q⟩:=h
    rfl
  obtain⟨nb,p,va,vc,prs,wd,rfl,hA,hC,hp,h1,h2,q⟩:=h
  refine⟨_,(@aC _ _ _ _ _ (@aV _ _ (3) _ _ _ _ sq.nd rfl (Or.inl rfl) ao (by rfl) (by first|exact .inl rfl|exact .inr rfl|assumption)) (@aC _ _ _ _ _ (@iS _ _ _ _ _ _ _ _ iH rfl (dQ (K:=K) rfl (pv 1)) (Je rfl (@eY _ _ _ _ _ (br (i:=4) sq.nd rfl (Or.inl rfl)) (@eY _ _ _ _ _ (br (i:=5) sq.nd rfl (Or.inl rfl)) jP (by rfl)) (by rfl))) (@aO _ _ _ (@ff _ _ _ _ _ _ _ _ (@cC _ _ _ _ _ _ _ _ JO (@aT _ _ _ _ _ _ _ bY (pv 2) (pv 4) (fun _ _=>rfl)) pD (bW _)) (@aO _ _ _ (@aV _ _ (3) _ _ _ _ sq.nd rfl (Or.inl rfl) (@aM _ _ _ _ _ _ _ _ gM (@aM _ _ _ _ _ _ _ _ fB (pv 3) (@aM _ _ _ _ _ _ _ _ iD (pv 5) (@aT _ _ _ _ _ _ _ bY (pv 2) (pv 4) (fun _ _=>rfl)))) (pv 0)) (by rfl) (by first|exact .inl rfl|exact .inr rfl|assumption))) fJ)) (by intro _;rfl)) (@aO _ _ _ (@bz _ _ _ _ (pv 3))))),?_⟩
  obtain⟨a,xs,rfl,na,ha,da⟩:=hA.cQ
  obtain⟨c,ws,rfl,nc,hc,dc⟩:=hC.cQ
  have sM:=da.length
  rw[aj] at sM
  have ew:=CP dc
  subst ew
  walk_at "st"
  refine R.wj (aQ.of ha) ?_
  refine EX (xs:=xs) (fun i σ H1=>H1=H/\∃(r:Int) (x y:Option V),σ=[some (.int p),some (.ref a),some (.ref c),some (.int r),x,y]/\r=aL (prs.take i) wd%p) ⟨rfl,0,none,none,rfl,by simp[aL]⟩ ?_ ?_ ?_
  · rintro i σ H1 hi ⟨rfl,_⟩
    exact aQ.of ha
  · rintro i x σ H1 hx ⟨rfl,r,y,z,rfl,hr⟩
    have hi:i<prs.length:=by have:=(bI.mp hx).1;omega
    obtain⟨x',hx',dx⟩:=da.get (i:=i) (by rw[bx,aD hi];rfl)
    rw[hx] at hx';cases hx'
    obtain⟨t,rfl,nt,ht⟩:=UC dx
    obtain⟨g1,g2,g3⟩:=h1 _ (cV hi)
    have hk:prs[i].fst.toNat<wd.length:=by omega
    have hat:bL (wd.map oU) prs[i].fst=some (oU wd[prs[i].fst.toNat]):=gK g1 (by rw[bx,aD hk];rfl)
    have Ci:jE wd prs[i]=match wd[prs[i].fst.toNat] with|some x=>prs[i].snd*x|none=>0:=by
      unfold jE
      rw[aD hk]
      cases wd[prs[i].fst.toNat]<;>rfl
    have hs2:∀x,wd[prs[i].fst.toNat]=some x->Sm x:=fun x e=>h2 x (by rw[<-e];exact cV hk)
    have hd:=Ic (wd:=wd) hi
    refine R.U6 (fQ.of ht) rfl ?_
    walk_at "st"
    refine R.tH hc hat ?_
    walk_at "st"
    generalize wd[prs[i].fst.toNat]=o at hat Ci hs2⊢
    cases o with
    | none =>
      refine R.Fy ?_
      walk_at "st"
      refine⟨rfl,_,_,_,rfl,?_⟩
      rw[hd,Ci,hr,nV]
    | some x =>
      have Vy:=hs2 x rfl
      refine R.Jw ?_
      walk_at "st"
      refine R.tH hc hat ?_
      refine R.rI (Or.inr ⟨g3,Vy⟩) ?_
      walk_at "st"
      refine⟨rfl,_,_,_,rfl,?_⟩
      rw[hd,Ci,hr,Int.emod_add_emod]
  · rintro σ H1 ⟨rfl,r,x,y,rfl,hr⟩
    walk_at "st"
    rw[sM,eT] at hr
    rw[hr]
    exact q
def wV:DF:=fun ds Φ=>∃(p k c:Int) (row:List Int),ds=[.int p, .int k, .int c,aB row]/\row.length<=1000/\Φ true (jR (dG p k c row))
theorem Sw:dS wV:=by
 intro ds Φ Ψ hm z
 obtain⟨p,k,c,r,e,h,q⟩:=hm
 exact⟨p,k,c,r,e,h,z _ _ q⟩
theorem J8:bX ["p","k","c","row","ahead"] ["p","k","c","row"] (aJ uL):=⟨rfl,rfl,rfl,by decide+kernel,rfl,by decide+kernel,by decide+kernel⟩
theorem KQ(F:bP K "stair" "stair" uL f fd):
  bB P w K mg base bM 1 f fd ["p","k","c","row"] (bF 4 wV):=by
 refine F.ok J8 (fun vs H Q E h=>h.1) (fun cdv A outer s H vs Q E hr h=>?_)
 obtain⟨nb,ds,Φ,hlive,hds,aF,hF⟩:=gn h
 obtain⟨p,k,c,row,rfl,hl,q⟩:=hF
 refine⟨_,(@aC _ _ _ _ _ (@aV _ _ (4) _ _ _ _ J8.nd rfl (Or.inl rfl) (@Hq _ _ _ _ _ _ _ _ (@cC _ _ _ _ _ _ _ _ G6 (pv 2) ao (bW _)) (@fW _ _ _ _ (@aa _ _ _ _ _ (@aM _ _ _ _ _ _ _ _ m8 (@aM _ _ _ _ _ _ _ _ fB (pv 1) (pv 2)) ao) ak rfl)) (@fW _ _ _ _ ak)) (by rfl) (by first|exact .inl rfl|exact .inr rfl|assumption)) (@aO _ _ _ (@bz _ _ _ _ (@aM _ _ _ _ _ _ _ _ rj (dH (bS.of (show cW (aJ uL) ["p","k","c","row","ahead"] _ ["place"] [none]=true by decide+kernel)) (dQ (K:=K) rfl (@aM _ _ _ _ _ _ _ _ rj (pv 3) (pv 4))) (fun _ _ _ _=>⟨(br (i:=0) (by show List.Nodup (["place"]:List Str);decide+kernel) rfl (Or.inl rfl)),eG,(@jL _ _ _ _ _ (@aa _ _ _ _ _ (pv 0) (@aa _ _ _ _ _ ao ak rfl) rfl))⟩)) (@fW _ _ _ _ (@aa _ _ _ _ _ (@jL _ _ _ _ _ (@aa _ _ _ _ _ (@aM _ _ _ _ _ _ _ _ fB (pv 1) (pv 2)) (@aa _ _ _ _ _ (@aM _ _ _ _ _ _ _ _ m8 (pv 0) ao) ak rfl) rfl)) ak rfl)))))),?_⟩
 refine Sv.gy hlive hds aF (ρ:=[.d false _, .d false _, .d false _, .d false _, .no]) rfl ?_
 clear aF hds
 have kD:(row.map PyData.int).length=row.length:=aj ..
 refine Sv.seq ?_
 refine Sv.qY (fun ρ'=>∃(ah:List Int) (g:Bool),ah.length<=1/\(if 0<c then[k+c-1] else[])=ah/\ρ'=[.d false (.int p), .d false (.int k), .d false (.int c), .d false (aB row), .d g (aB ah)]) ?_ ?_
 ·walk_at "dt"
  by_cases h0:0<c
  ·walk_at "dt"
   exact⟨[k+c-1],_,by simp,if_pos h0,rfl⟩
  ·walk_at "dt"
   exact⟨[],_,by simp,if_neg h0,rfl⟩
 rintro ρ' ⟨ah,g,hah,eah,rfl⟩
 have hla:(ah.map PyData.int).length=ah.length:=aj ..
 walk_at "dt"
 refine au.ev (au.gx (by decide) rfl ?_)
 walk_at "dt"
 have e1:row.map PyData.int++ah.map PyData.int=(row++ah).map PyData.int:=by rw[cS]
 rw[e1]
 refine⟨by rw[aj,fF];omega,fun v=>dZ.rel pairD true (fun i pr=>∃x,(row++ah)[i]?=some x/\pr=(x,1)) ?_ fun prs hpl fG=>?_⟩
 ·rintro i d hd
  obtain⟨x,hx,rfl⟩:=dj hd
  walk_at "dt"
  refine⟨by walk_at "wk",?_⟩
  walk_at "dt"
  exact⟨fun _=>rfl,(x,1),rfl,x,hx,rfl⟩
 rw[aj] at hpl
 have hmap:prs=(row++ah).map fun x=>(x,(1:Int)):=HX hpl fG
 walk_at "dt"
 refine⟨by rw[aj,hpl,fF];show _+1<=10000;omega,?_⟩
 show Φ _ (.list (prs.map pairD++[pairD (k+c,p-1)]))
 rw[show prs.map pairD++[pairD (k+c,p-1)]=(dG p k c row).map pairD by unfold dG;rw[eah,hmap];simp]
 exact q
def q9:DF:=fun ds Φ=>∃(p k:Int) (rows:List (List Int)),ds=[.int p, .int k, .list (rows.map aB)]/\rows.length<=1000/\(∀r∈rows,r.length<=1000)/\Φ true (kc p (k+rows.length) (fL p k rows))
theorem zU:dS q9:=by
 intro ds Φ Ψ hm z
 obtain⟨p,k,rows,e,h1,h2,q⟩:=hm
 exact⟨p,k,rows,e,h1,h2,z _ _ q⟩
theorem Mg:bX ["p","k","rows"] ["p","k","rows"] (aJ vg):=⟨rfl,rfl,rfl,by decide+kernel,rfl,by decide+kernel,by decide+kernel⟩
theorem Om(F:bP K "staired" "staired" vg f fd)(RK:Callee P w K mg base "stair" 1 ["p","k","c","row"] (bF 4 wV))(cD:mg "len"=none)(kX:mg "enumerate"=none):
  bB P w K mg base bM 2 f fd ["p","k","rows"] (bF 3 q9):=by
 refine F.ok Mg (fun vs H Q E h=>h.1) (fun cdv A outer s H vs Q E hr h=>?_)
 obtain⟨nb,ds,Φ,hlive,hds,aF,hF⟩:=gn h
 obtain⟨p,k,rows,rfl,hl,hR,q⟩:=hF
 refine⟨_,(@aO _ _ _ (@bz _ _ _ _ (@jL _ _ _ _ _ (@aa _ _ _ _ _ (pv 0) (@aa _ _ _ _ _ (@aM _ _ _ _ _ _ _ _ fB (pv 1) (@cz _ _ _ _ _ _ _ _ (iV K) kF rfl cD jn (@aa _ _ _ _ _ (pv 2) ak rfl) (by decide) (by decide) (by rfl) (by rfl))) (@aa _ _ _ _ _ (dH (bS.of (show cW (aJ vg) ["p","k","rows"] _ ["c","row","p","k"] [none,none,some 0,some 1]=true by decide+kernel)) (@BF _ (K) _ _ _ _ _ _ _ rfl rfl kX (pv 2) (by rfl)) (fun _ _ _ _=>⟨(@kM _ (K) _ _ _ (2) _ rfl rfl (@eY _ _ _ _ _ (br (i:=0) (by show List.Nodup (["c","row","p","k"]:List Str);decide+kernel) rfl (Or.inl rfl)) (@eY _ _ _ _ _ (br (i:=1) (by show List.Nodup (["c","row","p","k"]:List Str);decide+kernel) rfl (Or.inl rfl)) jP (by rfl)) (by rfl)) (by rfl) (by rfl)),eG,(@aY _ _ _ _ _ _ _ _ _ _ RK (hr.mono (by decide)) (@aa _ _ _ _ _ (pv 2) (@aa _ _ _ _ _ (pv 3) (@aa _ _ _ _ _ (pv 0) (@aa _ _ _ _ _ (pv 1) ak rfl) rfl) rfl) rfl) (by rfl) (by decide) (by rfl) (by rfl))⟩)) ak rfl) rfl) rfl)))),?_⟩
 refine Sv.gy hlive hds aF (ρ:=[.d false _, .d false _, .d false _]) rfl ?_
 clear aF hds
 have kD:(rows.map aB).length=rows.length:=aj ..
 walk_at "dt"
 refine au.ev (au.Tc (by decide) rfl ?_)
 walk_at "dt"
 refine fun v=>dZ.rel jR true (fun i prs=>prs=dG p k i (rows.getD i [])) ?_ fun os fK hos=>?_
 ·rintro i d ⟨e,he,rfl⟩
  obtain⟨r,hr1,rfl⟩:=dj he
  walk_at "dt"
  refine⟨by walk_at "wk",?_⟩
  refine Ev.dw Sw ?_
  walk_at "dt"
  refine⟨rfl,p,k,(i:Int),r,rfl,hR r (bD hr1),(fun _=>rfl),_,rfl,?_⟩
  rw[bU,hr1];rfl
 rw[kD] at fK
 have e:os=fL p k rows:=by
  apply iy
  intro i
  unfold fL
  by_cases hi:i<os.length
  ·rw[bx,CI (by omega),aD hi,hos i _ (aD hi)];rfl
  ·rw[eO (by omega),eO (by rw[aj,gG];omega)]
 rw[e]
 walk_at "dt"
 rw[<-kD] at q
 exact q
def uS:DF:=fun ds Φ=>∃(p:Int) (ls:List Int) (rows:List (List Int)),ds=[.int p, .int (ls.length:Int), .list (rows.map aB),aB ls]/\c8 p ls rows/\Φ true (aB (aZ p ls rows rows.length))
theorem wA:dS uS:=by
 intro ds Φ Ψ hm z
 obtain⟨p,ls,rows,e,h1,q⟩:=hm
 exact⟨p,ls,rows,e,h1,z _ _ q⟩
theorem ze:bX ["p","k","rows","letters","word","pairs"] ["p","k","rows","letters"] (aJ xY):=⟨rfl,rfl,rfl,by decide+kernel,rfl,by decide+kernel,by decide+kernel⟩
theorem T5(F:bP K "laid" "laid" xY f fd)(rP:Callee P w K mg base "staired" 2 ["p","k","rows"] (bF 3 q9))(qV:Callee P w K mg base "total" 1 ["p","pairs","word"] qy)(cH:mg "list"=none):
  bB P w K mg base bM 3 f fd ["p","k","rows","letters"] (bF 4 uS):=by
 refine F.ok ze (fun vs H Q E h=>h.1) (fun cdv A outer s H vs Q E hr h=>?_)
 obtain⟨nb,ds,Φ,hlive,hds,aF,hF⟩:=gn h
 obtain⟨p,ls,rows,rfl,hX,q⟩:=hF
 refine⟨_,(@aC _ _ _ _ _ (@aV _ _ (4) _ _ _ _ ze.nd rfl (Or.inl rfl) (@iM _ _ _ _ _ _ _ _ (jT K) l8 rfl cH ie (@aa _ _ _ _ _ (pv 3) ak rfl) (by decide) (by decide) (by rfl) (by rfl)) (by rfl) (by first|exact .inl rfl|exact .inr rfl|assumption)) (@aC _ _ _ _ _ (@iS _ _ _ _ _ _ _ _ iH rfl (dQ (K:=K) rfl (@aT _ _ _ _ _ _ (dD K) dN (@aY _ _ _ _ _ _ _ _ _ _ rP (hr.mono (by decide)) (@aa _ _ _ _ _ (pv 0) (@aa _ _ _ _ _ (pv 1) (@aa _ _ _ _ _ (pv 2) ak rfl) rfl) rfl) (by rfl) (by decide) (by rfl) (by rfl)) ao (fun _ _=>rfl))) (br (i:=5) ze.nd rfl (Or.inl rfl)) (@aO _ _ _ (@CQ _ _ _ _ (xq xj yU zY uW (pv 4) (@aa _ _ _ _ _ (@aY _ _ _ _ _ _ _ _ _ _ qV (hr.mono (by decide)) (@aa _ _ _ _ _ (pv 0) (@aa _ _ _ _ _ (@sA _ _ _ _ _ _ _ _ _ (nB K) sH (pv 5) sZ (@qA _ _ _ (@xW _ _ _ _ _ _ AI ao))) (@aa _ _ _ _ _ (pv 4) ak rfl) rfl) rfl) (by rfl) (by decide) (by rfl) (by rfl)) ak rfl)) (by rfl))) (by intro _;rfl)) (@aO _ _ _ (@bz _ _ _ _ (pv 4))))),?_⟩
 refine Sv.gy hlive hds aF (ρ:=[.d false _, .d false _, .d false _, .d false _, .no, .no]) rfl ?_
 clear aF hds
 have p2:=hX.hp.1
 have jV:=hX.jV
 have k1:=hX.k1
 have ml:=hX.ml
 refine Sv.seq ?_
 refine Sv.rX (au.listOf ?_)
 walk_at "dt"
 intro A4
 rw[nY,Dk]
 refine Sv.seq ?_
 refine Sv.forL ?_
 walk_at "dt"
 refine Ev.dw zU ?_
 walk_at "dt"
 refine⟨rfl,p,ls.length,rows,rfl,by omega,fun r hr=>by have:=(hX.rk r hr).2.2;omega,?_⟩
 walk_at "dt"
 refine fun v=>⟨fun i ρ=>∃x5:Sl,ρ=[.d false (.int p), .d false (.int (ls.length:Int)), .d false (.list (rows.map aB)), .d false (aB ls), .own A4 true ((aZ p ls rows i).map .int),x5],⟨_,rfl⟩,?_,?_⟩
 ·rintro i d ρ hd ⟨x5,rfl⟩
  obtain⟨prs,fG,rfl⟩:=dj hd
  have hil:i<rows.length:=by have:=(bI.mp fG).1;rwa[vp] at this
  rw[qo hil] at fG
  cases fG
  have hlen:=oR (p:=p) (ls:=ls) (rows:=rows) i
  have iJ:=hX.row hil
  have hA:=sL (c:=i) (show(0:Int)<=ls.length by omega) iJ.2.1
  have kD:((aZ p ls rows i).map PyData.int).length=ls.length+i:=by rw[aj,hlen]
  have Dc:gQ ((dG p ls.length i (rows.getD i [])).map pairD) none (some (-1))=(gc ls.length i (rows.getD i [])).map pairD:=by
   unfold gQ HT.dO
   simp only[uC,yQ]
   rw[l9,cS,List.take_left' ?_]
   rw[fF]
   simp
   omega
  have rD:∀w:List Int,aB w=l7 (w.map some):=fun w=>by show PyData.list _=PyData.list _;rw[fO];rfl
  refine Gv.jy ?_
  refine Sv.append rfl ?_
  refine Ev.lend 4 rfl ?_
  refine Ev.total ?_
  walk_at "dt"
  rw[Dc]
  refine⟨p,gc ls.length i (rows.getD i []),(aZ p ls rows i).map some,by show[_,_,aB (aZ p ls rows i)]=_;rw[rD],by omega,fun pr aH=>?_,fun x hx=>?_,?_⟩
  ·obtain⟨x,hx,rfl⟩:=aI.mp aH
   have:=hA _ aH
   refine⟨this.1,by rw[aj,hlen];omega,by show Sm 1;unfold Sm;omega⟩
  ·obtain⟨y,hy,e⟩:=aI.mp hx
   cases e
   have:=Ds (rows:=rows) (show 0<p by omega) hX.lr i x hy
   unfold Sm;omega
  refine⟨rfl,?_⟩
  refine⟨by rw[kD];omega,?_⟩
  simp only[aZ,cS,bh,oq]
  exact⟨_,rfl⟩
 ·rintro ρ ⟨x5,rfl⟩
  rw[show((fL p ls.length rows).map jR).length=rows.length by rw[aj,vp]]
  walk_at "dt"
  exact q
def yO:DF:=fun ds Φ=>∃(p:Int) (prs:aN) (wd:Wo),ds=[.int p,jR prs,l7 wd]/\0<p/\yy prs wd.length/\DA wd/\Φ true (gY (pW p prs wd))
theorem OY:dS yO:=by
 intro ds Φ Ψ hm z
 obtain⟨p,prs,wd,e,h1,h2,h3,q⟩:=hm
 exact⟨p,prs,wd,e,h1,h2,h3,z _ _ q⟩
theorem BL:bX ["p","pairs","word","place","factor"] ["p","pairs","word"] (aJ zV):=⟨rfl,rfl,rfl,by decide+kernel,rfl,by decide+kernel,by decide+kernel⟩
theorem UU(F:bP K "sum_of" "sum_of" zV f fd)(qV:Callee P w K mg base "total" 1 ["p","pairs","word"] qy):
    bB P w K mg base bM 2 f fd ["p","pairs","word"] (bF 3 yO):=by
  refine F.ok BL (fun vs H Q E h=>h.1) (fun cdv A outer s H vs Q E hr h=>?_)
  obtain⟨nb,ds,Φ,hlive,hds,aF,hF⟩:=gn h
  obtain⟨p,prs,wd,rfl,hp,h1,h2,q⟩:=hF
  refine⟨_,(@aC _ _ _ _ _ (@iS _ _ _ _ _ _ _ _ iH rfl (dQ (K:=K) rfl (pv 1)) (@kM _ (K) _ _ _ (2) _ rfl rfl (@eY _ _ _ _ _ (br (i:=3) BL.nd rfl (Or.inl rfl)) (@eY _ _ _ _ _ (br (i:=4) BL.nd rfl (Or.inl rfl)) jP (by rfl)) (by rfl)) (by rfl) (by rfl)) (@aO _ _ _ (@ff _ _ _ _ _ _ _ _ (@cC _ _ _ _ _ _ _ _ MF (@aT _ _ _ _ _ _ (dU K) bY (pv 2) (pv 3) (fun _ _=>rfl)) pD (bW _)) (@aO _ _ _ (@bz _ _ _ _ pD)) fJ)) (by intro _;rfl)) (@aO _ _ _ (@bz _ _ _ _ (@aY _ _ _ _ _ _ _ _ _ _ qV (hr.mono (by decide)) (@aa _ _ _ _ _ (pv 0) (@aa _ _ _ _ _ (pv 1) (@aa _ _ _ _ _ (pv 2) ak rfl) rfl) rfl) (by rfl) (by decide) (by rfl) (by rfl))))),?_⟩
  refine Sv.gy hlive hds aF (ρ:=[.d false _, .d false _, .d false _, .no, .no]) rfl ?_
  clear aF hds
  walk_at "dt"
  refine Sv.forL (Ev.var rfl ⟨_,rfl,fun v=>?_⟩)
  refine⟨fun i ρ=>(∃x y,ρ=[.d false (.int p), .d false (jR prs), .d false (l7 wd),x,y])/\∀pr∈prs.take i,wd[pr.1.toNat]?≠some none,⟨⟨_,_,rfl⟩,by simp⟩,?_,?_⟩
  · rintro i d ρ hd ⟨⟨x,y,rfl⟩,hI⟩
    obtain⟨pr,aH,rfl⟩:=dj hd
    obtain⟨g1,g2,g3⟩:=h1 pr (bD aH)
    obtain⟨o,ho,hat⟩:=Tg (xs:=wd) gY g1 g2 rfl
    walk_at "dt"
    rw[WC]
    cases o with
    | none =>
      walk_at "dt"
      have e:pW p prs wd=none:=if_pos ⟨pr,bD aH,ho⟩
      rw[e] at q
      exact q
    | some z =>
      walk_at "dt"
      refine⟨⟨_,_,rfl⟩,fun Vr h'=>?_⟩
      rw[take_snoc aH] at h'
      rcases ez.mp h' with h'|h'
      · exact hI Vr h'
      · rw[aU.mp h',ho];exact fun z=>by cases z
  · rintro ρ ⟨⟨x,y,rfl⟩,hI⟩
    walk_at "dt"
    refine Ev.total ?_
    walk_at "dt"
    refine⟨p,prs,wd,rfl,hp,h1,h2,?_⟩
    have e:pW p prs wd=some (aL prs wd%p):=if_neg fun⟨pr,h,e⟩=>hI pr (by rw[aj,eT];exact h) e
    rw[e] at q
    exact q
def Al:DF:=fun ds Φ=>∃(p n:Int) (cs:List aN) (wd:Wo),ds=[kc p n cs,l7 wd]/\0<p/\cs.length<=10000/\(∀prs∈cs,yy prs wd.length)/\DA wd/\Φ true (.list (cs.map fun prs=>gY (pW p prs wd)))
theorem V5:dS Al:=by
 intro ds Φ Ψ hm z
 obtain⟨p,n,cs,wd,e,h1,h2,h3,h4,q⟩:=hm
 exact⟨p,n,cs,wd,e,h1,h2,h3,h4,z _ _ q⟩
theorem PU:bX ["net","word"] ["net","word"] (aJ uK):=⟨rfl,rfl,rfl,by decide+kernel,rfl,by decide+kernel,by decide+kernel⟩
theorem Qk(F:bP K "sums" "sums" uK f fd)(Q5:Callee P w K mg base "sum_of" 2 ["p","pairs","word"] (bF 3 yO)):
  bB P w K mg base bM 3 f fd ["net","word"] (bF 2 Al):=by
 refine F.ok PU (fun vs H Q E h=>h.1) (fun cdv A outer s H vs Q E hr h=>?_)
 obtain⟨nb,ds,Φ,hlive,hds,aF,hF⟩:=gn h
 obtain⟨p,n,cs,wd,rfl,hp,hl,h1,h2,q⟩:=hF
 refine⟨_,(@aO _ _ _ (@bz _ _ _ _ (dH (bS.of (show cW (aJ uK) ["net","word"] _ ["pairs","net","word"] [none,some 0,some 1]=true by decide+kernel)) (dQ (K:=K) rfl (@aT _ _ _ _ _ _ (dD K) dN (pv 0) ao (fun _ _=>rfl))) (fun _ _ _ _=>⟨(br (i:=0) (by show List.Nodup (["pairs","net","word"]:List Str);decide+kernel) rfl (Or.inl rfl)),eG,(@aY _ _ _ _ _ _ _ _ _ _ Q5 (hr.mono (by decide)) (@aa _ _ _ _ _ (@aT _ _ _ _ _ _ (dD K) dN (pv 1) ao (fun _ _=>rfl)) (@aa _ _ _ _ _ (pv 0) (@aa _ _ _ _ _ (pv 2) ak rfl) rfl) rfl) (by rfl) (by decide) (by rfl) (by rfl))⟩)))),?_⟩
 refine Sv.gy hlive hds aF (ρ:=[.d false _, .d false _]) rfl ?_
 clear aF hds
 walk_at "dt"
 refine au.ev (au.gx (by decide) rfl ?_)
 walk_at "dt"
 refine⟨by rw[aj];exact hl,fun v=>⟨true,fun i ds=>ds=(cs.take i).map fun prs=>gY (pW p prs wd),rfl,?_,?_⟩⟩
 ·rintro i d ds hd hl' rfl
  obtain⟨prs,fG,rfl⟩:=dj hd
  walk_at "dt"
  refine⟨by walk_at "wk",?_⟩
  walk_at "dt"
  refine Ev.dw OY ?_
  walk_at "dt"
  refine⟨rfl,p,prs,wd,rfl,hp,h1 prs (bD fG),h2,fun _=>rfl,?_⟩
  show _=List.map _ _
  rw[take_snoc fG,cS]
  rfl
 ·rintro ds hl' rfl
  rw[aj,eT]
  exact q
def Bf:DF:=fun ds Φ=>∃(p n:Int) (cs:List aN) (wd:Wo),ds=[kc p n cs,l7 wd]/\0<p/\cs.length<=10000/\(∀prs∈cs,yy prs wd.length)/\DA wd/\Φ true (.bool (decide (l5 p cs wd)))
theorem Lk:dS Bf:=by
 intro ds Φ Ψ hm z
 obtain⟨p,n,cs,wd,e,h1,h2,h3,h4,q⟩:=hm
 exact⟨p,n,cs,wd,e,h1,h2,h3,h4,z _ _ q⟩
theorem SY:bX ["net","word"] ["net","word"] (aJ vU):=⟨rfl,rfl,rfl,by decide+kernel,rfl,by decide+kernel,by decide+kernel⟩
theorem Nv(F:bP K "is_true" "is_true" vU f fd)(Qm:Callee P w K mg base "sums" 3 ["net","word"] (bF 2 Al))(iT:mg "all"=none):
  bB P w K mg base bM 4 f fd ["net","word"] (bF 2 Bf):=by
 refine F.ok SY (fun vs H Q E h=>h.1) (fun cdv A outer s H vs Q E hr h=>?_)
 obtain⟨nb,ds,Φ,hlive,hds,aF,hF⟩:=gn h
 obtain⟨p,n,cs,wd,rfl,hp,hl,h1,h2,q⟩:=hF
 refine⟨_,(@aC _ _ _ _ _ (@ff _ _ _ _ _ _ _ _ (cC (IM (K:=K) (by rfl)) pD (pv 1) (by with_unfolding_all rfl)) (@aO _ _ _ (@bz _ _ _ _ j4)) fJ) (@aO _ _ _ (@bz _ _ _ _ (@cz _ _ _ _ _ _ _ _ (sP K) (AF rfl) rfl iT AS (@aa _ _ _ _ _ (dH (bS.of (show cW (aJ vU) ["net","word"] _ ["reached"] [none]=true by decide+kernel)) (dQ (K:=K) rfl (@aY _ _ _ _ _ _ _ _ _ _ Qm (hr.mono (by decide)) (@aa _ _ _ _ _ (pv 0) (@aa _ _ _ _ _ (pv 1) ak rfl) rfl) (by rfl) (by decide) (by rfl) (by rfl))) (fun _ _ _ _=>⟨(br (i:=0) (by show List.Nodup (["reached"]:List Str);decide+kernel) rfl (Or.inl rfl)),eG,(@nk _ _ _ _ _ _ _ _ kI (pv 0) ao (bW _))⟩)) ak rfl) (by decide) (by decide) (by rfl) (by rfl))))),?_⟩
 refine Sv.gy hlive hds aF (ρ:=[.d false _, .d false _]) rfl ?_
 clear aF hds
 refine Sv.seq ?_
 refine Sv.oG ?_
 refine Tv.test ?_
 refine Ev.WK ?_
 walk_at "dt"
 refine⟨wd,rfl,?_⟩
 by_cases c:none∈wd
 ·rw[decide_eq_true c]
  walk_at "dt"
  rw[decide_eq_false (show¬l5 p cs wd from fun h=>h.1 c)] at q
  exact q
 ·rw[decide_eq_false c]
  walk_at "dt"
  refine au.ev (au.gx (by decide) rfl ?_)
  refine Ev.dw V5 ?_
  walk_at "dt"
  refine⟨rfl,p,n,cs,wd,rfl,hp,hl,h1,h2,_,rfl,by rw[aj];exact hl,fun v=>?_⟩
  have hno:∀prs∈cs,¬tU prs wd:=fun prs _ ⟨pr,_,e⟩=>c (bD e)
  refine dZ.rel PyData.bool true (fun i o=>∃prs,cs[i]?=some prs/\o=decide (aL prs wd%p=0)) ?_ fun os fK hos=>?_
  ·rintro i d hd
   obtain⟨prs,fG,rfl⟩:=dj hd
   have es:pW p prs wd=some (aL prs wd%p):=if_neg (hno prs (bD fG))
   rw[es]
   show Gv _ _ _ _ (PyData.int (aL prs wd%p)) _
   walk_at "dt"
   refine⟨by walk_at "wk",?_⟩
   walk_at "dt"
   exact⟨prs,fG,rfl⟩
  rw[aj] at fK
  have ho:=HX (φ:=fun prs:aN=>decide (aL prs wd%p=0)) fK hos
  refine⟨os,rfl,?_⟩
  have e:os.all id=decide (l5 p cs wd):=by
   rw[ho,zv,iW,jz,decide_eq_true_eq]
   constructor
   ·intro h
    exact⟨c,fun prs hp=>by have:=h prs hp;simpa using this⟩
   ·intro h prs hp
    have:=h.2 prs hp
    simpa using this
  rw[e]
  exact q
def BX:DF:=fun ds Φ=>∃(p n:Int) (cs:List aN),ds=[kc p n cs]/\iR p n cs/\∀f:Bool,Φ f (.list ((dY n.toNat cs.length cs).map aB))
theorem Ux:dS BX:=by
 intro ds Φ Ψ hm z
 obtain⟨p,n,cs,e,h1,q⟩:=hm
 exact⟨p,n,cs,e,h1,fun f=>z _ _ (q f)⟩
theorem ow:bX ["net","rows","c","pairs","row","place","factor"] ["net"] (aJ yz):=⟨rfl,rfl,rfl,by decide+kernel,rfl,by decide+kernel,by decide+kernel⟩
theorem TR(F:bP K "rows_of" "rows_of" yz f fd)(kX:mg "enumerate"=none)(cD:mg "len"=none):
  bB P w K mg base bM 1 f fd ["net"] (bF 1 BX):=by
 refine F.ok ow (fun vs H Q E h=>h.1) (fun cdv A outer s H vs Q E hr h=>?_)
 obtain⟨nb,ds,Φ,hlive,hds,aF,hF⟩:=gn h
 obtain⟨p,n,cs,rfl,hN,q⟩:=hF
 refine⟨_,(@aC _ _ _ _ _ (@aV _ _ (1) _ _ _ _ ow.nd rfl (Or.inl rfl) (@fW _ _ _ _ ak) (by rfl) (by first|exact .inl rfl|exact .inr rfl|assumption)) (@aC _ _ _ _ _ (@iS _ _ _ _ _ _ _ _ iH rfl (@BF _ (K) _ _ _ _ _ _ _ rfl rfl kX (@aT _ _ _ _ _ _ (dD K) dN (pv 0) ao (fun _ _=>rfl)) (by rfl)) (@kM _ (K) _ _ _ (2) _ rfl rfl (@eY _ _ _ _ _ (br (i:=2) ow.nd rfl (Or.inl rfl)) (@eY _ _ _ _ _ (br (i:=3) ow.nd rfl (Or.inl rfl)) jP (by rfl)) (by rfl)) (by rfl) (by rfl)) (@aC _ _ _ _ _ (@aV _ _ (4) _ _ _ _ ow.nd rfl (Or.inl rfl) (@aM _ _ _ _ _ _ _ _ DJ (@fW _ _ _ _ (@aa _ _ _ _ _ ao ak rfl)) (@aM _ _ _ _ _ _ _ _ fB (@aT _ _ _ _ _ _ (dD K) dN (pv 0) ao (fun _ _=>rfl)) (@cz _ _ _ _ _ _ _ _ (iV K) kF rfl cD jn (@aa _ _ _ _ _ (@aT _ _ _ _ _ _ (dD K) dN (pv 0) ao (fun _ _=>rfl)) ak rfl) (by decide) (by decide) (by rfl) (by rfl)))) (by rfl) (by first|exact .inl rfl|exact .inr rfl|assumption)) (@aC _ _ _ _ _ (@iS _ _ _ _ _ _ _ _ iH rfl (dQ (K:=K) rfl (pv 3)) (@kM _ (K) _ _ _ (2) _ rfl rfl (@eY _ _ _ _ _ (br (i:=5) ow.nd rfl (Or.inl rfl)) (@eY _ _ _ _ _ (br (i:=6) ow.nd rfl (Or.inl rfl)) jP (by rfl)) (by rfl)) (by rfl) (by rfl)) (@aO _ _ _ (@jq _ _ _ _ _ _ (pv 6) (jg (pv 4) (pv 5) set_list) (by rfl) (by rfl) (by rfl))) (by intro _;rfl)) (@aC _ _ _ _ _ (@jq _ _ _ _ _ _ ao (jg (pv 4) (@aM _ _ _ _ _ _ _ _ fB (@aT _ _ _ _ _ _ (dD K) dN (pv 0) ao (fun _ _=>rfl)) (pv 2)) set_list) (by rfl) (by rfl) (by rfl)) (@aO _ _ _ (@CQ _ _ _ _ (xq xj yU zY uW (pv 1) (@aa _ _ _ _ _ (pv 4) ak rfl)) (by rfl)))))) (by intro _;rfl)) (@aO _ _ _ (@bz _ _ _ _ (pv 1))))),?_⟩
 refine Sv.gy hlive hds aF (ρ:=[.d false _, .no, .no, .no, .no, .no, .no]) rfl ?_
 clear aF hds
 have n0:=hN.n0
 have n1:=hN.n1
 have hcl:=hN.cl
 have Af:(cs.map jR).length=cs.length:=aj ..
 refine Sv.seq ?_
 refine Sv.Ho ?_
 intro A1
 refine Sv.seq ?_
 refine Sv.D9 ?_
 walk_at "dt"
 refine fun v=>⟨fun i ρ=>∃(f:Bool) (x2 x3 x4 x5 x6:Sl),ρ=[.d false (kc p n cs), .own A1 f ((dY n.toNat cs.length (cs.take i)).map aB),x2,x3,x4,x5,x6],⟨_,_,_,_,_,_,rfl⟩,?_,?_⟩
 ·rintro i d ρ ⟨e,he,rfl⟩ ⟨f,x2,x3,x4,x5,x6,rfl⟩
  obtain⟨prs,fG,rfl⟩:=dj he
  have hi:=(bI.mp fG).1
  obtain⟨hnd,hpl,aH⟩:=hN.ok prs (bD fG)
  have qT:(prs.map pairD).length=prs.length:=aj ..
  generalize jX:(qa (i6 (cZ yC _ _) (ir 4)) _:TS)=tl
  walk_at "dt"
  subst jX
  refine Sv.seq ?_
  refine Sv.rX (au.Fc ?_)
  walk_at "dt"
  intro g
  have eN:(n+((cs.map jR).length:Int)).toNat=n.toNat+cs.length:=by rw[Af];omega
  rw[eN]
  intro A4
  have hz:List.replicate (n.toNat+cs.length) (PyData.int 0)=(List.replicate (n.toNat+cs.length) (0:Int)).map PyData.int:=by rw[List.map_replicate]
  rw[hz]
  refine Sv.seq ?_
  refine Sv.forL ?_
  walk_at "dt"
  refine fun v2=>⟨fun j ρ=>∃(g:Bool) (x5 x6:Sl),ρ=[.d false (kc p n cs), .own A1 f ((dY n.toNat cs.length (cs.take i)).map aB), .d true (.int i), .d false (jR prs), .own A4 g ((gC (List.replicate (n.toNat+cs.length) 0) (prs.take j)).map .int),x5,x6],⟨_,_,_,rfl⟩,?_,?_⟩
  ·rintro j d ρ hd ⟨g,x5,x6,rfl⟩
   obtain⟨pr,FL,rfl⟩:=dj hd
   obtain⟨a0,a1,a2,a3⟩:=aH pr (bD FL)
   walk_at "dt"
   have hix:fk ((gC (List.replicate (n.toNat+cs.length) 0) (prs.take j)).map PyData.int).length pr.1=some pr.1.toNat:=by
    unfold fk
    rw[aj,pN,jb]
    repeat (first|rw[if_pos (by omega)]|rw[if_neg (by omega)])
   refine⟨_,_,rfl,hix,?_⟩
   have es:gC (List.replicate (n.toNat+cs.length) 0) (prs.take (j+1))=(gC (List.replicate (n.toNat+cs.length) 0) (prs.take j)).set pr.1.toNat pr.2:=by
    rw[take_snoc FL]
    unfold gC
    rw[qp]
    rfl
   rw[<-pI,<-es]
   exact⟨_,_,_,rfl⟩
  ·rintro ρ ⟨g,x5,x6,rfl⟩
   rw[qT,eT]
   have hix:fk ((gC (List.replicate (n.toNat+cs.length) 0) prs).map PyData.int).length (n+(i:Int))=some (n.toNat+i):=by
    unfold fk
    rw[aj,pN,jb]
    repeat (first|rw[if_pos (by omega)]|rw[if_neg (by omega)])
    congr 1
    omega
   refine Sv.seq ?_
   refine Sv.qt rfl ?_
   walk_at "dt"
   refine⟨_,_,rfl,hix,?_⟩
   refine Sv.sW 4 rfl ?_
   refine Sv.append rfl ?_
   refine Ev.var rfl ?_
   have hrl:(dY n.toNat cs.length (cs.take i)).length=i:=by rw[wJ,ig];omega
   have es:dY n.toNat cs.length (cs.take (i+1))=dY n.toNat cs.length (cs.take i)++[jx n.toNat cs.length i prs]:=by
    unfold dY
    rw[take_snoc fG,List.zipIdx_append,cS]
    simp only[List.zipIdx_cons,List.zipIdx_nil,bh,oq,ig,Nat.zero_add]
    rw[Nat.min_eq_left (by omega)]
   refine⟨by rw[aj,hrl];omega,?_⟩
   rw[<-pI]
   have e2:List.map aB (dY n.toNat cs.length (cs.take i))++[PyData.list (((gC (List.replicate (n.toNat+cs.length) 0) prs).set (n.toNat+i) 1).map PyData.int)]=List.map aB (dY n.toNat cs.length (cs.take (i+1))):=by
    rw[es,cS]
    rfl
   rw[e2]
   exact⟨_,_,_,_,_,_,rfl⟩
 ·rintro ρ ⟨f,x2,x3,x4,x5,x6,rfl⟩
  rw[Af,eT]
  refine Sv.sW 1 rfl ?_
  walk_at "dt"
  exact q _
def fM(T:List (Nat×Nat)):Ks:=T.map fun q=>((q.1:Int), .int (q.2:Int))
def yF:DF:=fun ds Φ=>∃(p:Int) (w:Nat) (R:List (List Int)) (T:List (Nat×Nat)) (pl:Nat),ds=[.list (R.map aB), .dict ((fM T).map bE), .int pl]/\kL p w R/\0<p/\p<10^40/\R.length<=10000/\T.length<=10000/\pl<w/\w<=10000/\
 ((∀i<R.length,i∉T.map (·.1)->gI (R.getD i []) pl=0)->Φ true .none)/\(∀k:Nat,k<R.length->k∉T.map (·.1)->gI (R.getD k []) pl≠0->(∀i<k,i∉T.map (·.1)->gI (R.getD i []) pl=0)->Φ true (.int k))
theorem Mr:dS yF:=by
 intro ds Φ Ψ hm z
 obtain⟨p,w,R,T,pl,e,h1,h2,h3,h4,h5,h6,h7,q1,q2⟩:=hm
 exact⟨p,w,R,T,pl,e,h1,h2,h3,h4,h5,h6,h7,fun h=>z _ _ (q1 h),fun k a b c d=>z _ _ (q2 k a b c d)⟩
theorem EH(T:List (Nat×Nat))(k:Nat):jC (fM T) (k:Int)=decide (k∈T.map (·.1)):=by
 unfold fM jC
 rw[iW,pX,decide_eq_true_eq]
 constructor
 ·rintro⟨q,hq,e⟩
  obtain⟨t,ht,rfl⟩:=aI.mp hq
  have:((t.1:Nat):Int)=k:=by simpa using e
  exact aI.mpr ⟨t,ht,by omega⟩
 ·intro h
  obtain⟨t,ht,e⟩:=aI.mp h
  exact⟨_,jO ht,by simp[e]⟩
theorem xS:bX ["rows","taken","place","k","row"] ["rows","taken","place"] (aJ za):=⟨rfl,rfl,rfl,by decide+kernel,rfl,by decide+kernel,by decide+kernel⟩
theorem LK(F:bP K "first_with" "first_with" za f fd)(kX:mg "enumerate"=none):
  bB P w K mg base bM 1 f fd ["rows","taken","place"] (bF 3 yF):=by
 refine F.ok xS (fun vs H Q E h=>h.1) (fun cdv A outer s H vs Q E hr h=>?_)
 obtain⟨nb,ds,Φ,hlive,hds,aF,hF⟩:=gn h
 obtain⟨p,w,R,T,pl,rfl,hR,hp,g9,mL,lZ,hpl,hw,q1,q2⟩:=hF
 refine⟨_,(@aC _ _ _ _ _ (@iS _ _ _ _ _ _ _ _ iH rfl (@BF _ (K) _ _ _ _ _ _ _ rfl rfl kX (pv 0) (by rfl)) (@kM _ (K) _ _ _ (2) _ rfl rfl (@eY _ _ _ _ _ (br (i:=3) xS.nd rfl (Or.inl rfl)) (@eY _ _ _ _ _ (br (i:=4) xS.nd rfl (Or.inl rfl)) jP (by rfl)) (by rfl)) (by rfl) (by rfl)) (@aO _ _ _ (@ff _ _ _ _ _ _ _ _ (PW.pt (xZ (@cC _ _ _ _ _ _ _ _ (Ek hr.units) (pv 3) (pv 1) (by with_unfolding_all rfl)) (Dl (@cC _ _ _ _ _ _ _ _ jB (@aT _ _ _ _ _ _ (dU K) bY (pv 4) (pv 2) (fun _ _=>rfl)) ao (bW _))))) (@aO _ _ _ (@bz _ _ _ _ (pv 3))) fJ)) (by intro _;rfl)) (@aO _ _ _ (@bz _ _ _ _ pD))),?_⟩
 refine Sv.gy hlive hds aF (ρ:=[.d false _, .d false _, .d false _, .no, .no]) rfl ?_
 clear aF hds
 have mU:(R.map aB).length=R.length:=aj ..
 refine Sv.seq ?_
 refine Sv.D9 ?_
 walk_at "dt"
 refine fun v=>⟨fun i ρ=>∃(x3 x4:Sl),ρ=[.d false (.list (R.map aB)), .d false (.dict ((fM T).map bE)), .d false (.int pl),x3,x4]/\∀j<i,j∉T.map (·.1)->gI (R.getD j []) pl=0,⟨_,_,rfl,fun j hj=>absurd hj (Nat.not_lt_zero _)⟩,?_,?_⟩
 ·rintro i d ρ ⟨e,he,rfl⟩ ⟨x3,x4,rfl,hz⟩
  obtain⟨r,hr,rfl⟩:=dj he
  have hi:=(bI.mp hr).1
  have hrr:=hR r (bD hr)
  have hg:R.getD i []=r:=by rw[bU,hr];rfl
  have hat:bL (r.map PyData.int) (pl:Int)=some (.int (gI r pl)):=gK (by omega) (by rw[bx,kO,hrr.at hpl];rfl)
  have nF:=EH T i
  walk_at "dt"
  refine Ev.JQ ?_
  walk_at "dt"
  refine⟨fM T,rfl,_,rfl,?_⟩
  rw[nF]
  have hnext:(i∉T.map (·.1)->gI r pl=0)->∀j<i+1,j∉T.map (·.1)->gI (R.getD j []) pl=0:=fun h j hj hn=>by
   by_cases c:j=i
   ·subst c;rw[hg];exact h hn
   ·exact hz j (by omega) hn
  by_cases c:i∈T.map (·.1)
  ·rw[if_neg (by simpa using c)]
   walk_at "dt"
   exact⟨_,_,rfl,hnext fun h=>absurd c h⟩
  ·rw[if_pos (by simpa using c)]
   walk_at "dt"
   by_cases c2:gI r pl=0
   ·walk_at "dt"
    exact⟨_,_,rfl,hnext fun _=>c2⟩
   ·walk_at "dt"
    exact q2 i hi c (by rw[hg];exact c2) hz
 ·rintro ρ ⟨x3,x4,rfl,hz⟩
  walk_at "dt"
  refine q1 fun i hi=>hz i (by rw[mU];exact hi)
def CV:DF:=fun ds Φ=>∃(p c:Int) (w:Nat) (r o:List Int),ds=[.int p,aB r, .int c,aB o]/\0<p/\p<10^40/\bf p w r/\bf p w o/\w<=10000/\0<=c/\c<p/\∀f:Bool,Φ f (aB (eK p c r o))
theorem Ls:dS CV:=by
 intro ds Φ Ψ hm z
 obtain⟨p,c,w,r,o,e,h1,h2,h3,h4,h5,h6,h7,q⟩:=hm
 exact⟨p,c,w,r,o,e,h1,h2,h3,h4,h5,h6,h7,fun f=>z _ _ (q f)⟩
theorem UX:bX ["p","row","factor","own"] ["p","row","factor","own"] (aJ uZ):=⟨rfl,rfl,rfl,by decide+kernel,rfl,by decide+kernel,by decide+kernel⟩
theorem SG(F:bP K "less" "less" uZ f fd)(pV:mg "zip"=none):
  bB P w K mg base bM 1 f fd ["p","row","factor","own"] (bF 4 CV):=by
 refine F.ok UX (fun vs H Q E h=>h.1) (fun cdv A outer s H vs Q E hr h=>?_)
 obtain⟨nb,ds,Φ,hlive,hds,aF,hF⟩:=gn h
 obtain⟨p,c,w,r,o,rfl,hp,g9,hr,ho,hw,c0,c1,q⟩:=hF
 refine⟨_,(@aC _ _ _ _ _ (@ff _ _ _ _ _ _ _ _ (@cC _ _ _ _ _ _ _ _ kI (pv 2) ao (bW _)) (@aO _ _ _ (@bz _ _ _ _ (pv 1))) fJ) (@aO _ _ _ (@bz _ _ _ _ (dH (bS.of (show cW (aJ uZ) ["p","row","factor","own"] _ ["number","other","p","factor"] [none,none,some 0,some 2]=true by decide+kernel)) (@FI _ (K) _ _ _ _ _ _ _ _ _ rfl rfl pV (pv 1) (pv 3) (by rfl) (by rfl) (by rfl)) (fun _ _ _ _=>⟨(@kM _ (K) _ _ _ (2) _ rfl rfl (@eY _ _ _ _ _ (br (i:=0) (by show List.Nodup (["number","other","p","factor"]:List Str);decide+kernel) rfl (Or.inl rfl)) (@eY _ _ _ _ _ (br (i:=1) (by show List.Nodup (["number","other","p","factor"]:List Str);decide+kernel) rfl (Or.inl rfl)) jP (by rfl)) (by rfl)) (by rfl) (by rfl)),eG,(@aM _ _ _ _ _ _ _ _ gM (@aM _ _ _ _ _ _ _ _ m8 (pv 0) (@aM _ _ _ _ _ _ _ _ iD (pv 3) (pv 1))) (pv 2))⟩))))),?_⟩
 refine Sv.gy hlive hds aF (ρ:=[.d false _, .d false _, .d false _, .d false _]) rfl ?_
 clear aF hds
 have hrl:(r.map PyData.int).length=r.length:=aj ..
 have fK:(o.map PyData.int).length=o.length:=aj ..
 have hl:=hr.len
 have hl2:=ho.len
 have hsm:∀x:Int,0<=x->x<=p->Sm x:=fun x x0 x1=>by unfold Sm;omega
 have sc:∀L:List Int,dJ (L.map PyData.int)=true:=fun L=>by unfold dJ;simp[zv,gX]
 walk_at "dt"
 by_cases cc:c=0
 ·rw[if_pos (decide_eq_true cc)]
  walk_at "dt"
  have:=q false
  rw[cc,Xc hr ho] at this
  exact this
 ·rw[if_neg (by simpa using cc)]
  walk_at "dt"
  refine au.ev (au.Nm (by decide) rfl ?_)
  walk_at "dt"
  refine⟨sc r,by omega,fun v=>?_⟩
  walk_at "dt"
  refine⟨sc o,by omega,fun v2=>⟨true,fun i ds=>ds=(eK p c (r.take i) (o.take i)).map PyData.int,rfl,?_,?_⟩⟩
  ·rintro i d ds ⟨e,e2,he,he2,rfl⟩ hl' rfl
   obtain⟨x,hx,rfl⟩:=dj he
   obtain⟨y,hy,rfl⟩:=dj he2
   obtain⟨x0,x1⟩:=hr.rg x (bD hx)
   obtain⟨y0,y1⟩:=ho.rg y (bD hy)
   have s1:=hsm c c0 (by omega)
   have s2:=hsm x x0 (by omega)
   have s3:=hsm y y0 (by omega)
   walk_at "dt"
   refine⟨by walk_at "wk",?_⟩
   walk_at "dt"
   show _=List.map PyData.int (eK p c (r.take (i+1)) (o.take (i+1)))
   unfold eK
   rw[take_snoc hx,take_snoc hy,List.zipWith_append (by rw[ig,ig];omega),cS]
   rfl
  rintro ds hl' rfl
  rw[hrl,eT,show r.length=o.length by omega,eT]
  exact q _
def AG:DF:=fun ds Φ=>∃(p:Int) (w:Nat) (R:List (List Int)) (k pl:Nat),ds=[.int p, .list (R.map aB), .int k, .int pl]/\gJ p/\p<10^40/\kL p w R/\R.length<=9000/\k<R.length/\pl<w/\w<=9000/\gI (R.getD k []) pl≠0/\
 ∀(f:Bool) (inv:Int),(∃j,inv*gI (R.getD k []) pl=1+p*j)->Φ f (.list ((fV p inv R k pl).map aB))
theorem V2:dS AG:=by
 intro ds Φ Ψ hm z
 obtain⟨p,w,R,k,pl,e,h1,h2,h3,h4,h5,h6,h7,h8,q⟩:=hm
 exact⟨p,w,R,k,pl,e,h1,h2,h3,h4,h5,h6,h7,h8,fun f inv h=>z _ _ (q f inv h)⟩
theorem yY:bX ["p","rows","k","place","own","told"] ["p","rows","k","place"] (aJ vE):=⟨rfl,rfl,rfl,by decide+kernel,rfl,by decide+kernel,by decide+kernel⟩
theorem Q6(F:bP K "cleared" "cleared" vE f fd)(Gq:Callee P w K mg base "times" 1 ["p","factor","row"] (bF 3 tW))(Pw:Callee P w K mg base "inverse" 2 ["p","b"] Au)(PF:Callee P w K mg base "less" 1 ["p","row","factor","own"] (bF 4 CV)):
  bB P w K mg base bM 3 f fd ["p","rows","k","place"] (bF 4 AG):=by
 refine F.ok yY (fun vs H Q E h=>h.1) (fun cdv A outer s H vs Q E hr h=>?_)
 obtain⟨nb,ds,Φ,hlive,hds,aF,hF⟩:=gn h
 obtain⟨p,w,R,k,pl,rfl,hp,g9,hR,mL,hk,hpl,hw,hne,q⟩:=hF
 refine⟨_,(@aC _ _ _ _ _ (@aV _ _ (4) _ _ _ _ yY.nd rfl (Or.inr rfl) (@aY _ _ _ _ _ _ _ _ _ _ Gq (hr.mono (by decide)) (@aa _ _ _ _ _ (pv 0) (@aa _ _ _ _ _ (@aY _ _ _ _ _ _ _ _ _ _ Pw (hr.mono (by decide)) (@aa _ _ _ _ _ (pv 0) (@aa _ _ _ _ _ (@aT _ _ _ _ _ _ (dU K) bY (@aT _ _ _ _ _ _ (dU K) bY (pv 1) (pv 2) (fun _ _=>rfl)) (pv 3) (fun _ _=>rfl)) ak rfl) rfl) (by rfl) (by decide) (by rfl) (by rfl)) (@aa _ _ _ _ _ (@aT _ _ _ _ _ _ (dU K) bY (pv 1) (pv 2) (fun _ _=>rfl)) ak rfl) rfl) rfl) (by rfl) (by decide) (by rfl) (by rfl)) (by rfl) (by first|exact .inl rfl|exact .inr rfl|assumption)) (@aC _ _ _ _ _ (Cm (i:=5) yY.nd rfl rfl (bS.of (show cW (aJ vE) ["p","rows","k","place","own","told"] _ ["row","p","place","own"] [none,some 0,some 3,some 4]=true by decide+kernel)) (dQ (K:=K) rfl (pv 1)) (fun _ _ _ _=>⟨(br (i:=0) (by show List.Nodup (["row","p","place","own"]:List Str);decide+kernel) rfl (Or.inl rfl)),eG,(@aY _ _ _ _ _ _ _ _ _ _ PF (hr.mono (by decide)) (@aa _ _ _ _ _ (pv 1) (@aa _ _ _ _ _ (pv 0) (@aa _ _ _ _ _ (@aT _ _ _ _ _ _ (dU K) bY (pv 0) (pv 2) (fun _ _=>rfl)) (@aa _ _ _ _ _ (pv 3) ak rfl) rfl) rfl) rfl) (by rfl) (by decide) (by rfl) (by rfl))⟩)) (@aC _ _ _ _ _ (@jq _ _ _ _ _ _ (pv 4) (jg (pv 5) (pv 2) set_list) (by rfl) (by rfl) (by rfl)) (@aO _ _ _ (@bz _ _ _ _ (pv 5)))))),?_⟩
 refine Sv.gy hlive hds aF (ρ:=[.d false _, .d false _, .d false _, .d false _, .no, .no]) rfl ?_
 clear aF hds
 have p2:=hp.1
 have mU:(R.map aB).length=R.length:=aj ..
 have kg:bf p w R[k]:=hR _ (cV hk)
 have hkk:R.getD k []=R[k]:=iZ hk
 rw[hkk] at hne q
 have XS:bL (R.map aB) (k:Int)=some (aB R[k]):=gK (by omega) (by rw[bx,kO,aD hk];rfl)
 have IC:∀r,bf p w r->bL (r.map PyData.int) (pl:Int)=some (.int (gI r pl)):=fun r h=>gK (by omega) (by rw[bx,kO,h.at hpl];rfl)
 have XT:=IC R[k] kg
 obtain⟨g0,g1⟩:=kg.g (i:=pl) (by omega)
 have OE:gI R[k] pl%p≠0:=by rw[n5 g0 g1];exact hne
 walk_at "dt"
 refine Ev.dw Sz ?_
 walk_at "dt"
 refine Ev.inv ?_
 walk_at "dt"
 refine⟨p,gI R[k] pl,rfl,hp,g9,OE,fun inv i0 i1 hinv=>?_⟩
 walk_at "dt"
 refine⟨rfl,p,inv,w,R[k],rfl,by omega,g9,kg,by omega,i0,i1,?_⟩
 obtain⟨own,hown⟩:∃own,mulR p inv R[k]=own:=⟨_,rfl⟩
 have Ob:bf p w own:=by rw[<-hown];exact kg.mul (by omega)
 rw[hown]
 refine Gv.name ?_
 refine Sv.seq ?_
 refine Sv.MK ?_
 refine au.gx (by decide) rfl ?_
 walk_at "dt"
 refine fun v=>⟨false,fun i ds=>ds=((R.take i).map fun r=>eK p (gI r pl) r own).map aB,rfl,?_,?_⟩
 ·rintro i d ds hd hl' rfl
  obtain⟨r,hr,rfl⟩:=dj hd
  have hrr:=hR r (bD hr)
  have Xf:=IC r hrr
  obtain⟨r0,r1⟩:=hrr.g (i:=pl) (by omega)
  walk_at "dt"
  refine⟨by walk_at "wk",?_⟩
  walk_at "dt"
  refine Ev.dw Ls ?_
  walk_at "dt"
  refine⟨rfl,p,gI r pl,w,r,own,rfl,by omega,g9,hrr,Ob,by omega,r0,r1,fun f=>⟨fun z=>(by cases z),?_⟩⟩
  show _=List.map aB (List.map _ (R.take (i+1)))
  rw[take_snoc hr,cS,cS]
  rfl
 rintro ds hl' rfl
 rw[mU,eT]
 intro A5
 walk_at "dt"
 have hix:fk (List.map aB (List.map (fun r=>eK p (gI r pl) r own) R)).length (k:Int)=some k:=by
  unfold fk
  rw[aj,aj]
  repeat (first|rw[if_pos (by omega)]|rw[if_neg (by omega)])
  simp
 refine⟨_,k,rfl,hix,?_⟩
 refine Sv.sW 5 rfl ?_
 walk_at "dt"
 rw[<-pI]
 have:=q
 unfold fV at this
 simp only[hkk] at this
 rw[<-hown]
 exact this _ inv hinv
def tV(L:List Nat):PyData:= .list (L.map fun(i:Nat)=> .int (i:Int))
def Bj:DF:=fun ds Φ=>∃(p:Int) (w:Nat) (R:List (List Int)) (L:List Nat),ds=[.int p, .list (R.map aB),tV L]/\gJ p/\p<10^40/\kL p w R/\R.length<=9000/\w<=9000/\(∀d∈L,d<w)/\L.length<=9000/\
 ∀(f:Bool) (R':List (List Int)) (T:List (Nat×Nat)),dW p w R R' T L->(T.length<=9000/\(lK w R []->lK w R' T))->Φ f (.tuple [.list (R'.map aB), .dict ((fM T).map bE)])
theorem VO:dS Bj:=by
 intro ds Φ Ψ hm z
 obtain⟨p,w,R,L,e,h1,h2,h3,h4,h5,h6,h7,q⟩:=hm
 exact⟨p,w,R,L,e,h1,h2,h3,h4,h5,h6,h7,fun f R' T a b=>z _ _ (q f R' T a b)⟩
theorem Nd(T:List (Nat×Nat)){k d:Nat}(h:k∉T.map (·.1)):jU (fM T) (k:Int) (.int d)=fM (T++[(k,d)]):=by
 unfold jU
 rw[EH,if_neg (by simpa using h)]
 unfold fM
 rw[cS]
 rfl
theorem Lg{L:List Nat}{i:Nat}{d:PyData}(h:(L.map fun(i:Nat)=>PyData.int (i:Int))[i]?=some d):∃x,L[i]?=some x/\d= .int (x:Int):=by
 rw[bx] at h
 obtain⟨x,e,h⟩:=kj.mp h
 exact⟨x,e,h.symm⟩
theorem sV:bX ["p","rows","places","taken","place","k"] ["p","rows","places"] (aJ Bt):=⟨rfl,rfl,rfl,by decide+kernel,rfl,by decide+kernel,by decide+kernel⟩
theorem LL(F:bP K "swept" "swept" Bt f fd)(V8:Callee P w K mg base "first_with" 1 ["rows","taken","place"] (bF 3 yF))(NT:Callee P w K mg base "cleared" 3 ["p","rows","k","place"] (bF 4 AG)):
  bB P w K mg base bM 4 f fd ["p","rows","places"] (bF 3 Bj):=by
 refine F.ok sV (fun vs H Q E h=>h.1) (fun cdv A outer s H vs Q E hr h=>?_)
 obtain⟨nb,ds,Φ,hlive,hds,aF,hF⟩:=gn h
 obtain⟨p,w,R,L,rfl,hp,g9,hR,mL,hw,hL,X6,q⟩:=hF
 refine⟨_,(@aC _ _ _ _ _ (@aV _ _ (3) _ _ _ _ sV.nd rfl (Or.inl rfl) Vl (by rfl) (by first|exact .inl rfl|exact .inr rfl|assumption)) (@aC _ _ _ _ _ (@iS _ _ _ _ _ _ _ _ iH rfl (dQ (K:=K) rfl (pv 2)) (br (i:=4) sV.nd rfl (Or.inl rfl)) (@aC _ _ _ _ _ (@aV _ _ (5) _ _ _ _ sV.nd rfl (Or.inl rfl) (@aY _ _ _ _ _ _ _ _ _ _ V8 (hr.mono (by decide)) (@aa _ _ _ _ _ (pv 1) (@aa _ _ _ _ _ (pv 3) (@aa _ _ _ _ _ (pv 4) ak rfl) rfl) rfl) (by rfl) (by decide) (by rfl) (by rfl)) (by rfl) (by first|exact .inl rfl|exact .inr rfl|assumption)) (@aO _ _ _ (@ff _ _ _ _ _ _ _ _ (@cC _ _ _ _ _ _ _ _ JO (pv 5) pD (bW _)) (@aC _ _ _ _ _ (@jq _ _ _ _ _ _ (pv 4) (jg (pv 3) (pv 5) set_dict) (by rfl) (by rfl) (by rfl)) (@aO _ _ _ (@aV _ _ (1) _ _ _ _ sV.nd rfl (Or.inl rfl) (@aY _ _ _ _ _ _ _ _ _ _ NT (hr.mono (by decide)) (@aa _ _ _ _ _ (pv 0) (@aa _ _ _ _ _ (pv 1) (@aa _ _ _ _ _ (pv 5) (@aa _ _ _ _ _ (pv 4) ak rfl) rfl) rfl) rfl) (by rfl) (by decide) (by rfl) (by rfl)) (by rfl) (by first|exact .inl rfl|exact .inr rfl|assumption)))) fJ))) (by intro _;rfl)) (@aO _ _ _ (@bz _ _ _ _ (@jL _ _ _ _ _ (@aa _ _ _ _ _ (pv 1) (@aa _ _ _ _ _ (pv 3) ak rfl) rfl)))))),?_⟩
 refine Sv.gy hlive hds aF (ρ:=[.d false _, .d false _, .d false _, .no, .no, .no]) rfl ?_
 clear aF hds
 have p2:=hp.1
 have Sj:(L.map fun(i:Nat)=>PyData.int (i:Int)).length=L.length:=aj ..
 refine Sv.seq ?_
 refine Sv.Et (nI.new ?_)
 intro A3
 refine Sv.seq ?_
 refine Sv.forL ?_
 refine Ev.var rfl ?_
 refine⟨_,rfl,fun v=>⟨fun i ρ=>∃(R':List (List Int)) (T:List (Nat×Nat)) (f1 f3:Bool) (x4 x5:Sl),dW p w R R' T (L.take i)/\(lK w R []->lK w R' T)/\T.length<=i/\ρ=[.d false (.int p), .d f1 (.list (R'.map aB)), .d false (tV L), .bO A3 f3 (fM T),x4,x5],⟨R,[],_,_,_,_,dW.init hR,id,aS _,rfl⟩,?_,?_⟩⟩
 ·rintro i d ρ hd ⟨R',T,f1,f3,x4,x5,hS,hLC,lZ,rfl⟩
  obtain⟨pl,hpl,rfl⟩:=Lg hd
  have hil:=(bI.mp hpl).1
  have z5:=hL pl (bD hpl)
  have Xq:=hS.len
  refine Gv.iX ?_
  refine Sv.seq ?_
  refine Sv.asg ?_
  refine Ev.Us ?_
  refine kB.N5 3 rfl ?_
  refine kB.dw Mr ?_
  walk_at "dt"
  refine⟨rfl,p,w,R',T,pl,rfl,hS.ok,by omega,g9,by omega,by omega,z5,by omega,fun hz=>⟨rfl,?_⟩,fun k hk jY hne C9=>⟨rfl,?_⟩⟩
  ·refine Gv.name ?_
   walk_at "dt"
   refine⟨R',T,_,_,_,_,?_,hLC,by omega,rfl⟩
   rw[take_snoc hpl]
   exact hS.skip hz
  ·refine Gv.name ?_
   generalize jX:(qa (i6 (fq 4) (rq (fq 3) (fq 5) Dt)) _:TS)=tl
   walk_at "dt"
   subst jX
   refine Sv.seq ?_
   refine Sv.KG rfl ?_
   walk_at "dt"
   refine⟨by unfold fM;rw[aj];omega,?_⟩
   rw[Nd T jY]
   refine Sv.asg ?_
   refine Ev.dw V2 ?_
   walk_at "dt"
   refine⟨rfl,p,w,R',k,pl,rfl,hp,g9,hS.ok,by omega,hk,z5,by omega,hne,fun f inv hinv=>?_⟩
   refine Gv.name ?_
   refine⟨_,_,_,_,_,_,?_,fun z=>(hLC z).take hS (by omega) (by omega) hk jY C9,by rw[fF,lB];omega,rfl⟩
   rw[take_snoc hpl]
   exact hS.take (by omega) (fun e he=>hL e (qh he)) z5 hk jY hne hinv
 ·rintro ρ ⟨R',T,f1,f3,x4,x5,hS,hLC,lZ,rfl⟩
  rw[Sj] at lZ hS
  rw[eT] at hS
  refine Sv.DL 3 rfl ?_
  walk_at "dt"
  exact q _ R' T hS ⟨by omega,hLC⟩
def wH:DF:=fun ds Φ=>∃(p n:Int) (cs:List aN),ds=[kc p n cs]/\iR p n cs/\∀(f:Bool) (R:List (List Int)) (T:List (Nat×Nat)),dW p (n.toNat+cs.length) (dY n.toNat cs.length cs) R T (List.range n.toNat)->lK (n.toNat+cs.length) R T->T.length<=9000->Φ f (.tuple [.list (R.map aB), .dict ((fM T).map bE)])
theorem Jf:dS wH:=by
 intro ds Φ Ψ hm z
 obtain⟨p,n,cs,e,h1,q⟩:=hm
 exact⟨p,n,cs,e,h1,fun f R T a b c=>z _ _ (q f R T a b c)⟩
theorem Mt:bX ["net"] ["net"] (aJ AZ):=⟨rfl,rfl,rfl,by decide+kernel,rfl,by decide+kernel,by decide+kernel⟩
theorem OB(F:bP K "swept_all" "swept_all" AZ f fd)(Nr:Callee P w K mg base "swept" 4 ["p","rows","places"] (bF 3 Bj))(TV:Callee P w K mg base "rows_of" 1 ["net"] (bF 1 BX))(cH:mg "list"=none)(cL:mg "range"=none):
  bB P w K mg base bM 5 f fd ["net"] (bF 1 wH):=by
 refine F.ok Mt (fun vs H Q E h=>h.1) (fun cdv A outer s H vs Q E hr h=>?_)
 obtain⟨nb,ds,Φ,hlive,hds,aF,hF⟩:=gn h
 obtain⟨p,n,cs,rfl,hN,q⟩:=hF
 refine⟨_,(@aO _ _ _ (@bz _ _ _ _ (@aY _ _ _ _ _ _ _ _ _ _ Nr (hr.mono (by decide)) (@aa _ _ _ _ _ (@aT _ _ _ _ _ _ (dD K) dN (pv 0) ao (fun _ _=>rfl)) (@aa _ _ _ _ _ (@aY _ _ _ _ _ _ _ _ _ _ TV (hr.mono (by decide)) (@aa _ _ _ _ _ (pv 0) ak rfl) (by rfl) (by decide) (by rfl) (by rfl)) (@aa _ _ _ _ _ (@iM _ _ _ _ _ _ _ _ _ (N4 rfl) rfl cH ie (@aa _ _ _ _ _ (@iM _ _ _ _ _ _ _ _ _ Nq rfl cL PyProof.Rows.boot_range (@aa _ _ _ _ _ (@aT _ _ _ _ _ _ (dD K) dN (pv 0) ao (fun _ _=>rfl)) ak rfl) (by decide) (by decide) (by rfl) (by rfl)) ak rfl) (by decide) (by decide) (by rfl) (by rfl)) ak rfl) rfl) rfl) (by rfl) (by decide) (by rfl) (by rfl)))),?_⟩
 refine Sv.gy hlive hds aF (ρ:=[.d false _]) rfl ?_
 clear aF hds
 have p2:=hN.hp.1
 have jV:=hN.jV
 have n0:=hN.n0
 have n1:=hN.n1
 have hcl:=hN.cl
 walk_at "dt"
 refine Ev.dw VO ?_
 walk_at "dt"
 refine Ev.dw Ux ?_
 walk_at "dt"
 refine⟨rfl,p,n,cs,rfl,hN,fun f0=>?_⟩
 walk_at "dt"
 refine au.ev (au.KU ?_)
 walk_at "dt"
 have eL:PyData.list (((List.range n.toNat).map fun(i:Nat)=>(0:Int)+(i:Int)).map .int)=tV (List.range n.toNat):=by
  unfold tV
  rw[fO]
  congr 1
  apply mH
  intro i _
  show PyData.int (0+(i:Int))=_
  rw[vD]
 refine⟨rfl,p,n.toNat+cs.length,dY n.toNat cs.length cs,List.range n.toNat,by rw[<-eL];rfl,hN.hp,jV,hN.rows,by rw[wJ];omega,by omega,fun d hd=>by have:=dI.mp hd;omega,by rw[gG];omega,fun f1 R T hS lZ=>?_⟩
 exact q _ R T hS (lZ.2 (MB hN)) lZ.1
def CJ:DF:=fun ds Φ=>∃(p n:Int) (cs:List aN),ds=[kc p n cs]/\iR p n cs/\∀k:Nat,Rk p n.toNat (VN p cs) k->Φ true (.int k)
theorem M4:dS CJ:=by
 intro ds Φ Ψ hm z
 obtain⟨p,n,cs,e,h1,q⟩:=hm
 exact⟨p,n,cs,e,h1,fun k a=>z _ _ (q k a)⟩
theorem TF:bX ["net"] ["net"] (aJ BA):=⟨rfl,rfl,rfl,by decide+kernel,rfl,by decide+kernel,by decide+kernel⟩
theorem Xe(F:bP K "rank" "rank" BA f fd)(Dw:Callee P w K mg base "swept_all" 5 ["net"] (bF 1 wH))(cD:mg "len"=none):
  bB P w K mg base bM 6 f fd ["net"] (bF 1 CJ):=by
 refine F.ok TF (fun vs H Q E h=>h.1) (fun cdv A outer s H vs Q E hr h=>?_)
 obtain⟨nb,ds,Φ,hlive,hds,aF,hF⟩:=gn h
 obtain⟨p,n,cs,rfl,hN,q⟩:=hF
 refine⟨_,(@aO _ _ _ (@bz _ _ _ _ (@cz _ _ _ _ _ _ _ _ (zE) Sf rfl cD jn (@aa _ _ _ _ _ (@aT _ _ _ _ _ _ (dD K) dN (@aY _ _ _ _ _ _ _ _ _ _ Dw (hr.mono (by decide)) (@aa _ _ _ _ _ (pv 0) ak rfl) (by rfl) (by decide) (by rfl) (by rfl)) ao (fun _ _=>rfl)) ak rfl) (by decide) (by decide) (by rfl) (by rfl)))),?_⟩
 refine Sv.gy hlive hds aF (ρ:=[.d false _]) rfl ?_
 clear aF hds
 walk_at "dt"
 refine Ev.Pz ?_
 walk_at "dt"
 refine Ev.dw Jf ?_
 walk_at "dt"
 refine⟨rfl,p,n,cs,rfl,hN,fun f1 R T hS hL lZ=>?_⟩
 walk_at "dt"
 refine⟨fM T,rfl,?_⟩
 rw[show List.length (fM T)=T.length by unfold fM;rw[aj]]
 exact q _ (hS.rank hN)
theorem vG:bX ["script","stir","cell"] ["script"] (aJ vS):=⟨rfl,rfl,rfl,by decide+kernel,rfl,by decide+kernel,by decide+kernel⟩
theorem VW(F:bP K "_law_bag" "_law_bag" vS f fd)(zZ:mg "abs"=none):
  bB P w K mg base bM 1 f fd ["script"] (DM K):=by
 refine F.ok vG (fun vs H Q E h=>?_) (fun cdv A outer s H vs Q E hr h=>?_)
 ·obtain⟨a,ns,rfl,hS,hl,q⟩:=h
  rfl
 obtain⟨a,ns,rfl,hS,hl,q⟩:=h
 refine⟨_,(@aC _ _ _ _ _ (@aV _ _ (1) _ _ _ _ vG.nd rfl (Or.inl rfl) ao (by rfl) (by first|exact .inl rfl|exact .inr rfl|assumption)) (@aC _ _ _ _ _ (@iS _ _ _ _ _ _ _ _ iH rfl (dQ (K:=K) rfl (@sA _ _ _ _ _ _ _ _ _ _ sH (pv 0) sZ (@qA _ _ _ ao))) (br (i:=2) vG.nd rfl (Or.inl rfl)) (@aO _ _ _ (@aV _ _ (1) _ _ _ _ vG.nd rfl (Or.inl rfl) (@aM _ _ _ _ _ _ _ _ gM (@aM _ _ _ _ _ _ _ _ fB (@aM _ _ _ _ _ _ _ _ fB (@aM _ _ _ _ _ _ _ _ iD (pv 1) ao) (@aM _ _ _ _ _ _ _ _ gM (pv 2) ao)) ao) ao) (by rfl) (by first|exact .inl rfl|exact .inr rfl|assumption))) (by intro _;rfl)) (@aO _ _ _ (@bz _ _ _ _ (@fW _ _ _ _ (@aa _ _ _ _ _ (dH (bS.of (show cW (aJ vS) ["script","stir","cell"] _ ["cell"] [none]=true by decide+kernel)) (dQ (K:=K) rfl (@sA _ _ _ _ _ _ _ _ _ _ sH (pv 0) sZ (@qA _ _ _ ao))) (fun _ _ _ _=>⟨(br (i:=0) (by show List.Nodup (["cell"]:List Str);decide+kernel) rfl (Or.inl rfl)),eG,(@aM _ _ _ _ _ _ _ _ gM (@cz _ _ _ _ _ _ _ _ _ Lu rfl zZ PyProof.Rows.boot_abs (@aa _ _ _ _ _ (pv 0) ak rfl) (by decide) (by decide) (by rfl) (by rfl)) (@aM _ _ _ _ _ _ _ _ Gj ao ao))⟩)) (@aa _ _ _ _ _ ao (@aa _ _ _ _ _ ao (@aa _ _ _ _ _ (pv 1) (@aa _ _ _ _ _ ao ak rfl) rfl) rfl) rfl) rfl)))))),?_⟩
 have tZ:kU (ns.map V.int) none (some 63)=ns.map V.int:=by
  have e:(ns.map V.int).length=ns.length:=aj _
  show List.take (min 63 (ns.map V.int).length-0) (List.drop 0 (ns.map V.int))=_
  rw[uC]
  exact wz (by omega)
 walk_at "st"
 refine R.J0 hS fun c hc=>?_
 rw[tZ]
 refine R.wj (aQ.of aR) ?_
 refine EX (xs:=ns.map V.int) (fun i σ H1=>∃(st:Int) (x:Option V),σ=[some (.ref a),some (.int st),x]/\0<=st/\st<2147483647/\H1=upd H c (.lst (ns.map V.int))) ⟨19,none,rfl,by omega,by omega,rfl⟩ ?_ ?_ ?_
 ·rintro i σ H1 hi ⟨st,x,rfl,h1,h2,rfl⟩
  exact aQ.of aR
 ·rintro i x σ H1 hx ⟨st,y,rfl,h1,h2,rfl⟩
  rw[bx] at hx
  obtain⟨n,_,rfl⟩:=kj.mp hx
  walk_at "st"
  exact⟨_,_,rfl,fP _ (by decide),fZ _ (by decide),rfl⟩
 ·rintro σ H1 ⟨st,x,rfl,h1,h2,rfl⟩
  walk_at "st"
  refine R.J0 ((bQ hc).seq hS) fun c2 hc2=>?_
  rw[tZ]
  refine R.wj (aQ.of aR) ?_
  intro acc hacc
  refine R.Eh (xs:=ns.map V.int) (fun i σ H2=>∃(x:Option V),σ=[x]/\H2=upd (upd (upd H c (.lst (ns.map V.int))) c2 (.lst (ns.map V.int))) acc (.lst (((ns.take i).map fun n=>(if n<0 then-n else n)%10^60).map V.int))) ⟨none,rfl,rfl⟩ ?_ ?_ ?_
  ·rintro i σ H1 hi ⟨x,rfl,rfl⟩
   refine aQ.of ?_
   rw[aA (gH aR hacc)]
   exact aR
  ·rintro i x σ H1 hx ⟨y,rfl,rfl⟩
   rw[bx] at hx
   obtain⟨n,hn,rfl⟩:=kj.mp hx
   walk_at "st"
   refine⟨_,aR,?_,_,rfl,?_⟩
   ·rw[aj,aj,ig]
    exact Hf (by omega)
   ·rw[BH,qL,hn,cS,cS]
    rfl
  ·rintro σ H1 ⟨x,rfl,rfl⟩
   walk_at "st"
   refine(show Dy _ _ _ from⟨by show 5<=sizeLine;decide,fun p hp=>?_⟩)
   have hn1:=gH (aR (H:=upd (upd H c (.lst (ns.map V.int))) c2 (.lst (ns.map V.int))) (a:=acc)) hp
   have s1:cE H (upd (upd (upd H c (.lst (ns.map V.int))) c2 (.lst (ns.map V.int))) acc (.lst (((ns.take (ns.map V.int).length).map fun n=>(if n<0 then-n else n)%10^60).map V.int))):=(bQ hc).trans ((bQ hc2).trans (bQ hacc))
   refine q p acc _ (s1.trans (bQ hp)) (s1.free hp) ⟨_,0,0,st,0,aR,by rw[aA hn1];exact aR,?_,?_,by omega,by omega,by omega,h1,h2⟩
   ·intro y hy
    obtain⟨z,_,rfl⟩:=aI.mp hy
    exact⟨fP _ (by decide),fZ _ (by decide)⟩
   ·rw[aj,ig]
    omega
theorem uF:bX ["bag","many","found","k"] ["bag","many"] (aJ Ce):=⟨rfl,rfl,rfl,by decide+kernel,rfl,by decide+kernel,by decide+kernel⟩
theorem SH(F:bP K "_law_stirred" "_law_stirred" Ce f fd)(cL:mg "range"=none):
  bB P w K mg base bM 1 f fd ["bag","many"] lI:=by
 refine F.ok uF (fun vs H Q E h=>?_) (fun cdv A outer s H vs Q E hr h=>?_)
 ·obtain⟨b,l,many,rfl,hB,hm,hs,q⟩:=h
  rfl
 obtain⟨b,l,many,rfl,hB,hm,hs,q⟩:=h
 refine⟨_,(@aC _ _ _ _ _ (@aV _ _ (2) _ _ _ _ uF.nd rfl (Or.inl rfl) ao (by rfl) (by first|exact .inl rfl|exact .inr rfl|assumption)) (@aC _ _ _ _ _ (@iS _ _ _ _ _ _ _ _ iH rfl (@lg _ _ _ _ _ _ rfl cL (@aa _ _ _ _ _ (@aM _ _ _ _ _ _ _ _ fB ao (@aM _ _ _ _ _ _ _ _ qJ (EU PySem.F.plainAttrs_int PySem.F.slot_int_bit_length PySem.F.type_int_bit_length Nc (pv 1)) ao)) ak rfl) (by rfl)) (br (i:=3) uF.nd rfl (Or.inl rfl)) (@aC _ _ _ _ _ (@jq _ _ _ _ _ _ (@aM _ _ _ _ _ _ _ _ fB (@aT _ _ _ _ _ _ _ bY (pv 0) ao (fun _ _=>rfl)) ao) (jg (pv 0) ao set_list) (by rfl) (by rfl) (by rfl)) (@aC _ _ _ _ _ (@jq _ _ _ _ _ _ (@aM _ _ _ _ _ _ _ _ gM (@aM _ _ _ _ _ _ _ _ fB (@aM _ _ _ _ _ _ _ _ fB (@aM _ _ _ _ _ _ _ _ fB (@aM _ _ _ _ _ _ _ _ Gj (@aT _ _ _ _ _ _ _ bY (pv 0) ao (fun _ _=>rfl)) ao) (@aM _ _ _ _ _ _ _ _ iD ao (@aT _ _ _ _ _ _ _ bY (pv 0) ao (fun _ _=>rfl)))) (@aM _ _ _ _ _ _ _ _ iD ao (@aT _ _ _ _ _ _ _ bY (pv 0) ao (fun _ _=>rfl)))) ao) ao) (jg (pv 0) ao set_list) (by rfl) (by rfl) (by rfl)) (@aO _ _ _ (@aV _ _ (2) _ _ _ _ uF.nd rfl (Or.inl rfl) (@aM _ _ _ _ _ _ _ _ fB (@aM _ _ _ _ _ _ _ _ iD (pv 2) ao) (@aM _ _ _ _ _ _ _ _ qJ (@aT _ _ _ _ _ _ _ bY (pv 0) ao (fun _ _=>rfl)) ao)) (by rfl) (by first|exact .inl rfl|exact .inr rfl|assumption))))) (by intro _;rfl)) (@aO _ _ _ (@bz _ _ _ _ (@aM _ _ _ _ _ _ _ _ gM (pv 2) (pv 1)))))),?_⟩
 have X7:=xy hs
 walk_at "st"
 refine BS (fun i σ H1=>∃(fv:Int) (x:Option V),σ=[some (.ref b),some (.int many),some (.int fv),x]/\bq (Nb b) H H1/\cY H1 b l) ⟨0,none,rfl,bq.refl _ _,hB⟩ ?_ ?_
 ·rintro i σ H1 hi ⟨fv,x,rfl,bt,ns,j,c,st,n,h1,h2,h3,h4,h5,h6,h7,h8,h9⟩
  have hlb:=Ip h1 h2
  walk_at "st"
  refine⟨_,_,rfl,bt.trans (bq.set rfl),?_⟩
  exact cY.put hlb h2 h3 h4 h5 h6 h7 (fP _ (by decide)) (fZ _ (by decide))
 ·rintro σ H1 ⟨fv,x,rfl,bt,B⟩
  walk_at "st"
  exact q _ _ (fP _ (by omega)) (fZ _ hm) bt B
theorem GS:bX ["bag","many","found"] ["bag","many"] (aJ yZ):=⟨rfl,rfl,rfl,by decide+kernel,rfl,by decide+kernel,by decide+kernel⟩
theorem MC(F:bP K "_law_draw" "_law_draw" yZ f fd)(Qt:Callee P w K mg base "_law_stirred" 1 ["bag","many"] lI)(cD:mg "len"=none):
  bB P w K mg base bM 2 f fd ["bag","many"] lI:=by
 refine F.ok GS (fun vs H Q E h=>?_) (fun cdv A outer s H vs Q E hr h=>?_)
 ·obtain⟨b,l,many,rfl,hB,hm,hs,q⟩:=h
  rfl
 obtain⟨b,l,many,rfl,hB,hm,hs,q⟩:=h
 refine⟨_,(@aC _ _ _ _ _ (@ff _ _ _ _ _ _ _ _ (PW.pt (xZ (@cC _ _ _ _ _ _ _ _ kI (@aT _ _ _ _ _ _ _ bY (pv 0) ao (fun _ _=>rfl)) ao (bW _)) (Dl (@cC _ _ _ _ _ _ _ _ CM (@aT _ _ _ _ _ _ _ bY (pv 0) ao (fun _ _=>rfl)) (@cz _ _ _ _ _ _ _ _ _ I0 rfl cD jn (@aa _ _ _ _ _ (@aT _ _ _ _ _ _ _ bY (pv 0) ao (fun _ _=>rfl)) ak rfl) (by decide) (by decide) (by rfl) (by rfl)) (bW _))))) (@aC _ _ _ _ _ (@jq _ _ _ _ _ _ (@aT _ _ _ _ _ _ _ bY (@aT _ _ _ _ _ _ _ bY (pv 0) ao (fun _ _=>rfl)) (@aT _ _ _ _ _ _ _ bY (pv 0) ao (fun _ _=>rfl)) (fun _ _=>rfl)) (jg (pv 0) ao set_list) (by rfl) (by rfl) (by rfl)) (@aO _ _ _ (@jq _ _ _ _ _ _ (@aM _ _ _ _ _ _ _ _ fB (@aT _ _ _ _ _ _ _ bY (pv 0) ao (fun _ _=>rfl)) ao) (jg (pv 0) ao set_list) (by rfl) (by rfl) (by rfl)))) (@aO _ _ _ (@ff _ _ _ _ _ _ _ _ (@cC _ _ _ _ _ _ _ _ kI (@aT _ _ _ _ _ _ _ bY (pv 0) ao (fun _ _=>rfl)) ao (bW _)) (@aO _ _ _ (@bz _ _ _ _ (@aY _ _ _ _ _ _ _ _ _ _ Qt (hr.mono (by decide)) (@aa _ _ _ _ _ (pv 0) (@aa _ _ _ _ _ (pv 1) ak rfl) rfl) (by rfl) (by decide) (by rfl) (by rfl)))) fJ))) (@aC _ _ _ _ _ (@aV _ _ (2) _ _ _ _ GS.nd rfl (Or.inl rfl) (@aM _ _ _ _ _ _ _ _ gM (@aT _ _ _ _ _ _ _ bY (pv 0) ao (fun _ _=>rfl)) (pv 1)) (by rfl) (by first|exact .inl rfl|exact .inr rfl|assumption)) (@aC _ _ _ _ _ (@jq _ _ _ _ _ _ (@aM _ _ _ _ _ _ _ _ qJ (@aT _ _ _ _ _ _ _ bY (pv 0) ao (fun _ _=>rfl)) (pv 1)) (jg (pv 0) ao set_list) (by rfl) (by rfl) (by rfl)) (@aO _ _ _ (@bz _ _ _ _ (pv 2)))))),?_⟩
 obtain⟨ns,i,c,st,n,h1,h2,h3,h4,h5,h6,h7,h8,h9⟩:=id hB
 have hlb:=Ip h1 h2
 have fin:∀(H1:Hp) (i' c':Int),H1 b=some (.lst [.ref l, .int i', .int c', .int st, .int n])->bq (Nb b) H H1->0<=i'->0<=c'->c'<10^60->
   ∀(H2:Hp),H2=upd H1 b (.lst [.ref l, .int i', .int (c'/many), .int st, .int n])->Q (.int (c'%many)) H2:=fun H1 i' c' e1 bt g1 g2 g3 H2 e2=>by
  subst e2
  have hd1:0<=c'/many:=Dg g2 (by omega)
  have hd2:c'/many<=c':=Int.ediv_le_self _ g2
  exact q _ _ (fP _ (by omega)) (fZ _ hm) (bt.trans (bq.set rfl)) (cY.put hlb (bt _ _ hlb h2) h3 h4 g1 hd1 (by omega) h8 h9)
 walk_at "st"
 refine pP (fun c1=>?_) (fun c1=>?_)
 ·have c1:c=0:=of_decide_eq_true c1
  walk_at "st"
  refine pP (fun c2=>?_) (fun c2=>?_)
  ·have c2:i<(List.map V.int ns).length:=of_decide_eq_true c2
   rw[aj] at c2
   have hi:i.toNat<ns.length:=by omega
   obtain⟨g1,g2⟩:=h3 _ (cV hi)
   walk_at "st"
   refine R.tH h2 (v:= .int ns[i.toNat]) (gK h5 (by rw[bx,aD hi];rfl)) ?_
   walk_at "st"
   refine fin (upd H b (.lst [.ref l, .int (i+1), .int ns[i.toNat], .int st, .int n])) (i+1) ns[i.toNat] aR (bq.set rfl) (by omega) g1 g2 _ ?_
   rw[BH]
   rfl
  ·walk_at "st"
   exact⟨b,l,many,rfl,hB,hm,hs,q⟩
 ·have c1:¬c=0:=of_decide_eq_false (DC.mpr c1)
  walk_at "st"
  exact fin H i c h1 (bq.refl _ _) h5 h6 h7 _ rfl
theorem Ug(is:List Int):PyData.eqv (.list (is.map PyData.int)) (.list [])=decide (is=[]):=by
 cases is<;>simp[PyData.eqv,PyData.eqvAll]
theorem Py(is:List Int):SeqAt.shaped (.list (is.map PyData.int))=true:=by
 have h:PyData.depthAll (is.map PyData.int)=0/\PyData.canLayAll0 (is.map PyData.int)=true:=by
  induction is with
  |nil=>simp[PyData.depthAll,PyData.canLayAll0]
  |cons a r ih=>simp[PyData.depthAll,PyData.depth,PyData.canLayAll0,PyData.canLay0,ih.2,ih.1]
 unfold SeqAt.shaped
 simp[PyData.canLay0,PyData.depth,h.2,h.1]
theorem FW{nb:Addr->Prop}{H:Hp}:∀is:List Int,af nb H (is.map PyData.int) (is.map V.int)
 |[]=>af.nil
 |i::is=>af.cons (.int i) (FW is)
theorem Ny{r:Int}(h0:r<=10100)(h:∀d:Int,2<=d->d<102->¬(d*d<=r/\r%d=0)):wD r:=fun d d1 d2 e=>by
 by_cases hd:d<102
 ·exact h d d1 hd ⟨d2,e⟩
 ·have:102*102<=d*d:=Int.mul_le_mul (by omega) (by omega) (by omega) (by omega)
  omega
theorem ID:bX ["number","found"] ["number"] (aJ wF):=⟨rfl,rfl,rfl,by decide+kernel,rfl,by decide+kernel,by decide+kernel⟩
theorem R3(F:bP K "_law_prime_from" "_law_prime_from" wF f fd)(cL:mg "range"=none):
  bB P w K mg base bM 1 f fd ["number"] A9:=by
 refine F.ok ID (fun vs H Q E h=>?_) (fun cdv A outer s H vs Q E hr h=>?_)
 ·obtain⟨n,rfl,hn1,hn2,q⟩:=h
  rfl
 obtain⟨n,rfl,hn1,hn2,q⟩:=h
 refine⟨_,(@aC _ _ _ _ _ (@iS _ _ _ _ _ _ _ _ iH rfl (@Gp _ _ _ _ _ _ _ rfl cL (@aa _ _ _ _ _ (pv 0) (@aa _ _ _ _ _ (@aM _ _ _ _ _ _ _ _ fB (pv 0) ao) ak rfl) rfl) (by rfl) (by rfl)) (br (i:=1) ID.nd rfl (Or.inr rfl)) (@aO _ _ _ (@ff _ _ _ _ _ _ _ _ (@cC _ _ _ _ _ _ _ _ (B5 hr.units) (dH (bS.of (show cW (aJ wF) ["number","found"] _ ["k","found"] [none,some 1]=true by decide+kernel)) (@Gp _ _ _ _ _ _ _ rfl cL (@aa _ _ _ _ _ ao (@aa _ _ _ _ _ ao ak rfl) rfl) (by rfl) (by rfl)) (fun _ _ _ _=>⟨(br (i:=0) (by show List.Nodup (["k","found"]:List Str);decide+kernel) rfl (Or.inl rfl)),(oN (PW.pt (xZ (@cC _ _ _ _ _ _ _ _ U4 (@aM _ _ _ _ _ _ _ _ iD (pv 0) (pv 0)) (pv 1) (bW _)) (Dl (@cC _ _ _ _ _ _ _ _ kI (@aM _ _ _ _ _ _ _ _ gM (pv 1) (pv 0)) ao (bW _)))))),(pv 0)⟩)) (@fW _ _ _ _ ak) (bW _)) (@aO _ _ _ (@bz _ _ _ _ (pv 1))) fJ)) (by intro _;rfl)) (@aO _ _ _ (@bz _ _ _ _ ao))),?_⟩
 walk_at "st"
 refine BS (fun i σ H1=>cE H H1/\∃(x:Option V),σ=[some (.int n),x]) ⟨cE.refl _,none,rfl⟩ ?_ ?_
 ·rintro i σ H1 hi ⟨s1,x,rfl⟩
  have hi2:(i:Int)<60:=by omega
  walk_at "st"
  intro acc hacc
  refine R.Ef (fun j σ H2=>cE H1 H2/\(∃x:Option V,σ=[x,some (.int (n+i))])/\∃is:List Int,H2 acc=some (.lst (is.map V.int))/\is.length<=j/\(is=[]->∀d:Int,2<=d->d<2+j->¬(d*d<=n+i/\(n+i)%d=0))) ?_ ?_ ?_
  ·exact⟨bQ hacc,⟨none,rfl⟩,[],aR,eU _,fun _ d d1 d2=>by omega⟩
  ·rintro j σ H2 hj ⟨s2,⟨x,rfl⟩,is,e2,l2,h2⟩
   have hj2:(j:Int)<100:=by omega
   have next:∀d:Int,d<2+((j+1:Nat):Int)->d<2+j\/d=2+j:=fun d h=>by omega
   walk_at "st"
   refine pP (fun c1=>?_) (fun c1=>?_)
   ·have c1:(2+(j:Int))*(2+j)<=n+i:=of_decide_eq_true c1
    walk_at "st"
    refine pP (fun c2=>?_) (fun c2=>?_)
    ·have c2:(n+i)%(2+(j:Int))=0:=of_decide_eq_true c2
     walk_at "st"
     refine⟨_,e2,?_,?_,⟨_,rfl⟩,is++[2+(j:Int)],?_,?_,fun e=>?_⟩
     ·rw[aj];exact Hf (by omega)
     ·exact fun a o h=>by rw[aA (gH h hacc)];exact s2 _ _ h
     ·rw[aR,cS];rfl
     ·rw[fF,lB];omega
     ·simp at e
    ·have c2:¬(n+i)%(2+(j:Int))=0:=of_decide_eq_false (DC.mpr c2)
     refine⟨s2,⟨_,rfl⟩,is,e2,by omega,fun e d d1 d2=>?_⟩
     rcases next d d2 with h|h
     ·exact h2 e d d1 h
     ·rw[h];exact fun z=>c2 z.2
   ·have c1:¬(2+(j:Int))*(2+j)<=n+i:=of_decide_eq_false (DC.mpr c1)
    walk_at "st"
    refine⟨s2,⟨_,rfl⟩,is,e2,by omega,fun e d d1 d2=>?_⟩
    rcases next d d2 with h|h
    ·exact h2 e d d1 h
    ·rw[h];exact fun z=>c1 z.1
  ·rintro σ H2 ⟨s2,⟨x,rfl⟩,is,e2,l2,h2⟩
   walk_at "st"
   refine R.Nn (by decide) fun p H3 s3 f3 e3=>?_
   refine⟨fun _=>False, .list (is.map PyData.int), .list [], .lst id (s3 _ _ e2) (FW is), .lst id e3 af.nil,Py is,by decide,?_⟩
   rw[Ug]
   walk_at "st"
   have s:cE H H3:=s1.trans (s2.trans s3)
   refine pP (fun c=>?_) (fun c=>?_)
   ·have c:is=[]:=by simpa using c
    walk_at "st"
    exact q _ _ s (by omega) (by omega) (Ny (by omega) fun d d1 d2=>h2 c d d1 (by omega))
   ·walk_at "st"
    exact⟨s,_,rfl⟩
 ·rintro σ H1 ⟨s1,x,rfl⟩
  walk_at "st"
  refine q _ _ s1 (by omega) (by omega) fun d d1 d2=>?_
  have:2*2<=d*d:=Int.mul_le_mul d1 d1 (by omega) (by omega)
  omega
def z6:DF:=fun ds Φ=>ds=[]/\∀p:Int,gJ p->p<10^40->∀f,Φ f (.int p)
theorem RP:dS z6:=by
 intro ds Φ Ψ hm z
 obtain⟨e,q⟩:=hm
 exact⟨e,fun p h1 h2 f=>z _ _ (q p h1 h2 f)⟩
theorem O6:∀x∈([2,3,5,7,2,11,101,10007,65537,1000003,998244353,1000000007,2147483647,1000000000039,1000000000000000003,18446744073709551557,2305843009213693951,618970019642690137449562111,162259276829213363391578010288127,170141183460469231731687303715884105727,1000000000000000000000000000000000000003,9999999999999999999999999999999999999983]:List Int),x∈vK/\x<10^40:=by decide
theorem p6:bX ["bag","some","way"] ["bag"] (aJ zc):=⟨rfl,rfl,rfl,by decide+kernel,rfl,by decide+kernel,by decide+kernel⟩
theorem UG(F:bP K "_law_prime" "_law_prime" zc f fd)(eW:Callee P w K mg base "_law_draw" 2 ["bag","many"] lI)(Lf:Callee P w K mg base "_law_prime_from" 1 ["number"] A9):
  bB P w K mg base bM 3 f fd ["bag"] (iI 1 z6):=by
 refine F.ok p6 (fun vs H Q E h=>h.1) (fun cdv A outer s H vs Q E hr h=>?_)
 obtain⟨b,l,ws,nb,ds,Φ,rfl,hB,hlive,hnb,hds,aF,hF⟩:=uV h
 obtain⟨rfl,q⟩:=hF
 refine⟨_,(@aC _ _ _ _ _ (@VV _ 1 _ _ _ _ _ _ p6.nd rfl (Or.inl rfl) rfl (Or.inl rfl)) (@aC _ _ _ _ _ (@aV _ _ (1) _ _ _ _ p6.nd rfl (Or.inl rfl) (@aM _ _ _ _ _ _ _ _ rj (pv 1) (@fW _ _ _ _ (@IS _ _ _ rfl))) (by rfl) (by first|exact .inl rfl|exact .inr rfl|assumption)) (@aC _ _ _ _ _ (@aV _ _ (1) _ _ _ _ p6.nd rfl (Or.inl rfl) (@aM _ _ _ _ _ _ _ _ rj (pv 1) (@fW _ _ _ _ (@aa _ _ _ _ _ ao (@aa _ _ _ _ _ ao ak rfl) rfl))) (by rfl) (by first|exact .inl rfl|exact .inr rfl|assumption)) (@aC _ _ _ _ _ (@aV _ _ (1) _ _ _ _ p6.nd rfl (Or.inl rfl) (@aM _ _ _ _ _ _ _ _ rj (pv 1) (@fW _ _ _ _ (@aa _ _ _ _ _ ao (@aa _ _ _ _ _ ao ak rfl) rfl))) (by rfl) (by first|exact .inl rfl|exact .inr rfl|assumption)) (@aC _ _ _ _ _ (@aV _ _ (2) _ _ _ _ p6.nd rfl (Or.inl rfl) (@aY _ _ _ _ _ _ _ _ _ _ eW (hr.mono (by decide)) (@aa _ _ _ _ _ (pv 0) (@aa _ _ _ _ _ ao ak rfl) rfl) (by rfl) (by decide) (by rfl) (by rfl)) (by rfl) (by first|exact .inl rfl|exact .inr rfl|assumption)) (@aO _ _ _ (@bz _ _ _ _ (@Hq _ _ _ _ _ _ _ _ (@cC _ _ _ _ _ _ _ _ CM (pv 2) ao (bW _)) (@aT _ _ _ _ _ _ (dU K) bY (pv 1) (pv 2) (fun _ _=>rfl)) (@aY _ _ _ _ _ _ _ _ _ _ Lf (hr.mono (by decide)) (@aa _ _ _ _ _ (@aM _ _ _ _ _ _ _ _ fB ao (@aY _ _ _ _ _ _ _ _ _ _ eW (hr.mono (by decide)) (@aa _ _ _ _ _ (pv 0) (@aa _ _ _ _ _ ao ak rfl) rfl) (by rfl) (by decide) (by rfl) (by rfl))) ak rfl) (by rfl) (by decide) (by rfl) (by rfl)))))))))),?_⟩
 refine Sv.tT hB hlive hnb hds aF (ρ:=[.ay, .no, .no]) rfl ?_
 clear aF hds
 walk_at "dt"
 intro way w1 w2
 by_cases c:way<22
 ·walk_at "dt"
  obtain⟨m,em,hm1,hm2⟩:=pick (L:=[2,3,5,7,2,11,101,10007,65537,1000003,998244353,1000000007,2147483647,1000000000039,1000000000000000003,18446744073709551557,2305843009213693951,618970019642690137449562111,162259276829213363391578010288127,170141183460469231731687303715884105727,1000000000000000000000000000000000000003,9999999999999999999999999999999999999983]) (k:=way) w1 (by show _<(22:Int);omega) _ O6
  refine⟨_,em,?_⟩
  exact q m (Wq m hm1) hm2 _
 ·walk_at "dt"
  intro r r1 r2
  walk_at "dt"
  exact fun r' h1 h2=>q r' h1 h2 _
def zk:DF:=fun ds Φ=>∃p n:Int,ds=[.int p, .int n]/\FG p/\0<=n/\n<=10000/\∀os:List Int,(os.length:Int)=n->(∀x∈os,0<=x/\x<p)->Φ true (.list (os.map .int))
theorem Jd:dS zk:=by
 intro ds Φ Ψ hm z
 obtain⟨p,n,e,h1,h2,h3,q⟩:=hm
 exact⟨p,n,e,h1,h2,h3,fun os a b=>z _ _ (q os a b)⟩
theorem Il:bX ["bag","p","n","way"] ["bag","p","n"] (aJ sE):=⟨rfl,rfl,rfl,by decide+kernel,rfl,by decide+kernel,by decide+kernel⟩
theorem N7(F:bP K "_law_letters" "_law_letters" sE f fd)(eW:Callee P w K mg base "_law_draw" 2 ["bag","many"] lI)(cL:mg "range"=none)(iu:mg "int"=none)(Du:mg "min"=none):
  bB P w K mg base bM 3 f fd ["bag","p","n"] (iI 3 zk):=by
 refine F.ok Il (fun vs H Q E h=>h.1) (fun cdv A outer s H vs Q E hr h=>?_)
 obtain⟨b,l,ws,nb,ds,Φ,rfl,hB,hlive,hnb,hds,aF,hF⟩:=uV h
 obtain⟨p,n,rfl,⟨p2,XD⟩,n0,n1,q⟩:=hF
 refine⟨_,(@aC _ _ _ _ _ (@aV _ _ (3) _ _ _ _ Il.nd rfl (Or.inr rfl) (@aY _ _ _ _ _ _ _ _ _ _ eW (hr.mono (by decide)) (@aa _ _ _ _ _ (pv 0) (@aa _ _ _ _ _ ao ak rfl) rfl) (by rfl) (by decide) (by rfl) (by rfl)) (by rfl) (by first|exact .inl rfl|exact .inr rfl|assumption)) (@aC _ _ _ _ _ (@ff _ _ _ _ _ _ _ _ (@cC _ _ _ _ _ _ _ _ kI (pv 3) ao (bW _)) (@aO _ _ _ (@bz _ _ _ _ (dH (bS.of (show cW (aJ sE) ["bag","p","n","way"] _ ["k","bag","p"] [none,some 0,some 1]=true by decide+kernel)) (@lg _ _ _ _ _ _ rfl cL (@aa _ _ _ _ _ (pv 2) ak rfl) (by rfl)) (fun _ _ _ _=>⟨(br (i:=0) (by show List.Nodup (["k","bag","p"]:List Str);decide+kernel) rfl (Or.inl rfl)),eG,(@aM _ _ _ _ _ _ _ _ iD (@aY _ _ _ _ _ _ _ _ _ _ eW (hr.mono (by decide)) (@aa _ _ _ _ _ (pv 1) (@aa _ _ _ _ _ (pv 2) ak rfl) rfl) (by rfl) (by decide) (by rfl) (by rfl)) (@iM _ _ _ _ _ _ _ _ _ Rm rfl iu tE (@aa _ _ _ _ _ (@nk _ _ _ _ _ _ _ _ kI (@aY _ _ _ _ _ _ _ _ _ _ eW (hr.mono (by decide)) (@aa _ _ _ _ _ (pv 1) (@aa _ _ _ _ _ ao ak rfl) rfl) (by rfl) (by decide) (by rfl) (by rfl)) ao (bW _)) ak rfl) (by decide) (by decide) (by rfl) (by rfl)))⟩)))) fJ) (@aO _ _ _ (@bz _ _ _ _ (dH (bS.of (show cW (aJ sE) ["bag","p","n","way"] _ ["k","bag","p","way"] [none,some 0,some 1,some 3]=true by decide+kernel)) (@lg _ _ _ _ _ _ rfl cL (@aa _ _ _ _ _ (pv 2) ak rfl) (by rfl)) (fun _ _ _ _=>⟨(br (i:=0) (by show List.Nodup (["k","bag","p","way"]:List Str);decide+kernel) rfl (Or.inl rfl)),eG,(@aY _ _ _ _ _ _ _ _ _ _ eW (hr.mono (by decide)) (@aa _ _ _ _ _ (pv 1) (@aa _ _ _ _ _ (@aT _ _ _ _ _ _ (dU K) bY (@fW _ _ _ _ (@aa _ _ _ _ _ (pv 2) (@aa _ _ _ _ _ (@cz _ _ _ _ _ _ _ _ _ (MR rfl) rfl Du PyProof.Rows.boot_min (@aa _ _ _ _ _ (pv 2) (@aa _ _ _ _ _ ao ak rfl) rfl) (by decide) (by decide) (by rfl) (by rfl)) ak rfl) rfl)) (pv 3) (fun _ _=>rfl)) ak rfl) rfl) (by rfl) (by decide) (by rfl) (by rfl))⟩)))))),?_⟩
 refine Sv.tT hB hlive hnb hds aF (ρ:=[.ay, .d false _, .d false _, .no]) rfl ?_
 clear aF hds
 walk_at "dt"
 intro way w1 w2
 by_cases c:way=2
 ·walk_at "dt"
  refine au.ev (au.mF (by decide) rfl ?_)
  walk_at "dt"
  refine dZ.ints (fun x=>0<=x/\x<p) ?_ fun os fK hos=>q os (by omega) hos
  rintro i d ⟨hi,rfl⟩
  walk_at "dt"
  refine⟨by walk_at "wk",?_⟩
  walk_at "dt"
  intro r r1 r2
  walk_at "dt"
  intro s s1 s2
  by_cases c2:s=3
  ·walk_at "dt"
   rw[decide_eq_true c2]
   exact⟨by simp;omega,by simp;omega⟩
  ·walk_at "dt"
   rw[decide_eq_false c2]
   exact⟨by simp,by simp;omega⟩
 ·obtain⟨m,em,m1,m2⟩:∃m:Int,bL [PyData.int p, .int (if 3<p then 3 else p)] way=some (.int m)/\1<=m/\m<=p:=by
   rcases(show way=0\/way=1 by omega) with rfl|rfl
   ·exact⟨p,rfl,by omega,by omega⟩
   ·exact⟨_,rfl,by split<;>omega,by split<;>omega⟩
  walk_at "dt"
  refine au.ev (au.mF (by decide) rfl ?_)
  walk_at "dt"
  refine dZ.ints (fun x=>0<=x/\x<p) ?_ fun os fK hos=>q os (by omega) hos
  rintro i d ⟨hi,rfl⟩
  walk_at "dt"
  refine⟨by walk_at "wk",?_⟩
  walk_at "dt"
  exact fun r r1 r2=>⟨r,rfl,r1,by omega⟩
theorem Tq:bX ["found"] ["found"] (aJ DB):=⟨rfl,rfl,rfl,by decide+kernel,rfl,by decide+kernel,by decide+kernel⟩
theorem Ml(F:bP K "_law_whole" "_law_whole" DB f fd)(c7:mg "isinstance"=none)(iu:mg "int"=none)(iw:mg "bool"=none):
  bB P w K mg base bM 1 f fd ["found"] yG:=by
 refine F.ok Tq (fun vs H Q E h=>?_) (fun cdv A outer s H vs Q E hr h=>?_)
 ·obtain⟨i,rfl,q⟩:=h
  rfl
 obtain⟨i,rfl,q⟩:=h
 refine⟨_,(@aO _ _ _ (@bz _ _ _ _ (@DV _ _ _ _ _ _ _ (@cz _ _ _ _ _ _ _ _ (gE K) jc rfl c7 ia (@aa _ _ _ _ _ (pv 0) (@aa _ _ _ _ _ (gv (v:= .ty "int") rfl iu tE rfl) ak rfl) rfl) (by decide) (by decide) (by rfl) (by rfl)) (@Jg _ _ _ _ _ (@Mz _ _ _ _ (@cz _ _ _ _ _ _ _ _ (gE K) jc rfl c7 ia (@aa _ _ _ _ _ (pv 0) (@aa _ _ _ _ _ (gv (v:= .ty "bool") rfl iw ua rfl) ak rfl) rfl) (by decide) (by decide) (by rfl) (by rfl))))))),?_⟩
 walk_at "st"
 refine R.BC ?_
 walk_at "st"
 exact q
def Ga:Nat->PyData->Prop
 |0,_=>False
 |n+1,d=>gX d=true\/∃ds,(d= .list ds\/d= .tuple ds)/\ds.length<=10000/\∀e∈ds,Ga n e
def oJ(n:Nat):DF:=fun ds Φ=>∃d,ds=[d,d]/\Ga n d/\Φ true (.bool true)
theorem vB(n:Nat):dS (oJ n):=fun ds Φ Ψ ⟨d,e,h,q⟩ z=>⟨d,e,h,z _ _ q⟩
theorem UN:∀vs H Q E,¬bF 2 (oJ 0) vs H Q E:=fun vs H Q E ⟨_,_,_,_,_,d,_,h,_⟩=>h
theorem Ry:bX ["found","due"] ["found","due"] (aJ uy):=⟨rfl,rfl,rfl,by decide+kernel,rfl,by decide+kernel,by decide+kernel⟩
theorem rZ(n:Nat)(F:bP K "_law_alike" "_law_alike" uy f fd)(sG:Callee P w K mg base "_law_alike" (n) ["found","due"] (bF 2 (oJ n)))(c7:mg "isinstance"=none)(cH:mg "list"=none)(lY:mg "tuple"=none)(iT:mg "all"=none)(cD:mg "len"=none)(iw:mg "bool"=none)(iu:mg "int"=none)(mS:mg "str"=none)(cL:mg "range"=none):
  bB P w K mg base bM (n+1) f fd ["found","due"] (bF 2 (oJ (n+1))):=by
 refine F.ok Ry (fun vs H Q E h=>h.1) (fun cdv A outer s H vs Q E hr h=>?_)
 obtain⟨nb,ds,Φ,hlive,hds,aF,hF⟩:=gn h
 obtain⟨d,rfl,hok,q⟩:=hF
 refine⟨_,(@aC _ _ _ _ _ (@ff _ _ _ _ _ _ _ _ (@lA _ (K) _ _ rfl (@cz _ _ _ _ _ _ _ _ (wO) JT rfl c7 ia (@aa _ _ _ _ _ (pv 1) (@aa _ _ _ _ _ (@jL _ _ _ _ _ (@aa _ _ _ _ _ (gv (v:= .ty "list") rfl cH ie rfl) (@aa _ _ _ _ _ (gv (v:= .ty "tuple") rfl lY J3 rfl) ak rfl) rfl)) ak rfl) rfl) (by decide) (by decide) (by rfl) (by rfl)) (fun _=>rfl)) (@aC _ _ _ _ _ (@ff _ _ _ _ _ _ _ _ (PW.pt (kQ (@nu _ _ _ _ (@lA _ (K) _ _ rfl (@cz _ _ _ _ _ _ _ _ (wO) JT rfl c7 ia (@aa _ _ _ _ _ (pv 0) (@aa _ _ _ _ _ (@jL _ _ _ _ _ (@aa _ _ _ _ _ (gv (v:= .ty "list") rfl cH ie rfl) (@aa _ _ _ _ _ (gv (v:= .ty "tuple") rfl lY J3 rfl) ak rfl) rfl)) ak rfl) rfl) (by decide) (by decide) (by rfl) (by rfl)) (fun _=>rfl))) (mV (@cC _ _ _ _ _ _ _ _ jB (@cz _ _ _ _ _ _ _ _ (gE K) jc rfl c7 ia (@aa _ _ _ _ _ (pv 0) (@aa _ _ _ _ _ (gv (v:= .ty "list") rfl cH ie rfl) ak rfl) rfl) (by decide) (by decide) (by rfl) (by rfl)) (@cz _ _ _ _ _ _ _ _ (gE K) jc rfl c7 ia (@aa _ _ _ _ _ (pv 1) (@aa _ _ _ _ _ (gv (v:= .ty "list") rfl cH ie rfl) ak rfl) rfl) (by decide) (by decide) (by rfl) (by rfl)) (bW _))))) (@aO _ _ _ (@bz _ _ _ _ j4)) fJ) (@aC _ _ _ _ _ (@ff _ _ _ _ _ _ _ _ (@cC _ _ _ _ _ _ _ _ jB (@cz _ _ _ _ _ _ _ _ (iV K) kF rfl cD jn (@aa _ _ _ _ _ (pv 0) ak rfl) (by decide) (by decide) (by rfl) (by rfl)) (@cz _ _ _ _ _ _ _ _ (iV K) kF rfl cD jn (@aa _ _ _ _ _ (pv 1) ak rfl) (by decide) (by decide) (by rfl) (by rfl)) (bW _)) (@aO _ _ _ (@bz _ _ _ _ j4)) fJ) (@aO _ _ _ (@bz _ _ _ _ (@cz _ _ _ _ _ _ _ _ (sP K) (AF rfl) rfl iT AS (@aa _ _ _ _ _ (dH (bS.of (show cW (aJ uy) ["found","due"] _ ["k","found","due"] [none,some 0,some 1]=true by decide+kernel)) (@lg _ _ _ _ _ _ rfl cL (@aa _ _ _ _ _ (@cz _ _ _ _ _ _ _ _ (iV K) kF rfl cD jn (@aa _ _ _ _ _ (pv 1) ak rfl) (by decide) (by decide) (by rfl) (by rfl)) ak rfl) (by rfl)) (fun _ _ _ _=>⟨(br (i:=0) (by show List.Nodup (["k","found","due"]:List Str);decide+kernel) rfl (Or.inl rfl)),eG,(@aY _ _ _ _ _ _ _ _ _ _ sG (hr.mono (aS _)) (@aa _ _ _ _ _ (@aT _ _ _ _ _ _ (tX K) HW (pv 1) (pv 0) (fun _ _=>rfl)) (@aa _ _ _ _ _ (@aT _ _ _ _ _ _ (tX K) HW (pv 2) (pv 0) (fun _ _=>rfl)) ak rfl) rfl) (by rfl) (by decide) (by rfl) (by rfl))⟩)) ak rfl) (by decide) (by decide) (by rfl) (by rfl)))))) fJ) (@aC _ _ _ _ _ (@ff _ _ _ _ _ _ _ _ (PW.pt (kQ (@cC _ _ _ _ _ _ _ _ jB (@cz _ _ _ _ _ _ _ _ (gE K) jc rfl c7 ia (@aa _ _ _ _ _ (pv 0) (@aa _ _ _ _ _ (gv (v:= .ty "bool") rfl iw ua rfl) ak rfl) rfl) (by decide) (by decide) (by rfl) (by rfl)) (@cz _ _ _ _ _ _ _ _ (gE K) jc rfl c7 ia (@aa _ _ _ _ _ (pv 1) (@aa _ _ _ _ _ (gv (v:= .ty "bool") rfl iw ua rfl) ak rfl) rfl) (by decide) (by decide) (by rfl) (by rfl)) (bW _)) (mV (@cC _ _ _ _ _ _ _ _ jB (@cz _ _ _ _ _ _ _ _ (gE K) jc rfl c7 ia (@aa _ _ _ _ _ (pv 0) (@aa _ _ _ _ _ (gv (v:= .ty "int") rfl iu tE rfl) ak rfl) rfl) (by decide) (by decide) (by rfl) (by rfl)) (@cz _ _ _ _ _ _ _ _ (gE K) jc rfl c7 ia (@aa _ _ _ _ _ (pv 1) (@aa _ _ _ _ _ (gv (v:= .ty "int") rfl iu tE rfl) ak rfl) rfl) (by decide) (by decide) (by rfl) (by rfl)) (bW _))))) (@aO _ _ _ (@bz _ _ _ _ j4)) fJ) (@aO _ _ _ (@bz _ _ _ _ (@DV _ _ _ _ _ _ _ (@nk _ _ _ _ _ _ _ _ kI (@cz _ _ _ _ _ _ _ _ (gE K) jc rfl c7 ia (@aa _ _ _ _ _ (pv 0) (@aa _ _ _ _ _ (gv (v:= .ty "str") rfl mS EW rfl) ak rfl) rfl) (by decide) (by decide) (by rfl) (by rfl)) (@cz _ _ _ _ _ _ _ _ (gE K) jc rfl c7 ia (@aa _ _ _ _ _ (pv 1) (@aa _ _ _ _ _ (gv (v:= .ty "str") rfl mS EW rfl) ak rfl) rfl) (by decide) (by decide) (by rfl) (by rfl)) (bW _)) (@Jg _ _ _ _ _ (@nk _ _ _ _ _ _ _ _ kI (pv 0) (pv 1) (bW _)))))))),?_⟩
 refine Sv.gy hlive hds aF (ρ:=[.d false _, .d false _]) rfl ?_
 clear aF hds
 walk_at "dt"
 rcases hok with hs|⟨ds,hd,hl,he⟩
 ·have h1:(iB d "list" ||iB d "tuple")=false:=by cases d<;>first|rfl|cases hs
  rw[h1]
  walk_at "dt"
  rw[beq_self_eq_true]
  walk_at "dt"
  rw[beq_self_eq_true]
  walk_at "dt"
  rw[beq_self_eq_true]
  walk_at "dt"
  exact⟨true, .self hs,q⟩
 rcases hd with rfl|rfl
 ·rw[(JZ ds).1,(JZ ds).2,Bool.true_or]
  walk_at "dt"
  refine au.ev (au.mF (by decide) rfl ?_)
  walk_at "dt"
  refine⟨true,fun i es=>es=List.replicate i (.bool true),rfl,?_,?_⟩
  ·rintro i d' es ⟨hi,rfl⟩ hl' rfl
   have hi':i<ds.length:=by omega
   have hat:bL ds (0+(i:Int))=some ds[i]:=gK (by omega) (by rw[show(0+(i:Int)).toNat=i by omega];exact aD hi')
   walk_at "dt"
   refine⟨by walk_at "wk",?_⟩
   walk_at "dt"
   refine Ev.dw (vB n) ?_
   walk_at "dt"
   refine⟨rfl,ds[i],rfl,he _ (cV hi'),fun _=>rfl,?_⟩
   show _=List.replicate (i+1) _
   rw[JA]
  ·rintro es hl' rfl
   refine⟨List.replicate ds.length true,by simp,?_⟩
   rw[show(List.replicate ds.length true).all id=true by simp]
   exact q
 ·rw[(JS ds).1,(JS ds).2,rQ]
  walk_at "dt"
  refine au.ev (au.mF (by decide) rfl ?_)
  walk_at "dt"
  refine⟨true,fun i es=>es=List.replicate i (.bool true),rfl,?_,?_⟩
  ·rintro i d' es ⟨hi,rfl⟩ hl' rfl
   have hi':i<ds.length:=by omega
   have hat:bL ds (0+(i:Int))=some ds[i]:=gK (by omega) (by rw[show(0+(i:Int)).toNat=i by omega];exact aD hi')
   walk_at "dt"
   refine⟨by walk_at "wk",?_⟩
   walk_at "dt"
   refine Ev.dw (vB n) ?_
   walk_at "dt"
   refine⟨rfl,ds[i],rfl,he _ (cV hi'),fun _=>rfl,?_⟩
   show _=List.replicate (i+1) _
   rw[JA]
  ·rintro es hl' rfl
   refine⟨List.replicate ds.length true,by simp,?_⟩
   rw[show(List.replicate ds.length true).all id=true by simp]
   exact q
def Co:DF:=fun ds Φ=>∃(p n:Int) (cs:List aN) (w:List Int),ds=[kc p n cs,aB w]/\iR p n cs/\bf p n.toNat w/\VN p cs w/\Φ true (.bool true)
theorem WR:dS Co:=by
 intro ds Φ Ψ hm z
 obtain⟨p,n,cs,w,e,h1,h2,h3,q⟩:=hm
 exact⟨p,n,cs,w,e,h1,h2,h3,z _ _ q⟩
theorem Xb:bX ["net","word"] ["net","word"] (aJ p8):=⟨rfl,rfl,rfl,by decide+kernel,rfl,by decide+kernel,by decide+kernel⟩
theorem U9(F:bP K "_law_is_true" "_law_is_true" p8 f fd)(LA:Callee P w K mg base "_law_whole" 1 ["found"] yG)(c7:mg "isinstance"=none)(cH:mg "list"=none)(cD:mg "len"=none)(iT:mg "all"=none)(zu:mg "sum"=none):
  bB P w K mg base bM 2 f fd ["net","word"] (bF 2 Co):=by
 refine F.ok Xb (fun vs H Q E h=>h.1) (fun cdv A outer s H vs Q E hr h=>?_)
 obtain⟨nb,ds,Φ,hlive,hds,aF,hF⟩:=gn h
 obtain⟨p,n,cs,w,rfl,hN,hw,hV,q⟩:=hF
 refine⟨_,(@aC _ _ _ _ _ (@ff _ _ _ _ _ _ _ _ (PW.pt (kQ (@nu _ _ _ _ (@lA _ (K) _ _ rfl (@cz _ _ _ _ _ _ _ _ (gE K) jc rfl c7 ia (@aa _ _ _ _ _ (pv 1) (@aa _ _ _ _ _ (gv (v:= .ty "list") rfl cH ie rfl) ak rfl) rfl) (by decide) (by decide) (by rfl) (by rfl)) (fun _=>rfl))) (kQ (@cC _ _ _ _ _ _ _ _ jB (@cz _ _ _ _ _ _ _ _ (iV K) kF rfl cD jn (@aa _ _ _ _ _ (pv 1) ak rfl) (by decide) (by decide) (by rfl) (by rfl)) (@aT _ _ _ _ _ _ (dD K) dN (pv 0) ao (fun _ _=>rfl)) (bW _)) (mV (@nu _ _ _ _ (@lA _ (K) _ _ rfl (@cz _ _ _ _ _ _ _ _ (sP K) (AF rfl) rfl iT AS (@aa _ _ _ _ _ (dH (bS.of (show cW (aJ p8) ["net","word"] _ ["letter"] [none]=true by decide+kernel)) (dQ (K:=K) rfl (pv 1)) (fun _ _ _ _=>⟨(br (i:=0) (by show List.Nodup (["letter"]:List Str);decide+kernel) rfl (Or.inl rfl)),eG,(@aY _ _ _ _ _ _ _ _ _ _ LA (hr.mono (by decide)) (@aa _ _ _ _ _ (pv 0) ak rfl) (by rfl) (by decide) (by rfl) (by rfl))⟩)) ak rfl) (by decide) (by decide) (by rfl) (by rfl)) (fun _=>rfl))))))) (@aO _ _ _ (@bz _ _ _ _ j4)) fJ) (@aC _ _ _ _ _ (@ff _ _ _ _ _ _ _ _ (@cC _ _ _ _ _ _ _ _ (BK hr.units) (dH (bS.of (show cW (aJ p8) ["net","word"] _ ["letter","net"] [none,some 0]=true by decide+kernel)) (dQ (K:=K) rfl (pv 1)) (fun _ _ _ _=>⟨(br (i:=0) (by show List.Nodup (["letter","net"]:List Str);decide+kernel) rfl (Or.inl rfl)),(oN (PW.pt (kQ (@cC _ _ _ _ _ _ _ _ CM (pv 0) ao (bW _)) (mV (@cC _ _ _ _ _ _ _ _ QV (pv 0) (@aT _ _ _ _ _ _ (dD K) dN (pv 1) ao (fun _ _=>rfl)) (bW _)))))),(pv 0)⟩)) (@fW _ _ _ _ ak) (bW _)) (@aO _ _ _ (@bz _ _ _ _ j4)) fJ) (@aO _ _ _ (@bz _ _ _ _ (@nk _ _ _ _ _ _ _ _ (B5 hr.units) (dH (bS.of (show cW (aJ p8) ["net","word"] _ ["pairs","net","word"] [none,some 0,some 1]=true by decide+kernel)) (dQ (K:=K) rfl (@aT _ _ _ _ _ _ (dD K) dN (pv 0) ao (fun _ _=>rfl))) (fun _ _ _ _=>⟨(br (i:=0) (by show List.Nodup (["pairs","net","word"]:List Str);decide+kernel) rfl (Or.inl rfl)),(oN (@cC _ _ _ _ _ _ _ _ jB (@aM _ _ _ _ _ _ _ _ gM (@cz _ _ _ _ _ _ _ _ (De K) (VG rfl) rfl zu PyProof.Rows.boot_sum (@aa _ _ _ _ _ (by(refine' Wc (bS.of (NX:=["pairs","net","word"]) (N:=["place","factor","word"]) (mp:=[none,none,some 2]) ?VY) ?Mh ?MS);(case Mh=>exact(dQ (K:=K) rfl (pv 0)));(case MS=>exact(fun _ _ _ _=>⟨(kM (K:=K) (n:=2) rfl rfl (eY (br (i:=0) (by show List.Nodup (["place","factor","word"]:List Str);decide+kernel) rfl (Or.inl rfl)) (eY (br (i:=1) (by show List.Nodup (["place","factor","word"]:List Str);decide+kernel) rfl (Or.inl rfl)) jP))),eG,(aM iD (pv 1) (aT (r:=dU K) bY (pv 2) (pv 0) (fun _ _=>rfl)))⟩));(case VY=>decide+kernel)) ak rfl) (by decide) (by decide) (by rfl) (by rfl)) (@aT _ _ _ _ _ _ (dD K) dN (pv 1) ao (fun _ _=>rfl))) ao (bW _))),(pv 0)⟩)) (@fW _ _ _ _ ak) (bW _)))))),?_⟩
 refine Sv.gy hlive hds aF (ρ:=[.d false _, .d false _]) rfl ?_
 clear aF hds
 have p2:=hN.hp.1
 have jV:=hN.jV
 have hcl:=hN.cl
 have n0:=hN.n0
 have n1:=hN.n1
 have hwl:=hw.len
 have FO:(w.map PyData.int).length=w.length:=aj ..
 have Af:(cs.map jR).length=cs.length:=aj ..
 walk_at "dt"
 refine au.ev (au.gx (by decide) rfl ?_)
 walk_at "dt"
 refine fun v=>?_
 refine dZ.rel PyData.bool true (fun i o=>o=true) ?_ fun os fK hos=>⟨os,rfl,?_⟩
 ·rintro i d hd
  obtain⟨x,hx,rfl⟩:=dj hd
  walk_at "dt"
  refine⟨by walk_at "wk",?_⟩
  walk_at "dt"
  rfl
 rw[Ss hos]
 walk_at "dt"
 refine au.ev (au.gx (by decide) rfl ?_)
 walk_at "dt"
 refine fun v=>⟨true,fun i ds=>ds=[],rfl,?_,?_⟩
 ·rintro i d ds hd hl' rfl
  obtain⟨x,hx,rfl⟩:=dj hd
  obtain⟨x0,x1⟩:=hw.rg x (bD hx)
  walk_at "dt"
  refine⟨by walk_at "wk",?_⟩
  walk_at "dt"
  rfl
 rintro ds hl' rfl
 walk_at "dt"
 refine au.ev (au.gx (by decide) rfl ?_)
 walk_at "dt"
 refine fun v=>⟨true,fun i ds=>ds=[],rfl,?_,?_⟩
 ·rintro i d ds hd hl' rfl
  obtain⟨prs,fG,rfl⟩:=dj hd
  obtain⟨g1,g2,g3⟩:=hN.ok prs (bD fG)
  have qT:(prs.map pairD).length=prs.length:=aj ..
  refine Gv.jy ?_
  refine⟨by walk_at "wk",?_⟩
  walk_at "dt"
  refine au.ev (au.gx (by decide) rfl ?_)
  walk_at "dt"
  refine fun v2=>⟨false,fun i ds=>∃ns:List Int,ds=ns.map .int/\ns.sum=aL (prs.take i) (w.map some),⟨[],rfl,by simp[aL]⟩,?_,?_⟩
  ·rintro j d ds hd hl' ⟨ns,rfl,hs⟩
   obtain⟨pr,aH,rfl⟩:=dj hd
   obtain⟨a0,a1,a2,a3⟩:=g3 pr (bD aH)
   have hj:j<prs.length:=(bI.mp aH).1
   have FD:=Ic (wd:=w.map some) hj
   rw[(bI.mp aH).2,pY (qZ (show pr.1.toNat<w.length by omega))] at FD
   have hat:bL (w.map PyData.int) pr.1=some (.int (gI w pr.1.toNat)):=gK a0 (by rw[bx,qZ (by omega)];rfl)
   have hb:=hw.g (i:=pr.1.toNat) (by omega)
   have s1:Sm pr.2:=by unfold Sm;omega
   have s2:Sm (gI w pr.1.toNat):=by unfold Sm;omega
   walk_at "dt"
   refine⟨by walk_at "wk",?_⟩
   walk_at "dt"
   refine⟨ns++[pr.2*gI w pr.1.toNat],by simp,?_⟩
   rw[FD,uB,hs]
   simp
  ·rintro ds hl2 ⟨ns,rfl,hs⟩
   rw[qT,eT] at hs
   refine⟨ns,rfl,?_⟩
   rw[hs]
   have hz:aL prs (w.map some)%p=0:=uz (hV prs (bD fG))
   walk_at "dt"
   rfl
 rintro ds hl' rfl
 walk_at "dt"
 exact q
def B0:DF:=fun ds Φ=>∃(k many:Int),ds=[.int k, .int many]/\1<=k/\k<=200/\0<=many/\many<=200/\∀(f:Bool) (R:List (List Int)),(R.length:Int)=many->(∀r∈R,kG k r)->Φ f (.list (R.map aB))
theorem P1:dS B0:=by
 intro ds Φ Ψ hm z
 obtain⟨k,many,e,h1,h2,h3,h4,q⟩:=hm
 exact⟨k,many,e,h1,h2,h3,h4,fun f R a b=>z _ _ (q f R a b)⟩
theorem mE:bX ["bag","k","many","rows","left","c","broad","row"] ["bag","k","many"] (aJ tu):=⟨rfl,rfl,rfl,by decide+kernel,rfl,by decide+kernel,by decide+kernel⟩
theorem NG(F:bP K "_law_rows" "_law_rows" tu f fd)(eW:Callee P w K mg base "_law_draw" 2 ["bag","many"] lI)(cL:mg "range"=none)(pR:mg "sorted"=none)(xJ:mg "set"=none)(cD:mg "len"=none):
  bB P w K mg base bM 3 f fd ["bag","k","many"] (iI 3 B0):=by
 refine F.ok mE (fun vs H Q E h=>h.1) (fun cdv A outer s H vs Q E hr h=>?_)
 obtain⟨b,l,ws,nb,ds,Φ,rfl,hB,hlive,hnb,hds,aF,hF⟩:=uV h
 obtain⟨k,many,rfl,k0,k1,m0,m1,q⟩:=hF
 refine⟨_,(@aC _ _ _ _ _ (@aV _ _ (3) _ _ _ _ mE.nd rfl (Or.inl rfl) (@fW _ _ _ _ ak) (by rfl) (by first|exact .inl rfl|exact .inr rfl|assumption)) (@aC _ _ _ _ _ (@aV _ _ (4) _ _ _ _ mE.nd rfl (Or.inl rfl) ao (by rfl) (by first|exact .inl rfl|exact .inr rfl|assumption)) (@aC _ _ _ _ _ (@iS _ _ _ _ _ _ _ _ iH rfl (@lg _ _ _ _ _ _ rfl cL (@aa _ _ _ _ _ (pv 2) ak rfl) (by rfl)) (br (i:=5) mE.nd rfl (Or.inl rfl)) (@aC _ _ _ _ _ (@aV _ _ (6) _ _ _ _ mE.nd rfl (Or.inl rfl) (@nk _ _ _ _ _ _ _ _ kI (@aY _ _ _ _ _ _ _ _ _ _ eW (hr.mono (by decide)) (@aa _ _ _ _ _ (pv 0) (@aa _ _ _ _ _ ao ak rfl) rfl) (by rfl) (by decide) (by rfl) (by rfl)) ao (bW _)) (by rfl) (by first|exact .inl rfl|exact .inr rfl|assumption)) (@aC _ _ _ _ _ (@aV _ _ (7) _ _ _ _ mE.nd rfl (Or.inl rfl) (@cz _ _ _ _ _ _ _ _ (C5 P w) (Nh rfl) rfl pR Ei (@aa _ _ _ _ _ (@iM _ _ _ _ _ _ _ _ (Ca P w K) (P9 rfl) rfl xJ PyProof.Rows.boot_set (@aa _ _ _ _ _ (dH (bS.of (show cW (aJ tu) ["bag","k","many","rows","left","c","broad","row"] _ ["one","bag","k"] [none,some 0,some 1]=true by decide+kernel)) (@lg _ _ _ _ _ _ rfl cL (@aa _ _ _ _ _ (@aY _ _ _ _ _ _ _ _ _ _ eW (hr.mono (by decide)) (@aa _ _ _ _ _ (pv 0) (@aa _ _ _ _ _ ao ak rfl) rfl) (by rfl) (by decide) (by rfl) (by rfl)) ak rfl) (by rfl)) (fun _ _ _ _=>⟨(br (i:=0) (by show List.Nodup (["one","bag","k"]:List Str);decide+kernel) rfl (Or.inl rfl)),eG,(@aY _ _ _ _ _ _ _ _ _ _ eW (hr.mono (by decide)) (@aa _ _ _ _ _ (pv 1) (@aa _ _ _ _ _ (pv 2) ak rfl) rfl) (by rfl) (by decide) (by rfl) (by rfl))⟩)) ak rfl) (by decide) (by decide) (by rfl) (by rfl)) ak rfl) (by decide) (by decide) (by rfl) (by rfl)) (by rfl) (by first|exact .inl rfl|exact .inr rfl|assumption)) (@aC _ _ _ _ _ (@ff _ _ _ _ _ _ _ _ (@lA _ (K) _ _ rfl (pv 6) (fun _=>rfl)) (@aO _ _ _ (Cm (i:=7) mE.nd rfl rfl (bS.of (show cW (aJ tu) ["bag","k","many","rows","left","c","broad","row"] _ ["place","bag"] [none,some 0]=true by decide+kernel)) (@lg _ _ _ _ _ _ rfl cL (@aa _ _ _ _ _ (pv 1) ak rfl) (by rfl)) (fun _ _ _ _=>⟨(br (i:=0) (by show List.Nodup (["place","bag"]:List Str);decide+kernel) rfl (Or.inl rfl)),(oN (@cC _ _ _ _ _ _ _ _ G6 (@aY _ _ _ _ _ _ _ _ _ _ eW (hr.mono (by decide)) (@aa _ _ _ _ _ (pv 1) (@aa _ _ _ _ _ ao ak rfl) rfl) (by rfl) (by decide) (by rfl) (by rfl)) ao (bW _))),(pv 0)⟩))) fJ) (@aC _ _ _ _ _ (@CQ _ _ _ _ (xq xj yU zY uW (pv 3) (@aa _ _ _ _ _ (@sA _ _ _ _ _ _ _ _ _ (nB K) sH (pv 7) sZ (@qA _ _ _ (pv 4))) ak rfl)) (by rfl)) (@aO _ _ _ (@aV _ _ (4) _ _ _ _ mE.nd rfl (Or.inl rfl) (@aM _ _ _ _ _ _ _ _ m8 (pv 4) (@cz _ _ _ _ _ _ _ _ (iV K) kF rfl cD jn (@aa _ _ _ _ _ (@aT _ _ _ _ _ _ (dU K) bY (pv 3) (@xW _ _ _ _ _ _ AI ao) (fun _ _=>rfl)) ak rfl) (by decide) (by decide) (by rfl) (by rfl))) (by rfl) (by first|exact .inl rfl|exact .inr rfl|assumption))))))) (by intro _;rfl)) (@aO _ _ _ (@bz _ _ _ _ (pv 3)))))),?_⟩
 refine Sv.tT hB hlive hnb hds aF (ρ:=[.ay, .d false _, .d false _, .no, .no, .no, .no, .no]) rfl ?_
 clear aF hds
 walk_at "dt"
 intro A3
 walk_at "dt"
 refine Sv.WZ ?_
 walk_at "dt"
 refine⟨fun i ρ=>∃(R:List (List Int)) (L:Int) (f3 f4:Bool) (x5 x6 x7:Sl),R.length=i/\0<=L/\L<=1000/\(∀r∈R,kG k r)/\ρ=[.ay, .d false (.int k), .d false (.int many), .own A3 f3 (R.map aB), .d f4 (.int L),x5,x6,x7],⟨[],1000,_,_,_,_,_,rfl,by omega,by omega,(fun _ h=>nomatch h),rfl⟩,?_,?_⟩
 ·rintro i d ρ ⟨hi,rfl⟩ ⟨R,L,f3,f4,x5,x6,x7,mL,L0,L1,hR,rfl⟩
  have mU:(R.map aB).length=R.length:=aj ..
  refine Gv.iX ?_
  walk_at "dt"
  intro b0 b1 b2
  walk_at "dt"
  refine au.ev (au.K8 (au.ev (au.mF (by decide) rfl ?_)))
  walk_at "dt"
  intro n0 n1 n2
  walk_at "dt"
  refine dZ.ints (fun x=>0<=x/\x<k) ?_ fun os fK hos=>⟨os,rfl,by omega,fun rs DK hmem=>?_⟩
  ·rintro i d ⟨hi,rfl⟩
   walk_at "dt"
   refine⟨by walk_at "wk",?_⟩
   walk_at "dt"
   exact fun r r1 r2=>⟨r,rfl,r1,r2⟩
  have hrs:kG k rs:=by
   have hk:=fun x hx=>hos x ((hmem x).mp hx)
   have:=HZ (m:=k) (DK.imp fun h=>by omega) hk
   exact⟨DK,hk,by omega⟩
  refine Gv.name ?_
  refine Sv.seq ?_
  refine Sv.qY (fun ρ'=>∃(r:List Int) (f6 f7:Bool),kG k r/\ρ'=[.ay, .d false (.int k), .d false (.int many), .own A3 f3 (R.map aB), .d f4 (.int L), .d true (.int (0+(i:Int))), .d f6 (.bool (decide (b0=7))), .d f7 (aB r)]) ?_ ?_
  ·walk_at "dt"
   by_cases c:b0=7
   ·rw[if_pos (by simpa using c)]
    refine Sv.setC ?_
    refine au.ev (au.mF (by decide) rfl ?_)
    walk_at "dt"
    refine⟨true,fun i ds=>∃r:List Int,ds=r.map .int/\r.Pairwise (· < ·)/\(∀x∈r,0<=x/\x<i),⟨[],rfl,List.Pairwise.nil,(fun _ h=>nomatch h)⟩,?_,?_⟩
    ·rintro i d ds ⟨hi,rfl⟩ hl' ⟨r,rfl,h1,h2⟩
     have go:∃r':List Int,r.map PyData.int++[PyData.int (0+(i:Int))]=r'.map .int/\r'.Pairwise (· < ·)/\(∀x∈r',0<=x/\x<((i+1:Nat):Int)):=by
      refine⟨r++[(0+(i:Int))],by rw[cS];rfl,List.pairwise_append.mpr ⟨h1,List.pairwise_singleton _ _,fun x hx y hy=>?_⟩,fun x hx=>?_⟩
      ·rw[aU.mp hy];have:=h2 x hx;omega
      ·rcases ez.mp hx with z|z
       ·have:=h2 x z;omega
       ·rw[aU.mp z];omega
     walk_at "dt"
     refine⟨by walk_at "wk",?_⟩
     walk_at "dt"
     intro y y0 y1
     walk_at "dt"
     by_cases c0:0<y
     ·rw[if_pos (by simpa using c0)]
      walk_at "dt"
      exact go
     ·rw[if_neg (by simpa using c0)]
      exact⟨r,rfl,h1,fun x hx=>by have:=h2 x hx;omega⟩
    ·rintro ds hl' ⟨r,rfl,h1,h2⟩
     have hk:∀x∈r,0<=x/\x<k:=fun x hx=>by have:=h2 x hx;omega
     have:=HZ (m:=k) (h1.imp fun h=>by omega) hk
     exact⟨r,_,_,⟨h1,hk,by omega⟩,rfl⟩
   ·rw[if_neg (by simpa using c)]
    refine Sv.next ?_
    exact⟨rs,_,_,hrs,rfl⟩
  rintro ρ' ⟨r,f6,f7,hr,rfl⟩
  have tZ:gQ (r.map PyData.int) none (some L)=(r.take L.toNat).map .int:=by rw[Pc L0,List.map_take]
  have Uu:kG k (r.take L.toNat):=⟨hr.1.sublist (List.take_sublist ..),fun x hx=>hr.2.1 x (qh hx),by rw[ig];have:=hr.2.2;omega⟩
  refine Sv.seq ?_
  refine Sv.append rfl ?_
  walk_at "dt"
  rw[tZ]
  have hne:(R.map aB++[aB (r.take L.toNat)])=(R++[r.take L.toNat]).map aB:=by rw[cS];rfl
  refine⟨aB (r.take L.toNat),Qp _ _,(r.take L.toNat).map .int, .inl rfl,_,rfl,?_⟩
  have hlt:((r.take L.toNat).map PyData.int).length<=L.toNat:=by rw[aj,ig];omega
  refine Gv.iX ?_
  show∃R L f3 f4 x5 x6 x7,_
  refine⟨R++[r.take L.toNat],L-(((r.take L.toNat).map PyData.int).length:Int),_,_,_,_,_,by rw[fF,mL];rfl,by omega,by omega,fun r' hr'=>?_,by rw[<-hne];rfl⟩
  rcases ez.mp hr' with z|z
  ·exact hR r' z
  ·rw[aU.mp z];exact Uu
 ·rintro ρ ⟨R,L,f3,f4,x5,x6,x7,mL,L0,L1,hR,rfl⟩
  refine Sv.sW 3 rfl ?_
  walk_at "dt"
  exact q _ R (by omega) hR
def Ao:DF:=fun ds Φ=>∃(p a b:Int) (xs ys:List Int),ds=[.int p, .list (xs.map .int), .int a, .list (ys.map .int), .int b]/\0<p/\xs.length=ys.length/\xs.length<=1000/\Sm a/\Sm b/\(∀x∈xs,Sm x)/\(∀y∈ys,Sm y)/\Φ true (.list ((gD p xs a ys b).map .int))
theorem DO:dS Ao:=by
 intro ds Φ Ψ hm z
 obtain⟨p,a,b,xs,ys,e,h1,h2,h3,h4,h5,h6,h7,q⟩:=hm
 exact⟨p,a,b,xs,ys,e,h1,h2,h3,h4,h5,h6,h7,z _ _ q⟩
theorem WN:bX ["p","one","a","other","b"] ["p","one","a","other","b"] (aJ wQ):=⟨rfl,rfl,rfl,by decide+kernel,rfl,by decide+kernel,by decide+kernel⟩
theorem VQ(F:bP K "_law_mixed" "_law_mixed" wQ f fd)(cL:mg "range"=none)(cD:mg "len"=none):
  bB P w K mg base bM 1 f fd ["p","one","a","other","b"] (bF 5 Ao):=by
 refine F.ok WN (fun vs H Q E h=>h.1) (fun cdv A outer s H vs Q E hr h=>?_)
 obtain⟨nb,ds,Φ,hlive,hds,aF,hF⟩:=gn h
 obtain⟨p,a,b,xs,ys,rfl,hp,hl,hl2,ha,hb,hx,hy,q⟩:=hF
 refine⟨_,(@aO _ _ _ (@bz _ _ _ _ (dH (bS.of (show cW (aJ wQ) ["p","one","a","other","b"] _ ["k","p","one","a","other","b"] [none,some 0,some 1,some 2,some 3,some 4]=true by decide+kernel)) (@lg _ _ _ _ _ _ rfl cL (@aa _ _ _ _ _ (@cz _ _ _ _ _ _ _ _ (iV K) kF rfl cD jn (@aa _ _ _ _ _ (pv 1) ak rfl) (by decide) (by decide) (by rfl) (by rfl)) ak rfl) (by rfl)) (fun _ _ _ _=>⟨(br (i:=0) (by show List.Nodup (["k","p","one","a","other","b"]:List Str);decide+kernel) rfl (Or.inl rfl)),eG,(@aM _ _ _ _ _ _ _ _ gM (@aM _ _ _ _ _ _ _ _ fB (@aM _ _ _ _ _ _ _ _ iD (pv 3) (@aT _ _ _ _ _ _ (dU K) bY (pv 2) (pv 0) (fun _ _=>rfl))) (@aM _ _ _ _ _ _ _ _ iD (pv 5) (@aT _ _ _ _ _ _ (dU K) bY (pv 4) (pv 0) (fun _ _=>rfl)))) (pv 1))⟩)))),?_⟩
 refine Sv.gy hlive hds aF (ρ:=[.d false _, .d false _, .d false _, .d false _, .d false _]) rfl ?_
 clear aF hds
 have kD:(xs.map PyData.int).length=xs.length:=aj ..
 walk_at "dt"
 refine au.ev (au.mF (by decide) rfl ?_)
 walk_at "dt"
 refine dZ.rel PyData.int true (fun k r=>∃x y,xs[k]?=some x/\ys[k]?=some y/\r=(a*x+b*y)%p) ?_ fun ns hnl hns=>?_
 ·rintro k d ⟨hk,rfl⟩
  have hk1:k<xs.length:=by omega
  have hk2:k<ys.length:=by omega
  have kk:(0+(k:Int)).toNat=k:=by omega
  have XH:bL (xs.map PyData.int) (0+(k:Int))=some (.int xs[k]):=gK (by omega) (by rw[kk,bx,aD hk1];rfl)
  have XU:bL (ys.map PyData.int) (0+(k:Int))=some (.int ys[k]):=gK (by omega) (by rw[kk,bx,aD hk2];rfl)
  have s1:Sm xs[k]:=hx _ (cV hk1)
  have s2:Sm ys[k]:=hy _ (cV hk2)
  walk_at "dt"
  refine⟨by walk_at "wk",?_⟩
  walk_at "dt"
  exact⟨_,_,aD hk1,aD hk2,rfl⟩
 have e:ns=gD p xs a ys b:=by
  apply iy
  intro k
  unfold gD
  rw[lD]
  by_cases hk:k<ns.length
  ·obtain⟨x,y,e1,e2,e3⟩:=hns k _ (aD hk)
   rw[aD hk,e1,e2,e3]
  ·rw[eO (by omega),eO (by omega)]
 rw[e]
 exact q
def uw(C:Addr):RF:=fun c ds Φ=>∃(x dx:Addr) (fs:Fs) (sp:List Int),c=eZ C x dx fs/\fs.lookup ("spots":Str)=some (.d (aB sp))/\ds=[]/\sp.length<=9000/\Φ true (aB sp)
theorem LZ{C:Addr}:qf (uw C):=by
 intro c ds Φ Ψ h z
 obtain⟨x,dx,fs,sp,e1,e2,e3,h1,q⟩:=h
 exact⟨x,dx,fs,sp,e1,e2,e3,h1,z _ _ q⟩
theorem Sa:bX ["self"] ["self"] (aJ pQ):=⟨rfl,rfl,rfl,by decide+kernel,rfl,by decide+kernel,by decide+kernel⟩
theorem UL(F:bP K "free" "Maker.free" pQ f fd){aW:Addr}(eX:fS K aW)(iA:gf K aW "spots")(cH:mg "list"=none):
  bB P w K mg base bM 1 f fd ["self"] (jl 1 (uw aW)):=by
 refine F.ok Sa (fun vs H Q E h=>h.1) (fun cdv A outer s H vs Q E hr h=>?_)
 obtain⟨nb,c,ws,ds,Φ,rfl,hlive,kC,kW,hds,aF,hF⟩:=Dh h
 obtain⟨x,dx,fs,sp,rfl,hfs,rfl,hl,q⟩:=hF
 refine⟨_,(@aO _ _ _ (@bz _ _ _ _ (@iM _ _ _ _ _ _ _ _ (jT K) l8 rfl cH ie (@aa _ _ _ _ _ (@ny _ _ _ _ _ (pv 0) rfl) ak rfl) (by decide) (by decide) (by rfl) (by rfl)))),?_⟩
 refine Sv.Ar hlive kC kW hds aF (ρ:=[.raw _]) rfl ?_
 clear aF hds
 refine Sv.ret ?_
 refine au.ev (au.listOf ?_)
 refine Ev.nQ rfl (aU.mpr rfl) eX iA hfs .d ?_
 refine⟨_, .inl rfl,?_⟩
 rw[nY]
 exact q
def vR(C:Addr):RF:=fun c ds Φ=>∃(x dx:Addr) (p n:Int) (cs:List aN) (sp:List Int) (ru:List (Int×aN)) (ls:List Int),c=eZ C x dx (vY p n sp ru)/\ds=[aB ls]/\kP p n cs sp ru/\2<=p/\p<10^40/\(1<=n/\n<=400)/\ls.length=sp.length/\(∀x∈ls,0<=x/\x<p)/\Φ true (aB (pO p n sp ru ls))
theorem NR{C:Addr}:qf (vR C):=by
 intro c ds Φ Ψ h z
 obtain⟨x,dx,p,n,cs,sp,ru,ls,e1,e2,h1,h2,h3,h4,h5,h6,q⟩:=h
 exact⟨x,dx,p,n,cs,sp,ru,ls,e1,e2,h1,h2,h3,h4,h5,h6,z _ _ q⟩
theorem pH:bX ["self","letters","word","spot","letter","place","pairs"] ["self","letters"] (aJ pZ):=⟨rfl,rfl,rfl,by decide+kernel,rfl,by decide+kernel,by decide+kernel⟩
theorem L8(F:bP K "made" "Maker.made" pZ f fd){aW:Addr}(eX:fS K aW)(lQ:gf K aW "rules")(l6:gf K aW "n")(iA:gf K aW "spots")(lJ:gf K aW "p")(qV:Callee P w K mg base "total" 1 ["p","pairs","word"] qy)(pV:mg "zip"=none):
  bB P w K mg base bM 2 f fd ["self","letters"] (jl 2 (vR aW)):=by
 refine F.ok pH (fun vs H Q E h=>h.1) (fun cdv A outer s H vs Q E hr h=>?_)
 obtain⟨nb,c,ws,ds,Φ,rfl,hlive,kC,kW,hds,aF,hF⟩:=Dh h
 obtain⟨x,dx,p,n,cs,sp,ru,ls,rfl,rfl,hM,p2,jV,⟨n0,n1⟩,p5,hlr,q⟩:=hF
 refine⟨_,(@aC _ _ _ _ _ (@aV _ _ (2) _ _ _ _ pH.nd rfl (Or.inl rfl) (@aM _ _ _ _ _ _ _ _ DJ (@fW _ _ _ _ (@aa _ _ _ _ _ ao ak rfl)) (@ny _ _ _ _ _ (pv 0) rfl)) (by rfl) (by first|exact .inl rfl|exact .inr rfl|assumption)) (@aC _ _ _ _ _ (@iS _ _ _ _ _ _ _ _ iH rfl (@FI _ (K) _ _ _ _ _ _ _ _ _ rfl rfl pV (@ny _ _ _ _ _ (pv 0) rfl) (pv 1) (by rfl) (by rfl) (by rfl)) (@kM _ (K) _ _ _ (2) _ rfl rfl (@eY _ _ _ _ _ (br (i:=3) pH.nd rfl (Or.inl rfl)) (@eY _ _ _ _ _ (br (i:=4) pH.nd rfl (Or.inl rfl)) jP (by rfl)) (by rfl)) (by rfl) (by rfl)) (@aO _ _ _ (@jq _ _ _ _ _ _ (pv 4) (jg (pv 2) (pv 3) set_list) (by rfl) (by rfl) (by rfl))) (by intro _;rfl)) (@aC _ _ _ _ _ (@iS _ _ _ _ _ _ _ _ iH rfl (dQ (K:=K) rfl (@ny _ _ _ _ _ (pv 0) rfl)) (@kM _ (K) _ _ _ (2) _ rfl rfl (@eY _ _ _ _ _ (br (i:=5) pH.nd rfl (Or.inl rfl)) (@eY _ _ _ _ _ (br (i:=6) pH.nd rfl (Or.inl rfl)) jP (by rfl)) (by rfl)) (by rfl) (by rfl)) (@aO _ _ _ (@jq _ _ _ _ _ _ (@aM _ _ _ _ _ _ _ _ gM (@xW _ _ _ _ _ _ AI (@aY _ _ _ _ _ _ _ _ _ _ qV (hr.mono (by decide)) (@aa _ _ _ _ _ (@ny _ _ _ _ _ (pv 0) rfl) (@aa _ _ _ _ _ (pv 6) (@aa _ _ _ _ _ (pv 2) ak rfl) rfl) rfl) (by rfl) (by decide) (by rfl) (by rfl))) (@ny _ _ _ _ _ (pv 0) rfl)) (jg (pv 2) (pv 5) set_list) (by rfl) (by rfl) (by rfl))) (by intro _;rfl)) (@aO _ _ _ (@bz _ _ _ _ (pv 2)))))),?_⟩
 refine Sv.Ar hlive kC kW hds aF (ρ:=[.raw _, .d false _, .no, .no, .no, .no, .no]) rfl ?_
 clear aF hds
 have Q4:=hM.cnt
 have hsm:(sp.map PyData.int).length=sp.length:=aj ..
 have kD:(ls.map PyData.int).length=ls.length:=aj ..
 have hrm:(ru.map u6).length=ru.length:=aj ..
 have rD:∀w:List Int,aB w=l7 (w.map some):=fun w=>by show PyData.list _=PyData.list _;rw[fO];rfl
 refine Sv.seq ?_
 refine Sv.rX (au.Fc ?_)
 walk_at "dt"
 refine Ev.nQ rfl (aU.mpr rfl) eX l6 rfl .d ?_
 refine⟨n,rfl,by omega,by omega,fun g A2=>?_⟩
 have hz:List.replicate n.toNat (PyData.int 0)=(List.replicate n.toNat (0:Int)).map PyData.int:=by rw[List.map_replicate]
 rw[hz]
 refine Sv.lift 2 rfl (nY _) ?_
 refine Sv.seq ?_
 refine Sv.SO ?_
 refine Ev.nQ rfl (aU.mpr rfl) eX iA rfl .d ?_
 refine⟨_,rfl,nY _,fun v=>?_⟩
 refine Ev.var rfl ?_
 refine⟨_,rfl,nY _,by omega,fun v2=>?_⟩
 refine⟨fun i ρ=>∃(x3 x4:Sl),ρ=[.raw (.ref x), .d false (aB ls), .own A2 true ((putL (List.replicate n.toNat 0) (sp.take i) (ls.take i)).map .int),x3,x4, .no, .no],⟨.no, .no,rfl⟩,?_,?_⟩
 ·rintro i d ρ ⟨e1,e2,h1,h2,rfl⟩ ⟨x3,x4,rfl⟩
  obtain⟨s,hs,rfl⟩:=dj h1
  obtain⟨l,hl,rfl⟩:=dj h2
  have ve:=hM.rg s (bD hs)
  walk_at "dt"
  refine⟨_,_,rfl,AX ve.1 (by rw[aj,vo,jb];omega),?_⟩
  have es:putL (List.replicate n.toNat 0) (sp.take (i+1)) (ls.take (i+1))=(putL (List.replicate n.toNat 0) (sp.take i) (ls.take i)).set s.toNat l:=by
   have g1:=(bI.mp hs).1
   have g2:=(bI.mp hl).1
   unfold putL
   rw[take_snoc hs,take_snoc hl,List.zip_append (by rw[ig,ig];omega),qp]
   rfl
  rw[<-pI,<-es]
  exact⟨_,_,rfl⟩
 rintro ρ ⟨x3,x4,rfl⟩
 rw[hsm,eT,show ls.take sp.length=ls by rw[<-p5,eT]]
 generalize hw0:putL (List.replicate n.toNat 0) sp ls=w0
 have Kw:w0.length=n.toNat:=by rw[<-hw0,vo,jb]
 have Rl:∀x∈w0,0<=x/\x<p:=by
  rw[<-hw0]
  exact zN sp ls _ hlr fun x hx=>by rw[uQ] at hx;omega
 refine Sv.seq ?_
 refine Sv.forL ?_
 refine Ev.nQ rfl (aU.mpr rfl) eX lQ rfl .d ?_
 refine⟨_,rfl,fun v=>?_⟩
 refine⟨fun i ρ=>∃(x3 x4 x5 x6:Sl),ρ=[.raw (.ref x), .d false (aB ls), .own A2 true ((iK p w0 (ru.take i)).map .int),x3,x4,x5,x6],⟨_,_,_,_,rfl⟩,?_,?_⟩
 ·rintro i d ρ hd ⟨x3,x4,x5,x6,rfl⟩
  obtain⟨⟨pl,prs⟩,hq,rfl⟩:=dj hd
  have hil:=(bI.mp hq).1
  obtain⟨g0,g1,g2,g3,g4⟩:=hM.pK _ (bD hq)
  have hI:=Bc hM (by omega) Kw Rl i (by omega)
  have Jk:=hI.len
  generalize hwi:iK p w0 (ru.take i)=wi at hI Jk
  refine Gv.tup rfl ?_
  refine Gv.qb (Gv.iX ?_)
  refine Gv.qb (Gv.jy ?_)
  refine Gv.xC ?_
  refine Sv.qt rfl ?_
  have hh:(false,HD.th (eZ aW x dx (vY p n sp ru)),V.ref x)∈((qW H nb (eZ aW x dx (vY p n sp ru))).hd false (PyData.list (List.map u6 ru)) v).hold:=bJ _ (aU.mpr rfl)
  have aH:∀pr∈prs,0<=pr.1/\pr.1<n:=fun pr hp=>by
   refine hM.rg pr.1 ?_
   rw[<-g3]
   exact jO hp
  refine Ev.rI ?_
  refine Ev.rU ?_
  refine Ev.lend 2 rfl ?_
  refine Ev.total ?_
  refine Av.cons (Ev.nQ rfl hh eX lJ rfl .d ?_)
  walk_at "dt"
  refine⟨p,prs,wi.map some,by show[_,_,aB wi]=_;rw[rD],by omega,fun pr hp=>?_,fun y hy=>?_,?_⟩
  ·have h3:=aH pr hp
   have h4:=g4 pr hp
   refine⟨h3.1,by rw[aj,Jk];omega,by unfold Sm;omega⟩
  ·obtain⟨y',hy',e⟩:=aI.mp hy
   cases e
   have:=hI.rg y hy'
   unfold Sm;omega
  refine⟨rfl,?_⟩
  refine⟨_,rfl,_,rfl,?_⟩
  refine Ev.nQ rfl hh eX lJ rfl .d ?_
  refine⟨_,rfl,by omega,?_⟩
  refine Ev.var rfl ?_
  refine⟨_,_,rfl,AX g0 (by rw[aj];omega),?_⟩
  have es:iK p w0 (ru.take (i+1))=wi.set pl.toNat (-(aL prs (wi.map some)%p)%p):=by
   rw[take_snoc hq,<-hwi]
   unfold iK
   rw[qp]
   rfl
  rw[<-pI]
  exact⟨_,_,_,_,by rw[es];rfl⟩
 ·rintro ρ ⟨x3,x4,x5,x6,rfl⟩
  rw[hrm,eT]
  walk_at "dt"
  rw[<-hw0]
  exact q
def vd(C:Addr):RF:=fun c ds Φ=>∃(x dx:Addr) (fs:Fs) (sp r:List Int),c=eZ C x dx fs/\fs.lookup ("spots":Str)=some (.d (aB sp))/\ds=[aB r]/\sp.length<=9000/\(∀s∈sp,0<=s/\s<r.length)/\Φ true (.list (sp.map fun s=>pairD (s,gI r s.toNat)))
theorem Uo{C:Addr}:qf (vd C):=by
 intro c ds Φ Ψ h z
 obtain⟨x,dx,fs,sp,r,e1,e2,e3,h1,h2,q⟩:=h
 exact⟨x,dx,fs,sp,r,e1,e2,e3,h1,h2,z _ _ q⟩
theorem Pn:bX ["self","row"] ["self","row"] (aJ nL):=⟨rfl,rfl,rfl,by decide+kernel,rfl,by decide+kernel,by decide+kernel⟩
theorem Qc(F:bP K "at_spots" "Maker.at_spots" nL f fd){aW:Addr}(eX:fS K aW)(iA:gf K aW "spots"):
  bB P w K mg base bM 1 f fd ["self","row"] (jl 2 (vd aW)):=by
 refine F.ok Pn (fun vs H Q E h=>h.1) (fun cdv A outer s H vs Q E hr h=>?_)
 obtain⟨nb,c,ws,ds,Φ,rfl,hlive,kC,kW,hds,aF,hF⟩:=Dh h
 obtain⟨x,dx,fs,sp,r,rfl,hfs,rfl,hl,hs,q⟩:=hF
 refine⟨_,(@aO _ _ _ (@bz _ _ _ _ (dH (bS.of (show cW (aJ nL) ["self","row"] _ ["spot","row"] [none,some 1]=true by decide+kernel)) (dQ (K:=K) rfl (@ny _ _ _ _ _ (pv 0) rfl)) (fun _ _ _ _=>⟨(br (i:=0) (by show List.Nodup (["spot","row"]:List Str);decide+kernel) rfl (Or.inl rfl)),eG,(@jL _ _ _ _ _ (@aa _ _ _ _ _ (pv 0) (@aa _ _ _ _ _ (@aT _ _ _ _ _ _ (dU K) bY (pv 1) (pv 0) (fun _ _=>rfl)) ak rfl) rfl))⟩)))),?_⟩
 refine Sv.Ar hlive kC kW hds aF (ρ:=[.raw _, .d false _]) rfl ?_
 clear aF hds
 have hsm:(sp.map PyData.int).length=sp.length:=aj ..
 refine Sv.ret ?_
 refine au.ev (au.gx (by decide) rfl ?_)
 refine Ev.nQ rfl (aU.mpr rfl) eX iA hfs .d ?_
 refine⟨_,rfl,by omega,fun v=>?_⟩
 refine dZ.rel (fun s:Int=>pairD (s,gI r s.toNat)) true (fun i s=>sp[i]?=some s) ?_ fun os fK hos=>?_
 ·rintro i d hd
  obtain⟨s,hsi,rfl⟩:=dj hd
  obtain⟨s0,s1⟩:=hs s (bD hsi)
  have hat:bL (r.map PyData.int) s=some (.int (gI r s.toNat)):=gK s0 (by rw[bx,qZ (show s.toNat<r.length by omega)];rfl)
  refine Gv.iX ?_
  refine⟨by walk_at "wk",?_⟩
  refine Ev.tupS ?_
  walk_at "dt"
  exact⟨fun _=>rfl,s,rfl,hsi⟩
 ·rw[hsm] at fK
  have e:os=sp:=by
   apply iy
   intro i
   by_cases c:i<os.length
   ·rw[aD c,hos i _ (aD c)]
   ·rw[eO (by omega),eO (by omega)]
  rw[e]
  exact q
def qv(C:Addr):CF:=fun c ds Φ=>∃(x dx:Addr) (p n:Int) (cs:List aN),c=eZ C x dx []/\ds=[kc p n cs]/\iR p n cs/\n<=60/\∀(sp:List Int) (ru:List (Int×aN)),kP p n cs sp ru->Φ (eZ C x dx (vY p n sp ru)) true .none
theorem T9{C:Addr}:Gu (qv C):=by
 intro c ds Φ Ψ h z
 obtain⟨x,dx,p,n,cs,e1,e2,h1,h2,q⟩:=h
 exact⟨x,dx,p,n,cs,e1,e2,h1,h2,fun sp ru h=>z _ _ _ (q sp ru h)⟩
theorem AM:bX ["self","net","found","told"] ["self","net"] (aJ lH):=⟨rfl,rfl,rfl,by decide+kernel,rfl,by decide+kernel,by decide+kernel⟩
theorem M5(F:bP K "__init__" "Maker.__init__" lH f fd){aW:Addr}(eX:fS K aW)(lJ:gf K aW "p")(l6:gf K aW "n")(iA:gf K aW "spots")(lQ:gf K aW "rules")(Ua:mW P w K mg base aW "at_spots" 1 ["self","row"] (jl 2 (vd aW)))(Dw:Callee P w K mg base "swept_all" 5 ["net"] (bF 1 wH))(A6:mg "dict"=none)(cL:mg "range"=none)(pR:mg "sorted"=none):
  bB P w K mg base bM 6 f fd ["self","net"] (tB 2 (qv aW)):=by
 refine F.ok AM (fun vs H Q E h=>h.1) (fun cdv A outer s H vs Q E hr h=>?_)
 obtain⟨_,nb,c,ws,ds,rfl,hlive,kC,hcf,kW,hds,hF⟩:=h
 obtain⟨Φ,aF,hF⟩:∃Φ:Cu->Pd,(∀c' f d v H',Φ c' f d->By c c' H H'->c'.P (fun a=>nb a\/a∈c'.F) H'->ai (fun a=>nb a\/a∈c'.F\/(f=true/\H a≠none)) H' d v->Q v H')/\qv aW c ds Φ:=⟨_,fun c' f d v H' q=>q v H',hF⟩
 obtain⟨x,dx,p,n,cs,rfl,rfl,hN,Xn,q⟩:=hF
 refine⟨_,(@aC _ _ _ _ _ (@aV _ _ (2) _ _ _ _ AM.nd rfl (Or.inr rfl) (@aY _ _ _ _ _ _ _ _ _ _ Dw (hr.mono (by decide)) (@aa _ _ _ _ _ (pv 1) ak rfl) (by rfl) (by decide) (by rfl) (by rfl)) (by rfl) (by first|exact .inl rfl|exact .inr rfl|assumption)) (@aC _ _ _ _ _ (@aV _ _ (3) _ _ _ _ AM.nd rfl (Or.inr rfl) (@iM _ _ _ _ _ _ _ _ (AH) (Tu rfl) rfl A6 PyProof.Rows.boot_dict (@aa _ _ _ _ _ (@OH _ _ _ (dH (bS.of (show cW (aJ lH) ["self","net","found","told"] _ ["k","place","found"] [none,none,some 2]=true by decide+kernel)) (@LD _ _ _ _ _ _ (EU PySem.F.plainAttrs_dict Ji PySem.F.type_dict_items Vq (@aT _ _ _ _ _ _ (dD K) dN (pv 2) ao (fun _ _=>rfl)))) (fun _ _ _ _=>⟨(@kM _ (K) _ _ _ (2) _ rfl rfl (@eY _ _ _ _ _ (br (i:=0) (by show List.Nodup (["k","place","found"]:List Str);decide+kernel) rfl (Or.inl rfl)) (@eY _ _ _ _ _ (br (i:=1) (by show List.Nodup (["k","place","found"]:List Str);decide+kernel) rfl (Or.inl rfl)) jP (by rfl)) (by rfl)) (by rfl) (by rfl)),eG,(@jL _ _ _ _ _ (@aa _ _ _ _ _ (pv 1) (@aa _ _ _ _ _ (@aT _ _ _ _ _ _ (dU K) bY (@aT _ _ _ _ _ _ (dD K) dN (pv 2) ao (fun _ _=>rfl)) (pv 0) (fun _ _=>rfl)) ak rfl) rfl))⟩))) ak rfl) (by decide) (by decide) (by rfl) (by rfl)) (by rfl) (by first|exact .inl rfl|exact .inr rfl|assumption)) (@aC _ _ _ _ _ (@vq _ _ _ _ _ _ _ _ (pv 0) (@aT _ _ _ _ _ _ (dD K) dN (pv 1) ao (fun _ _=>rfl)) rfl) (@aC _ _ _ _ _ (@vq _ _ _ _ _ _ _ _ (pv 0) (@aT _ _ _ _ _ _ (dD K) dN (pv 1) ao (fun _ _=>rfl)) rfl) (@aC _ _ _ _ _ (@vq _ _ _ _ _ _ _ _ (pv 0) (dH (bS.of (show cW (aJ lH) ["self","net","found","told"] _ ["place","told"] [none,some 3]=true by decide+kernel)) (@lg _ _ _ _ _ _ rfl cL (@aa _ _ _ _ _ (@aT _ _ _ _ _ _ (dD K) dN (pv 1) ao (fun _ _=>rfl)) ak rfl) (by rfl)) (fun _ _ _ _=>⟨(br (i:=0) (by show List.Nodup (["place","told"]:List Str);decide+kernel) rfl (Or.inl rfl)),(oN (@cC _ _ _ _ _ _ _ _ (Ek hr.units) (pv 0) (pv 1) (by with_unfolding_all rfl))),(pv 0)⟩)) rfl) (@aO _ _ _ (@vq _ _ _ _ _ _ _ _ (pv 0) (dH (bS.of (show cW (aJ lH) ["self","net","found","told"] _ ["place","self","told"] [none,some 0,some 3]=true by decide+kernel)) (dQ (K:=K) rfl (@cz _ _ _ _ _ _ _ _ (yf) (OI rfl) rfl pR Ei (@aa _ _ _ _ _ (pv 3) ak rfl) (by decide) (by decide) (by rfl) (by rfl))) (fun _ _ _ _=>⟨(br (i:=0) (by show List.Nodup (["place","self","told"]:List Str);decide+kernel) rfl (Or.inl rfl)),eG,(@jL _ _ _ _ _ (@aa _ _ _ _ _ (pv 0) (@aa _ _ _ _ _ (@JW _ _ _ _ _ _ _ _ _ _ _ _ _ _ Ua (pv 1) (hr.mono (by decide)) (@aa _ _ _ _ _ (@aT _ _ _ _ _ _ (wI) QZ (pv 2) (pv 0) (fun _ _=>rfl)) ak rfl) (by rfl) (by rfl) (by rfl)) ak rfl) rfl))⟩)) rfl))))))),?_⟩
 refine Sv.OA hlive kC hcf kW hds aF (ρ:=[.cu _, .d false _, .no, .no]) rfl ?_
 clear aF hds
 have p2:=hN.hp.1
 have n0:=hN.n0
 have hcl:=hN.cl
 walk_at "dt"
 refine Ev.dw Jf ?_
 walk_at "dt"
 refine⟨rfl,p,n,cs,rfl,hN,fun f1 R T hS hL lZ=>?_⟩
 refine Gv.jy ?_
 refine Sv.seq ?_
 refine Sv.Et (nI.RU ?_)
 refine au.ev (au.KH (by decide) rfl (fun _ _ _ z=>nomatch z) ?_)
 walk_at "dt"
 refine⟨fM T,rfl,by unfold fM;rw[aj];omega,fun G'=>?_⟩
 have mL:R.length=cs.length:=by rw[hS.len,wJ]
 have mU:(R.map aB).length=R.length:=aj ..
 have jX:List.length (fM T)=T.length:=by unfold fM;rw[aj]
 refine dZ.rel (fun q:Nat×Nat=>yH ((q.2:Int),aB (R.getD q.1 []))) false (fun i q=>T[i]?=some q) ?_ fun os fK hos=>?_
 ·rintro i d ⟨pp,hp,rfl⟩
  unfold fM at hp
  rw[bx] at hp
  obtain⟨q,Ko,hp⟩:=kj.mp hp
  subst hp
  have tF:=(hS.rg q (bD Ko)).1
  have hat:bL (R.map aB) (q.1:Int)=some (aB (R.getD q.1 [])):=gK (by omega) (by rw[bx,kO,aD tF,iZ tF];rfl)
  refine Gv.tup rfl ?_
  refine Gv.qb (Gv.iX ?_)
  refine Gv.qb (Gv.iX ?_)
  refine Gv.xC ?_
  refine⟨by walk_at "wk",?_⟩
  walk_at "dt"
  exact⟨fun z=>(by cases z),q,rfl,Ko⟩
 have zS:os=T:=by
  rw[jX] at fK
  apply iy
  intro i
  by_cases c:i<os.length
  ·rw[aD c,hos i _ (aD c)]
  ·rw[eO (by omega),eO (by omega)]
 subst zS
 refine⟨gW R os,by unfold gW;rw[fO];rfl,by unfold gW;rw[aj];omega,?_⟩
 rw[Oq (EL hS)]
 intro A3
 refine Sv.DL 3 rfl ?_
 generalize Nl:(false||_:Bool)=f3
 clear Nl
 refine Sv.seq ?_
 refine Sv.uT rfl eX lJ (.inl rfl) (qj rfl) ?_
 walk_at "dt"
 refine Sv.uT rfl eX l6 (.inl rfl) (qj rfl) ?_
 walk_at "dt"
 refine Sv.uT rfl eX iA (.inl rfl) (qj rfl) ?_
 refine au.ev (au.mF (by decide) rfl ?_)
 walk_at "dt"
 refine⟨true,fun i ds=>ds=((fj i os).map fun(s:Nat)=>(s:Int)).map PyData.int,rfl,?_,?_⟩
 ·rintro i d ds ⟨hi,rfl⟩ hl' rfl
  have nF:=S7 (R:=R) (T:=os) i
  have es:fj (i+1) os=fj i os++if i∈os.map (·.2) then[] else[i]:=by
   unfold fj
   rw[List.range_succ,List.filter_append]
   congr 1
   by_cases c:i∈os.map (·.2)
   ·rw[if_pos c,List.filter_cons_of_neg (by simpa using c)];rfl
   ·rw[if_neg c,List.filter_cons_of_pos (by simpa using c)];rfl
  refine Gv.iX ?_
  refine⟨by walk_at "wk",?_⟩
  refine Tv.test ?_
  refine Ev.JQ ?_
  walk_at "dt"
  refine⟨gW R os,rfl,_,rfl,?_⟩
  rw[vD,nF]
  by_cases c:i∈os.map (·.2)
  ·rw[if_neg (by simpa using c)]
   rw[if_pos c,j8] at es
   rw[es]
  ·rw[if_pos (by simpa using c)]
   rw[if_neg c] at es
   walk_at "dt"
   show _=List.map PyData.int (List.map (fun(s:Nat)=>(s:Int)) (fj (i+1) os))
   rw[es,cS,cS]
   rfl
 rintro ds hl' rfl
 generalize Bl:fj n.toNat os=spn
 have hsl:spn.length<=n.toNat:=by rw[<-Bl];unfold fj;exact dB (List.length_filter_le ..) (by rw[gG];exact aS _)
 refine Sv.uT rfl eX lQ (.inl rfl) (qj rfl) ?_
 refine au.ev (au.gx (by decide) rfl ?_)
 refine au.ev (au.Qs ?_)
 walk_at "dt"
 have Jy:List.length (gW R os)<=n.toNat:=by
  unfold gW
  rw[aj,<-aj (f:=fun q:Nat×Nat=>q.2)]
  have:=vQ hS.qu (l₂:=List.range n.toNat) fun j hj=>by
   obtain⟨q,hq,rfl⟩:=aI.mp hj
   exact(hS.rg q hq).2
  rwa[gG] at this
 refine⟨gW R os,rfl,by omega,fun rs Xj uX=>?_⟩
 rw[Aq] at uX
 have X4:rs.length=os.length:=by rw[uX.length_eq,aj]
 have Yb:os.length<=n.toNat:=by unfold gW at Jy;rwa[aj] at Jy
 have OV:(rs.map PyData.int).length=rs.length:=aj ..
 refine⟨_,rfl,by omega,fun v=>?_⟩
 refine dZ.rel u6 true (fun i u=>∃q∈os,rs[i]?=some (q.2:Int)/\u=lX R os spn q.2) ?_ fun us VD xF=>?_
 ·rintro i d hd
  obtain⟨s,hsi,rfl⟩:=dj hd
  obtain⟨q,hq,rfl⟩:=aI.mp (uX.mem_iff.mp (bD hsi))
  have tF:=(hS.rg q hq).1
  have iJ:bf p (n.toNat+cs.length) (R.getD q.1 []):=by rw[iZ tF];exact hS.ok _ (cV _)
  have hrl:=iJ.len
  refine Gv.iX ?_
  refine⟨by walk_at "wk",?_⟩
  refine Ev.tup ?_
  refine Av.cons (Ev.var rfl ?_)
  refine Av.cons ?_
  refine Ev.CA Uo rfl rfl (eZ.is rfl) ?_
  refine jD.cons ?_
  refine Ev.LH ?_
  walk_at "dt"
  refine⟨gW R os,rfl,?_⟩
  walk_at "dt"
  refine⟨_,K1 hS hq,?_⟩
  refine jD.nil ?_
  refine⟨rfl,x,dx,_,spn.map fun(s:Nat)=>(s:Int),R.getD q.1 [],rfl,rfl,rfl,by rw[aj];omega,fun s hs=>?_, .inl rfl,?_⟩
  ·obtain⟨k,hk,rfl⟩:=aI.mp hs
   rw[<-Bl] at hk
   have:=dI.mp (jm.mp hk).1
   omega
  walk_at "dt"
  refine⟨fun _=>rfl,lX R os spn q.2,?_,q,hq,hsi,rfl⟩
  rw[uD hS hq]
  show PyData.tuple [_,PyData.list _]=PyData.tuple [_,PyData.list _]
  rw[fO,fO]
  rfl
 have LV:us=(rs.map Int.toNat).map (lX R os spn):=by
  rw[OV] at VD
  apply iy
  intro i
  by_cases c:i<us.length
  ·obtain⟨q,hq,h1,h2⟩:=xF i _ (aD c)
   rw[aD c,h2,bx,bx,h1]
   rfl
  ·rw[eO (by omega),eO (by rw[aj,aj];omega)]
 have hP:(rs.map Int.toNat).Perm (os.map (·.2)):=by
  have:=uX.map Int.toNat
  rwa[fO,show(os.map ((Int.toNat)∘fun q:Nat×Nat=>((q.2:Nat):Int)))=os.map (·.2) from mH fun q _=>kO _] at this
 have hM:=kP.of hN hS hP
 rw[Bl,<-LV] at hM
 exact⟨_,rfl,⟨rfl,rfl,fun a m=>m⟩,q _ _ hM⟩
def Cp:DF:=fun ds Φ=>∃(p k:Int) (rows:List (List Int)),ds=[.int p, .int k, .list (rows.map aB)]/\gJ p/\p<10^40/\1<=k/\k<=25/\rows.length<=25/\(∀r∈rows,kG k r)/\Φ true (.bool true)
theorem L4:dS Cp:=by
 intro ds Φ Ψ hm z
 obtain⟨p,k,rows,e,h1,h2,h3,h4,h5,h6,q⟩:=hm
 exact⟨p,k,rows,e,h1,h2,h3,h4,h5,h6,z _ _ q⟩
theorem oX:bX ["bag","p","k","rows","net","maker","there","letters","word"] ["bag","p","k","rows"] (aJ nH):=⟨rfl,rfl,rfl,by decide+kernel,rfl,by decide+kernel,by decide+kernel⟩
theorem Uq(F:bP K "_law_made" "_law_made" nH f fd){aW:Addr}(Qi:mW P w K mg base aW "free" 1 ["self"] (jl 1 (uw aW)))(Ut:mW P w K mg base aW "made" 2 ["self","letters"] (jl 2 (vR aW)))(S8:yR P w K mg base aW "Maker" 6 ["self","net"] (tB 2 (qv aW)))(rP:Callee P w K mg base "staired" 2 ["p","k","rows"] (bF 3 q9))(sG:Callee P w K mg base "_law_alike" 5 ["found","due"] (bF 2 (oJ 5)))(eW:Callee P w K mg base "_law_draw" 2 ["bag","many"] lI)(rF:Callee P w K mg base "laid" 3 ["p","k","rows","letters"] (bF 4 uS))(Vd:Callee P w K mg base "rank" 6 ["net"] (bF 1 CJ))(Ku:Callee P w K mg base "_law_is_true" 2 ["net","word"] (bF 2 Co))(cH:mg "list"=none)(c7:mg "isinstance"=none)(cD:mg "len"=none):
  bB P w K mg base bM 8 f fd ["bag","p","k","rows"] (iI 4 Cp):=by
 refine F.ok oX (fun vs H Q E h=>h.1) (fun cdv A outer s H vs Q E hr h=>?_)
 obtain⟨b,l,ws,nb,ds,Φ,rfl,hB,hlive,hnb,hds,aF,hF⟩:=uV h
 obtain⟨p,k,rows,rfl,hp,g9,k0,k1,hl,hR,q⟩:=hF
 refine⟨_,(@aC _ _ _ _ _ (@aV _ _ (4) _ _ _ _ oX.nd rfl (Or.inl rfl) (@aY _ _ _ _ _ _ _ _ _ _ rP (hr.mono (by decide)) (@aa _ _ _ _ _ (pv 1) (@aa _ _ _ _ _ (pv 2) (@aa _ _ _ _ _ (dH (bS.of (show cW (aJ nH) ["bag","p","k","rows","net","maker","there","letters","word"] _ ["row"] [none]=true by decide+kernel)) (dQ (K:=K) rfl (pv 3)) (fun _ _ _ _=>⟨(br (i:=0) (by show List.Nodup (["row"]:List Str);decide+kernel) rfl (Or.inl rfl)),eG,(@iM _ _ _ _ _ _ _ _ (jT K) l8 rfl cH ie (@aa _ _ _ _ _ (pv 0) ak rfl) (by decide) (by decide) (by rfl) (by rfl))⟩)) ak rfl) rfl) rfl) (by rfl) (by decide) (by rfl) (by rfl)) (by rfl) (by first|exact .inl rfl|exact .inr rfl|assumption)) (@aC _ _ _ _ _ (@aV _ _ (5) _ _ _ _ oX.nd rfl (Or.inl rfl) (@Rv _ _ _ _ _ _ _ _ _ _ _ S8 (hr.mono (by decide)) (@aa _ _ _ _ _ (pv 4) ak rfl) (by rfl) (by decide) (by rfl) (by rfl)) (by rfl) (by first|exact .inl rfl|exact .inr rfl|assumption)) (@aC _ _ _ _ _ (@aV _ _ (6) _ _ _ _ oX.nd rfl (Or.inl rfl) (@V0 _ _ _ _ _ _ _ _ _ _ _ Qi (pv 5) (hr.mono (by decide)) (by rfl)) (by rfl) (by first|exact .inl rfl|exact .inr rfl|assumption)) (@aC _ _ _ _ _ (@ff _ _ _ _ _ _ _ _ (PW.pt (kQ (@nu _ _ _ _ (@lA _ (K) _ _ rfl (@cz _ _ _ _ _ _ _ _ (gE K) jc rfl c7 ia (@aa _ _ _ _ _ (pv 6) (@aa _ _ _ _ _ (gv (v:= .ty "list") rfl cH ie rfl) ak rfl) rfl) (by decide) (by decide) (by rfl) (by rfl)) (fun _=>rfl))) (kQ (@cC _ _ _ _ _ _ _ _ jB (@cz _ _ _ _ _ _ _ _ (iV K) kF rfl cD jn (@aa _ _ _ _ _ (pv 6) ak rfl) (by decide) (by decide) (by rfl) (by rfl)) (pv 2) (bW _)) (mV (@cC _ _ _ _ _ _ _ _ jB (@aY _ _ _ _ _ _ _ _ _ _ Vd (hr.mono (by decide)) (@aa _ _ _ _ _ (pv 4) ak rfl) (by rfl) (by decide) (by rfl) (by rfl)) (@cz _ _ _ _ _ _ _ _ (iV K) kF rfl cD jn (@aa _ _ _ _ _ (pv 3) ak rfl) (by decide) (by decide) (by rfl) (by rfl)) (bW _)))))) (@aO _ _ _ (@bz _ _ _ _ j4)) fJ) (@aC _ _ _ _ _ (Cm (i:=7) oX.nd rfl rfl (bS.of (show cW (aJ nH) ["bag","p","k","rows","net","maker","there","letters","word"] _ ["place","bag","p"] [none,some 0,some 1]=true by decide+kernel)) (dQ (K:=K) rfl (pv 6)) (fun _ _ _ _=>⟨(br (i:=0) (by show List.Nodup (["place","bag","p"]:List Str);decide+kernel) rfl (Or.inl rfl)),eG,(@aY _ _ _ _ _ _ _ _ _ _ eW (hr.mono (by decide)) (@aa _ _ _ _ _ (pv 1) (@aa _ _ _ _ _ (pv 2) ak rfl) rfl) (by rfl) (by decide) (by rfl) (by rfl))⟩)) (@aC _ _ _ _ _ (@aV _ _ (8) _ _ _ _ oX.nd rfl (Or.inr rfl) (@JW _ _ _ _ _ _ _ _ _ _ _ _ _ _ Ut (pv 5) (hr.mono (by decide)) (@aa _ _ _ _ _ (pv 7) ak rfl) (by rfl) (by rfl) (by rfl)) (by rfl) (by first|exact .inl rfl|exact .inr rfl|assumption)) (@aC _ _ _ _ _ (@ff _ _ _ _ _ _ _ _ (PW.pt (kQ (@nu _ _ _ _ (@lA _ (K) _ _ rfl (@aY _ _ _ _ _ _ _ _ _ _ Ku (hr.mono (by decide)) (@aa _ _ _ _ _ (pv 4) (@aa _ _ _ _ _ (pv 8) ak rfl) rfl) (by rfl) (by decide) (by rfl) (by rfl)) (fun _=>rfl))) (mV (@cC _ _ _ _ _ _ _ _ (BK hr.units) (dH (bS.of (show cW (aJ nH) ["bag","p","k","rows","net","maker","there","letters","word"] _ ["place","word"] [none,some 8]=true by decide+kernel)) (dQ (K:=K) rfl (pv 6)) (fun _ _ _ _=>⟨(br (i:=0) (by show List.Nodup (["place","word"]:List Str);decide+kernel) rfl (Or.inl rfl)),eG,(@aT _ _ _ _ _ _ (dU K) bY (pv 1) (pv 0) (fun _ _=>rfl))⟩)) (pv 7) (bW _))))) (@aO _ _ _ (@bz _ _ _ _ j4)) fJ) (@aO _ _ _ (@bz _ _ _ _ (@aY _ _ _ _ _ _ _ _ _ _ sG (hr.mono (by decide)) (@aa _ _ _ _ _ (@aY _ _ _ _ _ _ _ _ _ _ rF (hr.mono (by decide)) (@aa _ _ _ _ _ (pv 1) (@aa _ _ _ _ _ (pv 2) (@aa _ _ _ _ _ (dH (bS.of (show cW (aJ nH) ["bag","p","k","rows","net","maker","there","letters","word"] _ ["row"] [none]=true by decide+kernel)) (dQ (K:=K) rfl (pv 3)) (fun _ _ _ _=>⟨(br (i:=0) (by show List.Nodup (["row"]:List Str);decide+kernel) rfl (Or.inl rfl)),eG,(@iM _ _ _ _ _ _ _ _ (jT K) l8 rfl cH ie (@aa _ _ _ _ _ (pv 0) ak rfl) (by decide) (by decide) (by rfl) (by rfl))⟩)) (@aa _ _ _ _ _ (@sA _ _ _ _ _ _ _ _ _ (nB K) sH (pv 8) sZ (@qA _ _ _ (pv 2))) ak rfl) rfl) rfl) rfl) (by rfl) (by decide) (by rfl) (by rfl)) (@aa _ _ _ _ _ (pv 8) ak rfl) rfl) (by rfl) (by decide) (by rfl) (by rfl))))))))))),?_⟩
 refine Sv.tT hB hlive hnb hds aF (ρ:=[.ay, .d false _, .d false _, .d false _, .no, .no, .no, .no, .no]) rfl ?_
 clear aF hds
 have p2:=hp.1
 obtain⟨kn,rfl⟩:∃kn:Nat,k=(kn:Int):=⟨k.toNat,by omega⟩
 have hX:∀ls:List Int,ls.length=kn->(∀x∈ls,0<=x/\x<p)->c8 p ls rows:=fun ls h1 h2=>⟨hp,g9,by omega,by omega,h2,by omega,fun r hr=>by rw[h1];exact hR r hr⟩
 have Hv:=hX (List.replicate kn 0) (jb) fun x hx=>by rw[uQ] at hx;omega
 have hN:=Hv.Bu
 have yg:=Hv.rank
 rw[jb] at hN yg
 have kD:(rows.map aB).length=rows.length:=aj ..
 refine Sv.seq ?_
 refine Sv.asg ?_
 refine Ev.dw zU ?_
 walk_at "dt"
 refine au.ev (au.gx (by decide) rfl ?_)
 walk_at "dt"
 refine fun v=>⟨false,fun i ds=>ds=(rows.take i).map aB,rfl,?_,?_⟩
 ·rintro i d ds hd hl' rfl
  obtain⟨r,hr,rfl⟩:=dj hd
  walk_at "dt"
  refine⟨by walk_at "wk",?_⟩
  walk_at "dt"
  refine⟨fun z=>(by cases z),?_⟩
  show _=List.map aB (rows.take (i+1))
  rw[take_snoc hr,cS]
  rfl
 rintro ds hl' rfl
 rw[kD,eT]
 walk_at "dt"
 refine⟨rfl,p,kn,rows,rfl,by omega,fun r hr=>by have:=(hR r hr).2.2;omega,?_⟩
 refine Gv.jy ?_
 refine Sv.seq ?_
 refine Sv.make T9 ?_
 walk_at "dt"
 refine⟨rfl,fun x dx=>⟨x,dx,p,_,_,rfl,rfl,hN,by omega,fun sp ru hM=>⟨rfl,?_⟩⟩⟩
 have Q4:=hM.cnt
 have hrr:=hM.rank.uniq yg p2
 have Xy:sp.length=kn:=by omega
 have hsm:(sp.map PyData.int).length=sp.length:=aj ..
 refine Sv.seq ?_
 refine Sv.asg ?_
 refine Ev.CA LZ rfl rfl (eZ.is rfl) ?_
 refine jD.nil ?_
 refine⟨rfl,x,dx,_,sp,rfl,rfl,rfl,by omega, .inl rfl,?_⟩
 refine Gv.name ?_
 refine Sv.seq ?_
 refine Sv.oG ?_
 walk_at "dt"
 refine Ev.dw M4 ?_
 walk_at "dt"
 refine⟨rfl,p,_,_,rfl,hN,fun kk hkk=>?_⟩
 have Rf:=hkk.uniq yg p2
 subst Rf
 walk_at "dt"
 refine au.ev (au.gx (by decide) rfl ?_)
 walk_at "dt"
 refine fun v=>?_
 refine dZ.ints (fun x=>0<=x/\x<p) ?_ fun ls fK hls=>?_
 ·rintro i d hd
  obtain⟨s,hs,rfl⟩:=dj hd
  walk_at "dt"
  refine⟨by walk_at "wk",?_⟩
  walk_at "dt"
  intro r r0 r1
  exact⟨r,rfl,r0,r1⟩
 rw[hsm] at fK
 obtain⟨m1,m2,m3⟩:=hM.made p2 fK hls
 refine Sv.seq ?_
 refine Sv.asg ?_
 refine Ev.CA NR rfl rfl (eZ.is rfl) ?_
 refine jD.cons (Ev.var rfl ?_)
 refine jD.nil ?_
 refine⟨rfl,x,dx,p,_,_,sp,ru,ls,rfl,rfl,hM,p2,g9,⟨by omega,by omega⟩,fK,hls, .inl rfl,?_⟩
 generalize pO p _ sp ru ls=wd at m1 m2 m3
 refine Gv.name ?_
 have hwl:=m1.len
 have FO:(wd.map PyData.int).length=wd.length:=aj ..
 refine Sv.seq ?_
 refine Sv.oG ?_
 refine Tv.or ?_
 walk_at "dt"
 refine Ev.dw WR ?_
 walk_at "dt"
 refine⟨rfl,p,_,_,wd,rfl,hN,m1,m2,?_⟩
 walk_at "dt"
 refine au.ev (au.gx (by decide) rfl ?_)
 walk_at "dt"
 refine fun v=>?_
 refine dZ.rel PyData.int true (fun i y=>ls[i]?=some y) ?_ fun os hos Q2=>?_
 ·rintro i d hd
  obtain⟨s,hs,rfl⟩:=dj hd
  have hil:=(bI.mp hs).1
  have hli:ls[i]?=some ls[i]:=aD (by omega)
  have h3:=m3 i s _ hs hli
  have ve:=hM.rg s (bD hs)
  have hat:bL (wd.map PyData.int) s=some (.int (gI wd s.toNat)):=gK ve.1 (by rw[bx,qZ (by omega)];rfl)
  rw[h3] at hat
  walk_at "dt"
  refine⟨by walk_at "wk",?_⟩
  walk_at "dt"
  exact hli
 have zS:os=ls:=by
  rw[hsm] at hos
  apply iy
  intro j
  by_cases cj:j<os.length
  ·rw[aD cj,Q2 j _ (aD cj)]
  ·rw[eO (by omega),eO (by omega)]
 subst zS
 walk_at "dt"
 refine⟨shaped_ints _,shaped_ints _,_,rfl,?_⟩
 rw[Lm,decide_eq_true rfl,if_neg (by decide)]
 walk_at "dt"
 have DZ:=hX (wd.take kn) (by rw[ig];omega) fun x hx=>m1.rg x (qh hx)
 have jX:(wd.take kn).length=kn:=by rw[ig];omega
 have Te:wd=aZ p (wd.take kn) rows rows.length:=DZ.uniq (w:=wd) (by rw[jX];rw[show kn+rows.length=((kn:Int)+rows.length).toNat by omega];exact m1) (by rw[jX];exact m2) fun i hi=>by rw[jX] at hi;rw[Cd hi]
 have Dc:gQ (wd.map PyData.int) none (some (kn:Int))=(wd.take kn).map PyData.int:=by rw[GN (by omega) (by rw[FO];omega),kO,List.map_take]
 refine Ev.dw (vB 5) ?_
 walk_at "dt"
 refine Ev.dw wA ?_
 walk_at "dt"
 refine au.ev (au.gx (by decide) rfl ?_)
 walk_at "dt"
 refine fun v=>⟨false,fun i ds=>ds=(rows.take i).map aB,rfl,?_,?_⟩
 ·rintro i d ds hd hl' rfl
  obtain⟨r,hr,rfl⟩:=dj hd
  walk_at "dt"
  refine⟨by walk_at "wk",?_⟩
  walk_at "dt"
  refine⟨fun z=>(by cases z),?_⟩
  show _=List.map aB (rows.take (i+1))
  rw[take_snoc hr,cS]
  rfl
 rintro ds hl' rfl
 rw[kD,eT]
 walk_at "dt"
 rw[Dc]
 refine⟨rfl,p,wd.take kn,rows,by rw[jX];rfl,DZ,?_⟩
 rw[<-Te]
 walk_at "dt"
 refine⟨rfl,aB wd,rfl, .inr ⟨_, .inl rfl,by omega,fun e he=>?_⟩,?_⟩
 ·obtain⟨y,_,rfl⟩:=aI.mp he
  exact .inl rfl
 exact q
theorem zg(R:List (List Int))(w:List Int):SeqAt.shaped (.tuple [.list (R.map aB),aB w])=true:=by
  have h1:PyData.depthAll (R.map aB)<=1/\PyData.canLayAll0 (R.map aB)=true:=by
    induction R with
    |nil=>exact⟨eU _,rfl⟩
    | cons r R ih =>
      have hr:=uq (r.map some)
      rw[fO] at hr
      have hr:PyData.depthAll (r.map PyData.int)=0/\PyData.canLayAll0 (r.map PyData.int)=true:=hr
      simp[PyData.depthAll,PyData.canLayAll0,PyData.depth,PyData.canLay0,hr.1,hr.2,ih.2]
      omega
  have hr:=uq (w.map some)
  rw[fO] at hr
  have hr:PyData.depthAll (w.map PyData.int)=0/\PyData.canLayAll0 (w.map PyData.int)=true:=hr
  unfold SeqAt.shaped
  simp[PyData.canLay0,PyData.canLayAll0,PyData.depth,PyData.depthAll,h1.2,hr.2,hr.1]
  have:=h1.1
  omega
theorem gz:bX ["script","bag","great","p","k","a","b","one","other","rows","handed","word","more","both","at","bad","found"] ["script"] (aJ jN):=⟨rfl,rfl,rfl,by decide+kernel,rfl,by decide+kernel,by decide+kernel⟩
theorem Uj(F:bP K "law" "law" jN f fd)(PK:Callee P w K mg base "_law_bag" 1 ["script"] (DM K))(KO:Callee P w K mg base "_law_prime" 3 ["bag"] (iI 1 z6))(eW:Callee P w K mg base "_law_draw" 2 ["bag","many"] lI)(Gs:Callee P w K mg base "_law_letters" 3 ["bag","p","n"] (iI 3 zk))(Td:Callee P w K mg base "_law_rows" 3 ["bag","k","many"] (iI 3 B0))(rF:Callee P w K mg base "laid" 3 ["p","k","rows","letters"] (bF 4 uS))(V9:Callee P w K mg base "is_true" 4 ["net","word"] (bF 2 Bf))(VM:Callee P w K mg base "_law_made" 8 ["bag","p","k","rows"] (iI 4 Cp))(Gz:Callee P w K mg base "_law_mixed" 1 ["p","one","a","other","b"] (bF 5 Ao))(rP:Callee P w K mg base "staired" 2 ["p","k","rows"] (bF 3 q9))(sG:Callee P w K mg base "_law_alike" 5 ["found","due"] (bF 2 (oJ 5)))(cH:mg "list"=none)(c7:mg "isinstance"=none)(iw:mg "bool"=none):
  bB P w K mg base bM 9 f fd ["script"] (vA K):=by
 refine F.ok gz (fun vs H Q E h=>?_) (fun cdv A outer s H vs Q E hr h=>?_)
 ·obtain⟨a,ns,rfl,hS,hl,q⟩:=h
  rfl
 obtain⟨a,ns,rfl,hS,hl,q⟩:=h
 refine⟨_,(@aC _ _ _ _ _ (@aV _ _ (1) _ _ _ _ gz.nd rfl (Or.inl rfl) (@aY _ _ _ _ _ _ _ _ _ _ PK (hr.mono (by decide)) (@aa _ _ _ _ _ (pv 0) ak rfl) (by rfl) (by decide) (by rfl) (by rfl)) (by rfl) (by first|exact .inl rfl|exact .inr rfl|assumption)) (@aC _ _ _ _ _ (@aV _ _ (2) _ _ _ _ gz.nd rfl (Or.inl rfl) (@aM _ _ _ _ _ _ _ _ qJ (@aY _ _ _ _ _ _ _ _ _ _ eW (hr.mono (by decide)) (@aa _ _ _ _ _ (pv 1) (@aa _ _ _ _ _ ao ak rfl) rfl) (by rfl) (by decide) (by rfl) (by rfl)) ao) (by rfl) (by first|exact .inl rfl|exact .inr rfl|assumption)) (@aC _ _ _ _ _ (@aV _ _ (3) _ _ _ _ gz.nd rfl (Or.inl rfl) (@aY _ _ _ _ _ _ _ _ _ _ KO (hr.mono (by decide)) (@aa _ _ _ _ _ (pv 1) ak rfl) (by rfl) (by decide) (by rfl) (by rfl)) (by rfl) (by first|exact .inl rfl|exact .inr rfl|assumption)) (@aC _ _ _ _ _ (@aV _ _ (4) _ _ _ _ gz.nd rfl (Or.inl rfl) (@aM _ _ _ _ _ _ _ _ fB ao (@aY _ _ _ _ _ _ _ _ _ _ eW (hr.mono (by decide)) (@aa _ _ _ _ _ (pv 1) (@aa _ _ _ _ _ (@aT _ _ _ _ _ _ (dU K) bY (@fW _ _ _ _ (@aa _ _ _ _ _ ao (@aa _ _ _ _ _ ao ak rfl) rfl)) (pv 2) (fun _ _=>rfl)) ak rfl) rfl) (by rfl) (by decide) (by rfl) (by rfl))) (by rfl) (by first|exact .inl rfl|exact .inr rfl|assumption)) (@aC _ _ _ _ _ (@aV _ _ (5) _ _ _ _ gz.nd rfl (Or.inl rfl) (@aY _ _ _ _ _ _ _ _ _ _ eW (hr.mono (by decide)) (@aa _ _ _ _ _ (pv 1) (@aa _ _ _ _ _ (pv 3) ak rfl) rfl) (by rfl) (by decide) (by rfl) (by rfl)) (by rfl) (by first|exact .inl rfl|exact .inr rfl|assumption)) (@aC _ _ _ _ _ (@aV _ _ (6) _ _ _ _ gz.nd rfl (Or.inl rfl) (@aY _ _ _ _ _ _ _ _ _ _ eW (hr.mono (by decide)) (@aa _ _ _ _ _ (pv 1) (@aa _ _ _ _ _ (pv 3) ak rfl) rfl) (by rfl) (by decide) (by rfl) (by rfl)) (by rfl) (by first|exact .inl rfl|exact .inr rfl|assumption)) (@aC _ _ _ _ _ (@aV _ _ (7) _ _ _ _ gz.nd rfl (Or.inl rfl) (@aY _ _ _ _ _ _ _ _ _ _ Gs (hr.mono (by decide)) (@aa _ _ _ _ _ (pv 1) (@aa _ _ _ _ _ (pv 3) (@aa _ _ _ _ _ (pv 4) ak rfl) rfl) rfl) (by rfl) (by decide) (by rfl) (by rfl)) (by rfl) (by first|exact .inl rfl|exact .inr rfl|assumption)) (@aC _ _ _ _ _ (@aV _ _ (8) _ _ _ _ gz.nd rfl (Or.inl rfl) (@aY _ _ _ _ _ _ _ _ _ _ Gs (hr.mono (by decide)) (@aa _ _ _ _ _ (pv 1) (@aa _ _ _ _ _ (pv 3) (@aa _ _ _ _ _ (pv 4) ak rfl) rfl) rfl) (by rfl) (by decide) (by rfl) (by rfl)) (by rfl) (by first|exact .inl rfl|exact .inr rfl|assumption)) (@aC _ _ _ _ _ (@aV _ _ (9) _ _ _ _ gz.nd rfl (Or.inl rfl) (@aY _ _ _ _ _ _ _ _ _ _ Td (hr.mono (by decide)) (@aa _ _ _ _ _ (pv 1) (@aa _ _ _ _ _ (pv 4) (@aa _ _ _ _ _ (@aY _ _ _ _ _ _ _ _ _ _ eW (hr.mono (by decide)) (@aa _ _ _ _ _ (pv 1) (@aa _ _ _ _ _ (@aT _ _ _ _ _ _ (dU K) bY (@fW _ _ _ _ (@aa _ _ _ _ _ ao (@aa _ _ _ _ _ ao ak rfl) rfl)) (pv 2) (fun _ _=>rfl)) ak rfl) rfl) (by rfl) (by decide) (by rfl) (by rfl)) ak rfl) rfl) rfl) (by rfl) (by decide) (by rfl) (by rfl)) (by rfl) (by first|exact .inl rfl|exact .inr rfl|assumption)) (@aC _ _ _ _ _ (@aV _ _ (10) _ _ _ _ gz.nd rfl (Or.inl rfl) (@jL _ _ _ _ _ (@aa _ _ _ _ _ (dH (bS.of (show cW (aJ jN) ["script","bag","great","p","k","a","b","one","other","rows","handed","word","more","both","at","bad","found"] _ ["row"] [none]=true by decide+kernel)) (dQ (K:=K) rfl (pv 9)) (fun _ _ _ _=>⟨(br (i:=0) (by show List.Nodup (["row"]:List Str);decide+kernel) rfl (Or.inl rfl)),eG,(@iM _ _ _ _ _ _ _ _ (jT K) l8 rfl cH ie (@aa _ _ _ _ _ (pv 0) ak rfl) (by decide) (by decide) (by rfl) (by rfl))⟩)) (@aa _ _ _ _ _ (@iM _ _ _ _ _ _ _ _ (jT K) l8 rfl cH ie (@aa _ _ _ _ _ (pv 7) ak rfl) (by decide) (by decide) (by rfl) (by rfl)) ak rfl) rfl)) (by rfl) (by first|exact .inl rfl|exact .inr rfl|assumption)) (@aC _ _ _ _ _ (@aV _ _ (11) _ _ _ _ gz.nd rfl (Or.inl rfl) (@aY _ _ _ _ _ _ _ _ _ _ rF (hr.mono (by decide)) (@aa _ _ _ _ _ (pv 3) (@aa _ _ _ _ _ (pv 4) (@aa _ _ _ _ _ (@aT _ _ _ _ _ _ (dD K) dN (pv 10) ao (fun _ _=>rfl)) (@aa _ _ _ _ _ (@aT _ _ _ _ _ _ (dD K) dN (pv 10) ao (fun _ _=>rfl)) ak rfl) rfl) rfl) rfl) (by rfl) (by decide) (by rfl) (by rfl)) (by rfl) (by first|exact .inl rfl|exact .inr rfl|assumption)) (@aC _ _ _ _ _ (@aV _ _ (12) _ _ _ _ gz.nd rfl (Or.inl rfl) (@aY _ _ _ _ _ _ _ _ _ _ rF (hr.mono (by decide)) (@aa _ _ _ _ _ (pv 3) (@aa _ _ _ _ _ (pv 4) (@aa _ _ _ _ _ (@aT _ _ _ _ _ _ (dD K) dN (pv 10) ao (fun _ _=>rfl)) (@aa _ _ _ _ _ (@iM _ _ _ _ _ _ _ _ (jT K) l8 rfl cH ie (@aa _ _ _ _ _ (pv 8) ak rfl) (by decide) (by decide) (by rfl) (by rfl)) ak rfl) rfl) rfl) rfl) (by rfl) (by decide) (by rfl) (by rfl)) (by rfl) (by first|exact .inl rfl|exact .inr rfl|assumption)) (@aC _ _ _ _ _ (@aV _ _ (13) _ _ _ _ gz.nd rfl (Or.inl rfl) (@aY _ _ _ _ _ _ _ _ _ _ rF (hr.mono (by decide)) (@aa _ _ _ _ _ (pv 3) (@aa _ _ _ _ _ (pv 4) (@aa _ _ _ _ _ (@aT _ _ _ _ _ _ (dD K) dN (pv 10) ao (fun _ _=>rfl)) (@aa _ _ _ _ _ (@aY _ _ _ _ _ _ _ _ _ _ Gz (hr.mono (by decide)) (@aa _ _ _ _ _ (pv 3) (@aa _ _ _ _ _ (pv 7) (@aa _ _ _ _ _ (pv 5) (@aa _ _ _ _ _ (pv 8) (@aa _ _ _ _ _ (pv 6) ak rfl) rfl) rfl) rfl) rfl) (by rfl) (by decide) (by rfl) (by rfl)) ak rfl) rfl) rfl) rfl) (by rfl) (by decide) (by rfl) (by rfl)) (by rfl) (by first|exact .inl rfl|exact .inr rfl|assumption)) (@aC _ _ _ _ _ (@ff _ _ _ _ _ _ _ _ (PW.pt (kQ (@cC _ _ _ _ _ _ _ _ (BK hr.units) (pv 10) (@jL _ _ _ _ _ (@aa _ _ _ _ _ (pv 9) (@aa _ _ _ _ _ (pv 7) ak rfl) rfl)) (bW _)) (mV (@nu _ _ _ _ (@lA _ (K) _ _ rfl (@aY _ _ _ _ _ _ _ _ _ _ sG (hr.mono (by decide)) (@aa _ _ _ _ _ (pv 13) (@aa _ _ _ _ _ (@aY _ _ _ _ _ _ _ _ _ _ Gz (hr.mono (by decide)) (@aa _ _ _ _ _ (pv 3) (@aa _ _ _ _ _ (pv 11) (@aa _ _ _ _ _ (pv 5) (@aa _ _ _ _ _ (pv 12) (@aa _ _ _ _ _ (pv 6) ak rfl) rfl) rfl) rfl) rfl) (by rfl) (by decide) (by rfl) (by rfl)) ak rfl) rfl) (by rfl) (by decide) (by rfl) (by rfl)) (fun _=>rfl)))))) (@aO _ _ _ (@bz _ _ _ _ j4)) fJ) (@aC _ _ _ _ _ (@aV _ _ (14) _ _ _ _ gz.nd rfl (Or.inr rfl) (@aY _ _ _ _ _ _ _ _ _ _ eW (hr.mono (by decide)) (@aa _ _ _ _ _ (pv 1) (@aa _ _ _ _ _ (pv 4) ak rfl) rfl) (by rfl) (by decide) (by rfl) (by rfl)) (by rfl) (by first|exact .inl rfl|exact .inr rfl|assumption)) (@aC _ _ _ _ _ (@aV _ _ (15) _ _ _ _ gz.nd rfl (Or.inl rfl) (@iM _ _ _ _ _ _ _ _ (jT K) l8 rfl cH ie (@aa _ _ _ _ _ (pv 11) ak rfl) (by decide) (by decide) (by rfl) (by rfl)) (by rfl) (by first|exact .inl rfl|exact .inr rfl|assumption)) (@aC _ _ _ _ _ (@jq _ _ _ _ _ _ (@aM _ _ _ _ _ _ _ _ gM (@aM _ _ _ _ _ _ _ _ fB (@aM _ _ _ _ _ _ _ _ fB (@aT _ _ _ _ _ _ (dU K) bY (pv 11) (pv 14) (fun _ _=>rfl)) ao) (@aY _ _ _ _ _ _ _ _ _ _ eW (hr.mono (by decide)) (@aa _ _ _ _ _ (pv 1) (@aa _ _ _ _ _ (@aM _ _ _ _ _ _ _ _ m8 (pv 3) ao) ak rfl) rfl) (by rfl) (by decide) (by rfl) (by rfl))) (pv 3)) (jg (pv 15) (pv 14) set_list) (by rfl) (by rfl) (by rfl)) (@aC _ _ _ _ _ (@aV _ _ (16) _ _ _ _ gz.nd rfl (Or.inl rfl) (@aY _ _ _ _ _ _ _ _ _ _ V9 (hr.mono (by decide)) (@aa _ _ _ _ _ (@aY _ _ _ _ _ _ _ _ _ _ rP (hr.mono (by decide)) (@aa _ _ _ _ _ (pv 3) (@aa _ _ _ _ _ (pv 4) (@aa _ _ _ _ _ (@aT _ _ _ _ _ _ (dD K) dN (pv 10) ao (fun _ _=>rfl)) ak rfl) rfl) rfl) (by rfl) (by decide) (by rfl) (by rfl)) (@aa _ _ _ _ _ (pv 15) ak rfl) rfl) (by rfl) (by decide) (by rfl) (by rfl)) (by rfl) (by first|exact .inl rfl|exact .inr rfl|assumption)) (@aC _ _ _ _ _ (@ff _ _ _ _ _ _ _ _ (PW.pt (kQ (@nu _ _ _ _ (@lA _ (K) _ _ rfl (@cz _ _ _ _ _ _ _ _ (gE K) jc rfl c7 ia (@aa _ _ _ _ _ (pv 16) (@aa _ _ _ _ _ (gv (v:= .ty "bool") rfl iw ua rfl) ak rfl) rfl) (by decide) (by decide) (by rfl) (by rfl)) (fun _=>rfl))) (mV (@cC _ _ _ _ _ _ _ _ jB (pv 16) (@nk _ _ _ _ _ _ _ _ (B5 hr.units) (dH (bS.of (show cW (aJ jN) ["script","bag","great","p","k","a","b","one","other","rows","handed","word","more","both","at","bad","found"] _ ["row","at"] [none,some 14]=true by decide+kernel)) (dQ (K:=K) rfl (pv 9)) (fun _ _ _ _=>⟨(br (i:=0) (by show List.Nodup (["row","at"]:List Str);decide+kernel) rfl (Or.inl rfl)),(oN (cC (IM (K:=K) (by rfl)) (pv 1) (pv 0) (by with_unfolding_all rfl))),(pv 0)⟩)) (@fW _ _ _ _ ak) (bW _)) (bW _))))) (@aO _ _ _ (@bz _ _ _ _ j4)) fJ) (@aO _ _ _ (@bz _ _ _ _ (@aY _ _ _ _ _ _ _ _ _ _ VM (hr.mono (by decide)) (@aa _ _ _ _ _ (pv 1) (@aa _ _ _ _ _ (pv 3) (@aa _ _ _ _ _ (pv 4) (@aa _ _ _ _ _ (pv 9) ak rfl) rfl) rfl) rfl) (by rfl) (by decide) (by rfl) (by rfl))))))))))))))))))))))),?_⟩
 walk_at "st"
 refine⟨a,ns,rfl,hS,hl,fun b l H1 s1 f1 B1=>?_⟩
 have Yg:=s1.seq hS
 have key:∀(t:TS) (D:Ends),(∀H,D.rt (.bl true) H)->Sv (CT b l H1) [.raw (.ref a), .ay, .no, .no, .no, .no, .no, .no, .no, .no, .no, .no, .no, .no, .no, .no, .no] t {nx:=fun _=>False,rt:=fun _ d=>d= .bool true}->t D [some (.ref a),some (.ref b),none,none,none,none,none,none,none,none,none,none,none,none,none,none,none] H1:=fun t D d2 h=>h _ _ _ D (Pa (m:=15) B1) (WY d2)
 refine R.Jm ?_
 dsimp only
 refine key _ _ (fun H=>?_) ?_
 ·exact q _
 walk_at "dt"
 intro g4 g0 g1
 walk_at "dt"
 refine Ev.oQ RP rfl ?_
 walk_at "dt"
 refine⟨rfl,fun p hp g9 f=>?_⟩
 have p2:=hp.1
 have hpk:FG p:=⟨by omega,by omega⟩
 refine Gv.iX ?_
 have hg:g4/3=0\/g4/3=1:=by omega
 generalize g4/3=gr at hg
 refine Sv.seq ?_
 refine Sv.qY (fun ρ'=>∃k:Int,1<=k/\k<=20/\ρ'=[.raw (.ref a), .ay, .d true (.int gr), .d true (.int p), .d true (.int k), .no, .no, .no, .no, .no, .no, .no, .no, .no, .no, .no, .no]) ?_ ?_
 ·walk_at "dt"
  rcases hg with e|e<;>rw[e]<;>refine⟨_,rfl,_,rfl,by decide,by unfold Sm;omega,fun r r0 r1=>⟨_,rfl,?_⟩⟩<;>refine Gv.iX ?_<;>exact⟨1+r,by omega,by omega,by first|rfl|(subst e;rfl)⟩
 rintro ρ' ⟨k,k0,k1,rfl⟩
 walk_at "dt"
 intro fa a0 a1
 walk_at "dt"
 intro fb b0 b1
 walk_at "dt"
 refine Ev.oQ Jd rfl ?_
 walk_at "dt"
 refine⟨rfl,p,k,rfl,hpk,by omega,by omega,fun one XA EO=>?_⟩
 refine Gv.name ?_
 walk_at "dt"
 refine Ev.oQ Jd rfl ?_
 walk_at "dt"
 refine⟨rfl,p,k,rfl,hpk,by omega,by omega,fun other Xl FA=>?_⟩
 refine Gv.name ?_
 refine Sv.seq ?_
 refine Sv.qY (fun ρ'=>∃R:List (List Int),R.length<=20/\(∀r∈R,kG k r)/\ρ'=[.raw (.ref a), .ay, .d true (.int gr), .d true (.int p), .d true (.int k), .d true (.int fa), .d true (.int fb), .d true (aB one), .d true (aB other), .d false (.list (R.map aB)), .no, .no, .no, .no, .no, .no, .no]) ?_ ?_
 ·refine Sv.asg ?_
  refine Ev.oQ P1 rfl ?_
  walk_at "dt"
  rcases hg with e|e<;>rw[e]<;>refine⟨_,rfl,_,rfl,by decide,by unfold Sm;omega,fun r r0 r1=>?_⟩<;>walk_at "dt" <;>refine⟨rfl,k,r,rfl,k0,by omega,r0,by omega,fun f R mL hR=>?_⟩<;>refine Gv.jy ?_<;>exact⟨R,by omega,hR,by first|rfl|(subst e;rfl)⟩
 rintro ρ' ⟨R,mL,hR,rfl⟩
 obtain⟨kn,rfl⟩:∃kn:Nat,k=(kn:Int):=⟨k.toNat,by omega⟩
 have hX:∀ls:List Int,ls.length=kn->(∀x∈ls,0<=x/\x<p)->c8 p ls R:=fun ls h1 h2=>⟨hp,g9,by omega,by omega,h2,by omega,fun r hr=>by rw[h1];exact hR r hr⟩
 have mU:(R.map aB).length=R.length:=aj ..
 have se:one.length=kn:=by omega
 have z7:other.length=kn:=by omega
 refine Sv.seq ?_
 refine Sv.qY (fun ρ'=>ρ'=[.raw (.ref a), .ay, .d true (.int gr), .d true (.int p), .d true (.int (kn:Int)), .d true (.int fa), .d true (.int fb), .d true (aB one), .d true (aB other), .d false (.list (R.map aB)), .d false (.tuple [.list (R.map aB),aB one]), .no, .no, .no, .no, .no, .no]) ?_ ?_
 ·walk_at "dt"
  refine au.ev (au.gx (by decide) rfl ?_)
  walk_at "dt"
  refine fun v=>⟨false,fun i ds=>ds=(R.take i).map aB,rfl,?_,?_⟩
  ·rintro i d ds hd hl' rfl
   obtain⟨r,hr,rfl⟩:=dj hd
   walk_at "dt"
   refine⟨by walk_at "wk",?_⟩
   walk_at "dt"
   refine⟨fun z=>(by cases z),?_⟩
   show _=List.map aB (R.take (i+1))
   rw[take_snoc hr,cS]
   rfl
  rintro ds hl' rfl
  rw[mU,eT]
  walk_at "dt"
  rfl
 rintro ρ' rfl
 have om:=hX one se EO
 have hX2:=hX other z7 FA
 have hmr:∀x∈gD p one fa other fb,0<=x/\x<p:=Ge (by omega)
 have hml:(gD p one fa other fb).length=kn:=by rw[Cf (by omega),se]
 have DH:=hX _ hml hmr
 have sm:∀{xs:List Int},(∀x∈xs,0<=x/\x<p)->∀x∈xs,Sm x:=fun h x hx=>by have:=h x hx;unfold Sm;omega
 have Jq:Sm fa:=by unfold Sm;omega
 have Hj:Sm fb:=by unfold Sm;omega
 have lF:=om.rw
 have vX:=hX2.rw
 have hN:=om.Bu
 have Bs:=om.vn
 have x9:=hX2.vn
 rw[se] at lF hN Bs
 rw[z7] at vX x9
 have pJ:(aZ p one R R.length).length=(aZ p other R R.length).length:=by rw[lF.len,vX.len]
 have Lw:∀q∈fL p (kn:Int) R,∀pr∈q,0<=pr.1/\pr.1<(kn:Int)+R.length:=fun q hq pr hp=>⟨((hN.ok q hq).2.2 pr hp).1,((hN.ok q hq).2.2 pr hp).2.1⟩
 have AO:gD p (aZ p one R R.length) fa (aZ p other R R.length) fb=aZ p (gD p one fa other fb) R R.length:=by
  refine DH.uniq ⟨by rw[Cf pJ,lF.len,hml],Ge (by omega)⟩ (fun q hq=>?_) fun i hi=>?_
  ·rw[hml] at hq
   have e:=GZ (p:=p) (a:=fa) (b:=fb) pJ (prs:=q) fun pr aH=>by have:=Lw q hq pr aH;rw[lF.len];omega
   rw[uz (Bs q hq),uz (x9 q hq),gZ,gZ,nV,pU] at e
   exact qm e
  ·rw[hml] at hi
   unfold gD
   rw[lD,lD,om.pre i (by omega),hX2.pre i (by omega)]
 walk_at "dt"
 refine Ev.dw wA ?_
 walk_at "dt"
 refine⟨rfl,p,one,R,by rw[se];rfl,om,?_⟩
 refine Gv.jy ?_
 walk_at "dt"
 refine Ev.dw wA ?_
 walk_at "dt"
 refine⟨rfl,p,other,R,by rw[z7];rfl,hX2,?_⟩
 refine Gv.jy ?_
 walk_at "dt"
 refine Ev.dw wA ?_
 walk_at "dt"
 refine Ev.dw DO ?_
 walk_at "dt"
 refine⟨rfl,p,fa,fb,one,other,rfl,by omega,by omega,by omega,Jq,Hj,sm EO,sm FA,?_⟩
 walk_at "dt"
 refine⟨rfl,p,_,R,by rw[hml];rfl,DH,?_⟩
 refine Gv.jy ?_
 have RG:=om.HL
 generalize Jp:aZ p one R R.length=W at lF Bs pJ AO RG
 generalize aZ p other R R.length=M at vX x9 pJ AO
 rw[<-AO]
 have X5:=lF.len
 have XI:(W.map PyData.int).length=W.length:=aj ..
 refine Sv.seq ?_
 refine Sv.oG ?_
 refine Tv.or ?_
 walk_at "dt"
 refine⟨zg R one,zg R one,_,rfl,?_⟩
 rw[show(PyData.tuple [PyData.list (List.map aB R),aB one]).eqv (PyData.tuple (List.map (fun x:Fd=>x.snd) [(false,PyData.list (List.map aB R)),(true,aB one)]))=true from eqv_refl _ (.inl (zg R one)),if_neg (by decide)]
 walk_at "dt"
 refine Ev.dw (vB 5) ?_
 walk_at "dt"
 refine Ev.dw DO ?_
 walk_at "dt"
 refine⟨rfl,p,fa,fb,W,M,rfl,by omega,pJ,by omega,Jq,Hj,sm lF.rg,sm vX.rg,?_⟩
 walk_at "dt"
 refine⟨rfl,aB (gD p W fa M fb),rfl, .inr ⟨_, .inl rfl,by rw[aj,Cf pJ];omega,fun e he=>?_⟩,?_⟩
 ·obtain⟨y,_,rfl⟩:=aI.mp he
  exact .inl rfl
 walk_at "dt"
 intro at' t0 t1
 obtain⟨j,rfl⟩:∃j:Nat,at'=(j:Int):=⟨at'.toNat,by omega⟩
 have QA:j<W.length:=by omega
 refine Gv.iX ?_
 refine Sv.seq ?_
 refine Sv.rX (au.listOf ?_)
 walk_at "dt"
 rw[nY]
 intro A15
 have hat:bL (W.map PyData.int) (j:Int)=some (.int (gI W j)):=gK (by omega) (by rw[bx,kO,qZ QA];rfl)
 have Xh:=lF.g (i:=j) (by omega)
 refine Sv.seq ?_
 refine Sv.qt rfl ?_
 walk_at "dt"
 intro r r0 r1
 walk_at "dt"
 refine⟨_,_,rfl,AX (by omega) (by rw[aj];omega),?_⟩
 rw[<-pI,kO]
 generalize hy:(gI W j+1+r)%p=y
 have y0:0<=y:=by rw[<-hy];exact fP _ (by omega)
 have y1:y<p:=by rw[<-hy];exact fZ _ (by omega)
 have Uc:y≠gI W j:=fun z=>by
  rw[z,nE] at hy
  have hd:p∣1+r:=⟨(gI W j+1+r)/p,by omega⟩
  have:=mQ (by omega) hd
  omega
 have hbad:=om.Qq (j:=j) (y:=y) (by omega) y0 y1 (by rw[Jp];exact Uc)
 rw[Jp,se] at hbad
 have rD:∀w:List Int,aB w=l7 (w.map some):=fun w=>by show PyData.list _=PyData.list _;rw[fO];rfl
 have hsl:(fL p (kn:Int) R).length=R.length:=vp
 refine Sv.sW 15 rfl ?_
 walk_at "dt"
 refine Ev.dw Lk ?_
 walk_at "dt"
 refine Ev.dw zU ?_
 walk_at "dt"
 refine⟨rfl,p,kn,R,rfl,by omega,fun r hr=>by have:=(hR r hr).2.2;omega,?_⟩
 walk_at "dt"
 refine⟨rfl,p,_,_,(W.set j y).map some,by show[_,aB (W.set j y)]=_;rw[rD],by omega,by omega,fun q hq pr aH=>?_,fun x hx=>?_,?_⟩
 ·have h3:=(hN.ok q hq).2.2 pr aH
  rw[aj,fX]
  exact⟨h3.1,by omega,by unfold Sm;omega⟩
 ·obtain⟨z,hz,e⟩:=aI.mp hx
  cases e
  have:0<=x/\x<p:=by
   rcases rT hz with u|u
   ·exact lF.rg x u
   ·omega
  unfold Sm;omega
 walk_at "dt"
 refine au.ev (au.gx (by decide) rfl ?_)
 walk_at "dt"
 refine fun v=>⟨false,fun i ds=>∃ls:List (List Int),ds=ls.map aB/\(ls=[]↔∀r∈R.take i,(j:Int)∉r),⟨[],rfl,by simp⟩,?_,?_⟩
 ·rintro i d ds hd hl' ⟨ls,rfl,hls⟩
  obtain⟨r,hr,rfl⟩:=dj hd
  refine Gv.jy ?_
  refine⟨by walk_at "wk",?_⟩
  refine Tv.test ?_
  refine Ev.E4 ?_
  walk_at "dt"
  refine⟨r,rfl,?_⟩
  refine⟨_,rfl,?_⟩
  by_cases ci:(j:Int)∈r
  ·rw[if_pos (by simpa using ci)]
   walk_at "dt"
   refine⟨ls++[r],by rw[cS];rfl,⟨fun z=>by simp at z,fun z=>absurd ci (z r ?_)⟩⟩
   rw[take_snoc hr]
   exact iY _ (aU.mpr rfl)
  ·rw[if_neg (by simpa using ci)]
   refine⟨ls,rfl,hls.trans ⟨fun z s hs=>?_,fun z s hs=>z s (by rw[take_snoc hr];exact kh _ hs)⟩⟩
   rw[take_snoc hr] at hs
   rcases ez.mp hs with u|u
   ·exact z s u
   ·rw[aU.mp u];exact ci
 rintro ds hl' ⟨ls,rfl,hls⟩
 rw[mU,eT] at hls
 walk_at "dt"
 refine⟨LP ls,rfl,?_⟩
 rw[show(PyData.list (List.map aB ls)).eqv (PyData.list (List.map (fun x:Fd=>x.snd) []))=(ls.map aB).isEmpty from L2.S1 _]
 have Dq:((ls.map aB).isEmpty !=false)=decide (l5 p (fL p (kn:Int) R) (List.map some (W.set j y))):=by
  rw[iW,decide_eq_true_eq,hbad,<-hls]
  cases ls<;>simp
 rw[Dq]
 generalize decide (l5 p (fL p (kn:Int) R) (List.map some (W.set j y)))=bb
 refine⟨_, .bb _ _,?_⟩
 rw[beq_self_eq_true]
 walk_at "dt"
 refine Ev.oQ L4 rfl ?_
 walk_at "dt"
 refine⟨rfl,p,kn,R,rfl,hp,g9,by omega,by omega,by omega,hR,?_⟩
 rfl
end
local macro_rules| `(tactic|walk_at "bn")=> `(tactic|(intro _ _ _ _ _ _ us hl;first|(obtain⟨_,h⟩:=Hw hl;subst h;rfl)|(obtain⟨_,_,h⟩:=ln2 hl;subst h;rfl)|(obtain⟨_,_,_,h⟩:=JK hl;subst h;rfl)|(obtain⟨_,_,_,_,h⟩:=FH hl;subst h;rfl)|(obtain⟨_,_,_,_,_,h⟩:=OR hl;subst h;rfl)|(obtain⟨_,_,_,_,_,_,h⟩:=ln6 hl;subst h;rfl)|(obtain⟨_,_,_,_,_,_,_,h⟩:=ln7 hl;subst h;rfl)))
theorem all_mk{l:PySem.W.OpenLaw}{w:World}{K:PySem.W.Frag}{h:Heap}{mg:Str->Option Value}{fa:Addr}{f0 f1 f2 f3 f4 f5 f6 f7 f8 f9 Qh MJ Ll Tf P8 S4 V3 MZ Uk Wz Ms MM Oa Lz RY PZ KS WI Df rO rA qF f32:Addr}(X:K.In h)(G:h.Ns mainGlobals mg)(Pb:mg "law"=some (.ref fa))
  {Ww FZ:Option Addr} {W8:Array (Option Value)} {NY Iv DR EA CW JU:Value} {Tt M1:Option Addr} {O7:Array (Option Value)} {QN Na TZ Um GO NP:Value} {R8 Qo:Option Addr} {MH:Array (Option Value)} {K5 WO WJ K4 EC S5:Value} {OM Wi:Option Addr} {QI:Array (Option Value)} {Wf LN Su Sx GK LG:Value} {L6 Wm:Option Addr} {PV:Array (Option Value)} {Rn RJ WL Vi Hs S6:Value}
  {aW:Addr} (Dv:PySem.W.nsIn K mainGlobals "Maker"=some (some (.ref aW))) (C1:PySem.W.plainGet K aW Str.empty=true) (BU:PySem.W.hasDictIn K aW=true) (C0:PySem.W.plainOver K aW=true) (yS:PySem.W.findIn K (.ref aW) "__setattr__"=some (some (.builtin "object.__setattr__"))) (xh:PySem.W.makesIn K aW=true) (B9:PySem.W.keepIn K (.ref aW)=true)
  (lJ:PySem.W.findIn K (.ref aW) "p"=some none)
  (l6:PySem.W.findIn K (.ref aW) "n"=some none)
  (iA:PySem.W.findIn K (.ref aW) "spots"=some none)
  (lQ:PySem.W.findIn K (.ref aW) "rules"=some none)
  (d0:aX K "inverse" "inverse" CY f0)
  (d1:aX K "total" "total" CZ f1)
  (d2:aX K "staired" "staired" vg f2)
  (d3:aX K "stair" "stair" uL f3)
  (d4:aX K "laid" "laid" xY f4)
  (d5:aX K "sums" "sums" uK f5)
  (d6:aX K "sum_of" "sum_of" zV f6)
  (d7:aX K "is_true" "is_true" vU f7)
  (d8:aX K "rows_of" "rows_of" yz f8)
  (d9:aX K "swept" "swept" Bt f9)
  (rE:aX K "first_with" "first_with" za Qh)
  (wW:aX K "cleared" "cleared" vE MJ)
  (yT:aX K "times" "times" vj Ll)
  (zh:aX K "less" "less" uZ Tf)
  (Ba:aX K "swept_all" "swept_all" AZ P8)
  (Ck:aX K "rank" "rank" BA S4)
  (w6:aX K "_law_bag" "_law_bag" vS V3)
  (zI:aX K "_law_stirred" "_law_stirred" Ce MZ)
  (BB:aX K "_law_draw" "_law_draw" yZ Uk)
  (Dj:aX K "_law_prime_from" "_law_prime_from" wF Wz)
  (BQ:aX K "_law_prime" "_law_prime" zc Ms)
  (Bw:aX K "_law_letters" "_law_letters" sE MM)
  (wZ:aX K "_law_whole" "_law_whole" DB Oa)
  (Aw:aX K "_law_alike" "_law_alike" uy Lz)
  (AA:aX K "_law_is_true" "_law_is_true" p8 RY)
  (xG:aX K "_law_rows" "_law_rows" tu PZ)
  (Ae:aX K "_law_mixed" "_law_mixed" wQ KS)
  (C6:aX K "_law_made" "_law_made" nH WI)
  (yW:PySem.W.nsIn K mainGlobals "law"=some (some (.ref Df))) (Bo:K.lookup Df=some ⟨NY,Ww, .func (PySem.W.fnOf "law" "law" (jJ jN) (jr jN) (aJ jN) .none Iv DR EA FZ CW JU),W8⟩) (yi:PySem.W.codeIn K CW "law"=true) (Ad:PySem.W.keepIn K (.ref Df)=true)
  (Cv:PySem.W.findIn K (.ref aW) "__init__"=some (some (.ref rO))) (yJ:PySem.W.isFn K (.ref rO)=true) (Be:K.lookup rO=some ⟨QN,Tt, .func (PySem.W.fnOf "__init__" "Maker.__init__" (jJ lH) (jr lH) (aJ lH) .none Na TZ Um M1 GO NP),O7⟩) (BR:PySem.W.codeIn K GO "Maker.__init__"=true) (Cg:PySem.W.keepIn K (.ref rO)=true)
  (C7:PySem.W.findIn K (.ref aW) "at_spots"=some (some (.ref rA))) (Ak:PySem.W.isFn K (.ref rA)=true) (Bq:K.lookup rA=some ⟨K5,R8, .func (PySem.W.fnOf "at_spots" "Maker.at_spots" (jJ nL) (jr nL) (aJ nL) .none WO WJ K4 Qo EC S5),MH⟩) (BZ:PySem.W.codeIn K EC "Maker.at_spots"=true) (uf:PySem.W.keepIn K (.ref rA)=true)
  (zF:PySem.W.findIn K (.ref aW) "free"=some (some (.ref qF))) (CN:PySem.W.isFn K (.ref qF)=true) (yj:K.lookup qF=some ⟨Wf,OM, .func (PySem.W.fnOf "free" "Maker.free" (jJ pQ) (jr pQ) (aJ pQ) .none LN Su Sx Wi GK LG),QI⟩) (Ax:PySem.W.codeIn K GK "Maker.free"=true) (uJ:PySem.W.keepIn K (.ref qF)=true)
  (a32:PySem.W.findIn K (.ref aW) "made"=some (some (.ref f32))) (Cr:PySem.W.isFn K (.ref f32)=true) (CG:K.lookup f32=some ⟨Rn,L6, .func (PySem.W.fnOf "made" "Maker.made" (jJ pZ) (jr pZ) (aJ pZ) .none RJ WL Vi Wm Hs S6),PV⟩) (xX:PySem.W.codeIn K Hs "Maker.made"=true) (uE:PySem.W.keepIn K (.ref f32)=true)
  (Ct:PySem.W.nsIn K mainGlobals "abs"=some none)
  (zq:PySem.W.nsIn K mainGlobals "all"=some none)
  (AL:PySem.W.nsIn K mainGlobals "bool"=some none)
  (xN:PySem.W.nsIn K mainGlobals "dict"=some none)
  (zT:PySem.W.nsIn K mainGlobals "enumerate"=some none)
  (xP:PySem.W.nsIn K mainGlobals "int"=some none)
  (BO:PySem.W.nsIn K mainGlobals "isinstance"=some none)
  (yb:PySem.W.nsIn K mainGlobals "len"=some none)
  (B3:PySem.W.nsIn K mainGlobals "list"=some none)
  (yE:PySem.W.nsIn K mainGlobals "min"=some none)
  (xD:PySem.W.nsIn K mainGlobals "range"=some none)
  (AU:PySem.W.nsIn K mainGlobals "set"=some none)
  (xr:PySem.W.nsIn K mainGlobals "sorted"=some none)
  (C2:PySem.W.nsIn K mainGlobals "str"=some none)
  (yk:PySem.W.nsIn K mainGlobals "sum"=some none)
  (Bm:PySem.W.nsIn K mainGlobals "tuple"=some none)
  (yv:PySem.W.nsIn K mainGlobals "zip"=some none)
  :∃fd:FuncData,(∀(s:Shared) (v:Value),BindsTo s fd ⟨[v],[]⟩ [("script",v)])/\∀base:Heap,K.In base->base.Ns mainGlobals mg->bB l.prog w K mg base bM 9 fa fd ["script"] (vA K):=by
 have e:=Pb.symm.trans (cA X G yW)
 cases e
 obtain⟨a0,_,F0⟩:=d0
 have b0:=F0.binds (ps:=["p","b"]) (by walk_at "bn")
 obtain⟨a1,_,F1⟩:=d1
 have b1:=F1.binds (ps:=["p","pairs","word"]) (by walk_at "bn")
 obtain⟨a2,_,F2⟩:=d2
 have b2:=F2.binds (ps:=["p","k","rows"]) (by walk_at "bn")
 obtain⟨a3,_,F3⟩:=d3
 have b3:=F3.binds (ps:=["p","k","c","row"]) (by walk_at "bn")
 obtain⟨a4,_,F4⟩:=d4
 have b4:=F4.binds (ps:=["p","k","rows","letters"]) (by walk_at "bn")
 obtain⟨a5,_,F5⟩:=d5
 have b5:=F5.binds (ps:=["net","word"]) (by walk_at "bn")
 obtain⟨a6,_,F6⟩:=d6
 have b6:=F6.binds (ps:=["p","pairs","word"]) (by walk_at "bn")
 obtain⟨a7,_,F7⟩:=d7
 have b7:=F7.binds (ps:=["net","word"]) (by walk_at "bn")
 obtain⟨a8,_,F8⟩:=d8
 have b8:=F8.binds (ps:=["net"]) (by walk_at "bn")
 obtain⟨a9,_,F9⟩:=d9
 have b9:=F9.binds (ps:=["p","rows","places"]) (by walk_at "bn")
 obtain⟨RE,_,xR⟩:=rE
 have T6:=xR.binds (ps:=["rows","taken","place"]) (by walk_at "bn")
 obtain⟨Wx,_,xM⟩:=wW
 have O9:=xM.binds (ps:=["p","rows","k","place"]) (by walk_at "bn")
 obtain⟨Wn,_,AB⟩:=yT
 have Tn:=AB.binds (ps:=["p","factor","row"]) (by walk_at "bn")
 obtain⟨QB,_,BN⟩:=zh
 have M9:=BN.binds (ps:=["p","row","factor","own"]) (by walk_at "bn")
 obtain⟨MI,_,Cb⟩:=Ba
 have Xa:=Cb.binds (ps:=["net"]) (by walk_at "bn")
 obtain⟨LU,_,xx⟩:=Ck
 have Vw:=xx.binds (ps:=["net"]) (by walk_at "bn")
 obtain⟨SI,_,BW⟩:=w6
 have LS:=BW.binds (ps:=["script"]) (by walk_at "bn")
 obtain⟨SK,_,AN⟩:=zI
 have Ub:=AN.binds (ps:=["bag","many"]) (by walk_at "bn")
 obtain⟨KW,_,zO⟩:=BB
 have Pg:=zO.binds (ps:=["bag","many"]) (by walk_at "bn")
 obtain⟨M8,_,w5⟩:=Dj
 have Ma:=w5.binds (ps:=["number"]) (by walk_at "bn")
 obtain⟨R9,_,B4⟩:=BQ
 have Ru:=B4.binds (ps:=["bag"]) (by walk_at "bn")
 obtain⟨P4,_,yd⟩:=Bw
 have Q9:=yd.binds (ps:=["bag","p","n"]) (by walk_at "bn")
 obtain⟨Mj,_,wR⟩:=wZ
 have Vu:=wR.binds (ps:=["found"]) (by walk_at "bn")
 obtain⟨pe,_,jj⟩:=Aw
 have oM:=jj.binds (ps:=["found","due"]) (by walk_at "bn")
 obtain⟨QW,_,yI⟩:=AA
 have WS:=yI.binds (ps:=["net","word"]) (by walk_at "bn")
 obtain⟨Qx,_,CK⟩:=xG
 have Lr:=CK.binds (ps:=["bag","k","many"]) (by walk_at "bn")
 obtain⟨Up,_,AR⟩:=Ae
 have T4:=AR.binds (ps:=["p","one","a","other","b"]) (by walk_at "bn")
 obtain⟨Ro,_,Ai⟩:=C6
 have O5:=Ai.binds (ps:=["bag","p","k","rows"]) (by walk_at "bn")
 have W9:=p7 (st:=jN) Bo yi Ad
 have Fj:=p7 (st:=lH) Be BR Cg
 have OS:=Fj.binds (ps:=["self","net"]) (by walk_at "bn")
 have Ik:=p7 (st:=nL) Bq BZ uf
 have KR:=Ik.binds (ps:=["self","row"]) (by walk_at "bn")
 have GJ:=p7 (st:=pQ) yj Ax uJ
 have O0:=GJ.binds (ps:=["self"]) (by walk_at "bn")
 have HN:=p7 (st:=pZ) CG xX uE
 have Po:=HN.binds (ps:=["self","letters"]) (by walk_at "bn")
 have eX:fS K aW:=⟨C1,BU,C0,yS⟩
 have zZ:=gu X G Ct
 have iT:=gu X G zq
 have iw:=gu X G AL
 have A6:=gu X G xN
 have kX:=gu X G zT
 have iu:=gu X G xP
 have c7:=gu X G BO
 have cD:=gu X G yb
 have cH:=gu X G B3
 have Du:=gu X G yE
 have cL:=gu X G xD
 have xJ:=gu X G AU
 have pR:=gu X G xr
 have mS:=gu X G C2
 have zu:=gu X G yk
 have lY:=gu X G Bm
 have pV:=gu X G yv
 refine⟨PySem.W.fnOf "law" "law" (jJ jN) (jr jN) (aJ jN) .none Iv DR EA FZ CW JU,fun s v=> .of_eq rfl,fun base _ _=>?_⟩
 have Fq:=Callee.mk' AB (Sd (P:=l.prog) (w:=w) (base:=base) AB) Tn (cA X G Wn)
 have V1:=Callee.mk' F0 (Vv (P:=l.prog) (w:=w) (base:=base) F0 Fq) b0 (cA X G a0)
 have xU:=Callee.mk' F1 (Nf (P:=l.prog) (w:=w) (base:=base) F1) b1 (cA X G a1)
 have MQ:=Callee.mk' F3 (KQ (P:=l.prog) (w:=w) (base:=base) F3) b3 (cA X G a3)
 have zb:=Callee.mk' F2 (Om (P:=l.prog) (w:=w) (base:=base) F2 MQ cD kX) b2 (cA X G a2)
 have JD:=Callee.mk' F4 (T5 (P:=l.prog) (w:=w) (base:=base) F4 zb xU cH) b4 (cA X G a4)
 have OQ:=Callee.mk' F6 (UU (P:=l.prog) (w:=w) (base:=base) F6 xU) b6 (cA X G a6)
 have ON:=Callee.mk' F5 (Qk (P:=l.prog) (w:=w) (base:=base) F5 OQ) b5 (cA X G a5)
 have MD:=Callee.mk' F7 (Nv (P:=l.prog) (w:=w) (base:=base) F7 ON iT) b7 (cA X G a7)
 have TN:=Callee.mk' F8 (TR (P:=l.prog) (w:=w) (base:=base) F8 kX cD) b8 (cA X G a8)
 have Ue:=Callee.mk' xR (LK (P:=l.prog) (w:=w) (base:=base) xR kX) T6 (cA X G RE)
 have Lo:=Callee.mk' BN (SG (P:=l.prog) (w:=w) (base:=base) BN pV) M9 (cA X G QB)
 have LM:=Callee.mk' xM (Q6 (P:=l.prog) (w:=w) (base:=base) xM Fq V1 Lo) O9 (cA X G Wx)
 have U3:=Callee.mk' F9 (LL (P:=l.prog) (w:=w) (base:=base) F9 Ue LM) b9 (cA X G a9)
 have HQ:=Callee.mk' Cb (OB (P:=l.prog) (w:=w) (base:=base) Cb U3 TN cH cL) Xa (cA X G MI)
 have Mu:=Callee.mk' xx (Xe (P:=l.prog) (w:=w) (base:=base) xx HQ cD) Vw (cA X G LU)
 have SQ:=Callee.mk' BW (VW (P:=l.prog) (w:=w) (base:=base) BW zZ) LS (cA X G SI)
 have TU:=Callee.mk' AN (SH (P:=l.prog) (w:=w) (base:=base) AN cL) Ub (cA X G SK)
 have sS:=Callee.mk' zO (MC (P:=l.prog) (w:=w) (base:=base) zO TU cD) Pg (cA X G KW)
 have Tr:=Callee.mk' w5 (R3 (P:=l.prog) (w:=w) (base:=base) w5 cL) Ma (cA X G M8)
 have Vo:=Callee.mk' B4 (UG (P:=l.prog) (w:=w) (base:=base) B4 sS Tr) Ru (cA X G R9)
 have Q0:=Callee.mk' yd (N7 (P:=l.prog) (w:=w) (base:=base) yd sS cL iu Du) Q9 (cA X G P4)
 have OL:=Callee.mk' wR (Ml (P:=l.prog) (w:=w) (base:=base) wR c7 iu iw) Vu (cA X G Mj)
 have Qz:=Callee.void (P:=l.prog) (w:=w) (base:=base) (k:=0) (sp:=bF 2 (oJ 0)) jj oM (cA X G pe) UN
 have Rr:=Callee.mk' jj (rZ (P:=l.prog) (w:=w) (base:=base) 0 jj Qz c7 cH lY iT cD iw iu mS cL) oM (cA X G pe)
 have So:=Callee.mk' jj (rZ (P:=l.prog) (w:=w) (base:=base) 1 jj Rr c7 cH lY iT cD iw iu mS cL) oM (cA X G pe)
 have LJ:=Callee.mk' jj (rZ (P:=l.prog) (w:=w) (base:=base) 2 jj So c7 cH lY iT cD iw iu mS cL) oM (cA X G pe)
 have Q8:=Callee.mk' jj (rZ (P:=l.prog) (w:=w) (base:=base) 3 jj LJ c7 cH lY iT cD iw iu mS cL) oM (cA X G pe)
 have Mw:=Callee.mk' jj (rZ (P:=l.prog) (w:=w) (base:=base) 4 jj Q8 c7 cH lY iT cD iw iu mS cL) oM (cA X G pe)
 have E1:=Mw
 have Lx:=Callee.mk' yI (U9 (P:=l.prog) (w:=w) (base:=base) yI OL c7 cH cD iT zu) WS (cA X G QW)
 have PL:=Callee.mk' CK (NG (P:=l.prog) (w:=w) (base:=base) CK sS cL pR xJ cD) Lr (cA X G Qx)
 have TX:=Callee.mk' AR (VQ (P:=l.prog) (w:=w) (base:=base) AR cL cD) T4 (cA X G Up)
 have R1:mW l.prog w K mg base aW "free" 1 ["self"] (jl 1 (uw aW)):=⟨eX,qF,_,UL (P:=l.prog) (w:=w) (base:=base) GJ eX iA cH,O0,⟨zF,CN,uJ⟩⟩
 have Rz:mW l.prog w K mg base aW "made" 2 ["self","letters"] (jl 2 (vR aW)):=⟨eX,f32,_,L8 (P:=l.prog) (w:=w) (base:=base) HN eX lQ l6 iA lJ xU pV,Po,⟨a32,Cr,uE⟩⟩
 have Qw:mW l.prog w K mg base aW "at_spots" 1 ["self","row"] (jl 2 (vd aW)):=⟨eX,rA,_,Qc (P:=l.prog) (w:=w) (base:=base) Ik eX iA,KR,⟨C7,Ak,uf⟩⟩
 have N9:yR l.prog w K mg base aW "Maker" 6 ["self","net"] (tB 2 (qv aW)):=⟨rO,_,M5 (P:=l.prog) (w:=w) (base:=base) Fj eX lJ l6 iA lQ Qw HQ A6 cL pR,OS,⟨xh,Cv,yJ,B9⟩,cA X G Dv⟩
 have Mi:=Callee.mk' Ai (Uq (P:=l.prog) (w:=w) (base:=base) Ai R1 Rz N9 zb E1 sS JD Mu Lx cH c7 cD) O5 (cA X G Ro)
 exact Uj W9 SQ Vo sS Q0 PL JD MD Mi TX zb E1 cH c7 iw
theorem walk{l:PySem.W.OpenLaw}{q:Program}{loose:List Str}{XP:(Str->Option Value)->Heap->Prop}{YP:World->Heap->Prop}{d:DefRec}{K:Params->PySem.W.Frag}(hn:l.most=some 63)(hdf:d.params.defaults=[])
  (hY:∀(w:World) (h:Heap),YP w h->(K w.params).In h)
  (F : ∀ (w : World) (mg : Str -> Option Value) (fa : Addr) (h : Heap), (K w.params).In h -> h.Ns mainGlobals mg -> mg d.name = some (.ref fa) ->
   ∃fd:FuncData,(∀(s:Shared) (u:Value),BindsTo s fd ⟨[u],[]⟩ [("script",u)])/\∀base:Heap,(K w.params).In base->base.Ns mainGlobals mg->bB l.prog w (K w.params) mg base bM 9 fa fd ["script"] (vA (K w.params))):
  PySem.W.WalkO q loose XP YP l.row.toRowW d [] (fun f vs=>PySem.call f vs):=
 L2.Of (n:=63) (k:=9) (x:="script") (CX:=fun _=>bM) (sp:=fun w=>vA (K w.params)) hn (by decide) hdf ⟨rfl,by decide,by decide⟩ hY F (fun _ _ a ns hl _ hS=>⟨a,ns,rfl,hS,hl,fun _=>rfl⟩) fun _ _ _ _ _ z=>z
def view:Program:={PySem.Challenge.pw_fewchecks_k68_whole_all_true_words_are_l with main:={PySem.Challenge.pw_fewchecks_k68_whole_all_true_words_are_l.main with body:=[top 1,top 2,top 4,top 5,top 6,top 8,top 9,top 10,top 12,top 13,top 14,top 15,top 16,top 17,top 18,top 19,top 20,top 22,top 23,top 24,top 25,top 26,top 27,top 28,top 29,top 30,top 31,top 32,top 33,top 34]}}
end K68
open PySem PySem.W PyProof.Rows
local macro_rules| `(tactic|o_head $H:term)=> `(tactic|
 (refine holds_open (q:=K68.view) (loose:=[])
    (Xt:=fun s=>xlAt K68.view [] s && recOk [] s) (XP:=XL K68.view []) (Yf:=Hook.obs $H)
    (Ya:=Hook.val $H) (YP:=Hook.says $H) (N:=100000) ?hl (Hook.of $H)
    (Hook.keeps $H) (fun s e=>xl_of s (FF.mp e).1) XL.keeps
    rfl rfl rfl (fun s e=>recFacts_of (FF.mp e).2) rfl
    (by assumption) (by decide+kernel) ⟨rfl,rfl,rfl,rfl,rfl,by decide+kernel⟩ ?hw ?hc;(case hl=>exact fun w=>by kernel_rfl)))
set_option maxRecDepth 100000 in
set_option maxHeartbeats 0 in
theorem PySem.Challenge.cw_fewchecks_k68_whole_all_true_words_are_l_holds : PySem.Challenge.rw_fewchecks_k68_whole_all_true_words_are_l.Holds := by
 w_on
 refine holds_law (by decide+kernel) fun said=>?_
 k_head
 (case hw=>w_witness2)
 k_fill
 refine K68.walk (l:=PySem.Challenge.rw_fewchecks_k68_whole_all_true_words_are_l) rfl rfl (fun w h Y=>PySem.W.kIn_of Y) ?F
 case F=>
  intro w mg fa h KX G hmg
  refine' K68.all_mk KX G hmg ?Dv ?C1 ?BU ?C0 ?yS ?xh ?B9 ?lJ ?l6 ?iA ?lQ ?d0 ?d1 ?d2 ?d3 ?d4 ?d5 ?d6 ?d7 ?d8 ?d9 ?rE ?wW ?yT ?zh ?Ba ?Ck ?w6 ?zI ?BB ?Dj ?BQ ?Bw ?wZ ?Aw ?AA ?xG ?Ae ?C6 ?yW ?Bo ?yi ?Ad ?Cv ?yJ ?Be ?BR ?Cg ?C7 ?Ak ?Bq ?BZ ?uf ?zF ?CN ?yj ?Ax ?uJ ?a32 ?Cr ?CG ?xX ?uE ?Ct ?zq ?AL ?xN ?zT ?xP ?BO ?yb ?B3 ?yE ?xD ?AU ?xr ?C2 ?yk ?Bm ?yv
  (case Dv=>k_is)
  (case C1=>k_is)
  (case BU=>k_is)
  (case C0=>k_is)
  (case yS=>k_is)
  (case xh=>k_is)
  (case B9=>k_is)
  (case lJ=>k_is)
  (case l6=>k_is)
  (case iA=>k_is)
  (case lQ=>k_is)
  (case d0=>refine' L2.aX.mk ?a ?l ?c ?k;(case a=>k_is);(case l=>k_is);(case c=>k_is);(case k=>k_is))
  (case d1=>refine' L2.aX.mk ?a ?l ?c ?k;(case a=>k_is);(case l=>k_is);(case c=>k_is);(case k=>k_is))
  (case d2=>refine' L2.aX.mk ?a ?l ?c ?k;(case a=>k_is);(case l=>k_is);(case c=>k_is);(case k=>k_is))
  (case d3=>refine' L2.aX.mk ?a ?l ?c ?k;(case a=>k_is);(case l=>k_is);(case c=>k_is);(case k=>k_is))
  (case d4=>refine' L2.aX.mk ?a ?l ?c ?k;(case a=>k_is);(case l=>k_is);(case c=>k_is);(case k=>k_is))
  (case d5=>refine' L2.aX.mk ?a ?l ?c ?k;(case a=>k_is);(case l=>k_is);(case c=>k_is);(case k=>k_is))
  (case d6=>refine' L2.aX.mk ?a ?l ?c ?k;(case a=>k_is);(case l=>k_is);(case c=>k_is);(case k=>k_is))
  (case d7=>refine' L2.aX.mk ?a ?l ?c ?k;(case a=>k_is);(case l=>k_is);(case c=>k_is);(case k=>k_is))
  (case d8=>refine' L2.aX.mk ?a ?l ?c ?k;(case a=>k_is);(case l=>k_is);(case c=>k_is);(case k=>k_is))
  (case d9=>refine' L2.aX.mk ?a ?l ?c ?k;(case a=>k_is);(case l=>k_is);(case c=>k_is);(case k=>k_is))
  (case rE=>refine' L2.aX.mk ?a ?l ?c ?k;(case a=>k_is);(case l=>k_is);(case c=>k_is);(case k=>k_is))
  (case wW=>refine' L2.aX.mk ?a ?l ?c ?k;(case a=>k_is);(case l=>k_is);(case c=>k_is);(case k=>k_is))
  (case yT=>refine' L2.aX.mk ?a ?l ?c ?k;(case a=>k_is);(case l=>k_is);(case c=>k_is);(case k=>k_is))
  (case zh=>refine' L2.aX.mk ?a ?l ?c ?k;(case a=>k_is);(case l=>k_is);(case c=>k_is);(case k=>k_is))
  (case Ba=>refine' L2.aX.mk ?a ?l ?c ?k;(case a=>k_is);(case l=>k_is);(case c=>k_is);(case k=>k_is))
  (case Ck=>refine' L2.aX.mk ?a ?l ?c ?k;(case a=>k_is);(case l=>k_is);(case c=>k_is);(case k=>k_is))
  (case w6=>refine' L2.aX.mk ?a ?l ?c ?k;(case a=>k_is);(case l=>k_is);(case c=>k_is);(case k=>k_is))
  (case zI=>refine' L2.aX.mk ?a ?l ?c ?k;(case a=>k_is);(case l=>k_is);(case c=>k_is);(case k=>k_is))
  (case BB=>refine' L2.aX.mk ?a ?l ?c ?k;(case a=>k_is);(case l=>k_is);(case c=>k_is);(case k=>k_is))
  (case Dj=>refine' L2.aX.mk ?a ?l ?c ?k;(case a=>k_is);(case l=>k_is);(case c=>k_is);(case k=>k_is))
  (case BQ=>refine' L2.aX.mk ?a ?l ?c ?k;(case a=>k_is);(case l=>k_is);(case c=>k_is);(case k=>k_is))
  (case Bw=>refine' L2.aX.mk ?a ?l ?c ?k;(case a=>k_is);(case l=>k_is);(case c=>k_is);(case k=>k_is))
  (case wZ=>refine' L2.aX.mk ?a ?l ?c ?k;(case a=>k_is);(case l=>k_is);(case c=>k_is);(case k=>k_is))
  (case Aw=>refine' L2.aX.mk ?a ?l ?c ?k;(case a=>k_is);(case l=>k_is);(case c=>k_is);(case k=>k_is))
  (case AA=>refine' L2.aX.mk ?a ?l ?c ?k;(case a=>k_is);(case l=>k_is);(case c=>k_is);(case k=>k_is))
  (case xG=>refine' L2.aX.mk ?a ?l ?c ?k;(case a=>k_is);(case l=>k_is);(case c=>k_is);(case k=>k_is))
  (case Ae=>refine' L2.aX.mk ?a ?l ?c ?k;(case a=>k_is);(case l=>k_is);(case c=>k_is);(case k=>k_is))
  (case C6=>refine' L2.aX.mk ?a ?l ?c ?k;(case a=>k_is);(case l=>k_is);(case c=>k_is);(case k=>k_is))
  (case yW=>k_is)
  (case Bo=>k_is)
  (case yi=>k_is)
  (case Ad=>k_is)
  (case Cv=>k_is)
  (case yJ=>k_is)
  (case Be=>k_is)
  (case BR=>k_is)
  (case Cg=>k_is)
  (case C7=>k_is)
  (case Ak=>k_is)
  (case Bq=>k_is)
  (case BZ=>k_is)
  (case uf=>k_is)
  (case zF=>k_is)
  (case CN=>k_is)
  (case yj=>k_is)
  (case Ax=>k_is)
  (case uJ=>k_is)
  (case a32=>k_is)
  (case Cr=>k_is)
  (case CG=>k_is)
  (case xX=>k_is)
  (case uE=>k_is)
  (case Ct=>k_is)
  (case zq=>k_is)
  (case AL=>k_is)
  (case xN=>k_is)
  (case zT=>k_is)
  (case xP=>k_is)
  (case BO=>k_is)
  (case yb=>k_is)
  (case B3=>k_is)
  (case yE=>k_is)
  (case xD=>k_is)
  (case AU=>k_is)
  (case xr=>k_is)
  (case C2=>k_is)
  (case yk=>k_is)
  (case Bm=>k_is)
  (case yv=>k_is)
