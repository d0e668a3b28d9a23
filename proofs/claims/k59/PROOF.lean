import PyProof.Rows.All
import Wide.All
import OpenK.AllK
import Wide.FinOn
import Lean
import PyProof.EqAt
import PyProof.EqKinds
import PyProof.TupleCall
import PySem.Challenge.RW_fewchecks_k59_whole_votes_by_other_names
set_option compiler.extract_closed false
set_option Elab.async false
set_option linter.all false
set_option maxRecDepth 100000
def aj:= @List.length_map
def aB:= @List.getElem?_eq_getElem
def aH:= @List.mem_cons
def aI:= @List.getElem?_map
def aK:= @Nat.le_refl
def aW:= @PySem.Heap.lt_size
def bh:= @List.getElem?_eq_some_iff
def bB:= @Ne.symm
def bw:= @PySem.Heap.get?_push_of_some
def bA:= @List.getD_eq_getElem?_getD
def bG:= @List.mem_cons_self
def bE:= @List.getElem?_set_ne
def bF:= @List.map_cons
def bK:= @Nat.ne_of_lt
def bS:= @List.mem_singleton
def bU:= @List.mem_map
def bW:= @PySem.W.mg_of
def bY:= @List.not_mem_nil
def cA:= @List.mem_cons_of_mem
def cN:= @List.getElem?_set_self
def cO:= @List.length_append
def cK:= @Bool.and_eq_true
def cQ:= @List.getElem?_eq_none
def c8:= @Bool.false_ne_true
def cY:= @List.size_toArray
def c6:= @List.map_map
def dH:= @Nat.le_trans
def dI:= @Nat.lt_of_lt_of_le
def dN:= @List.mem_of_getElem?
def dZ:= @List.getElem_mem
def eF:= @PySem.Heap.get?_push_size
def eH:= @List.ext_getElem?
def e7:= @List.map_congr_left
def fF:= @Nat.zero_le
def fB:= @PySem.PassesOwn.never
def fQ:= @List.mem_range
def fR:= @Option.some.inj
def fP:= @List.map_append
def fU:= @List.length_range
def gb:= @Array.length_toList
def gm:= @Int.emod_nonneg
def fY:= @Int.emod_lt_of_pos
def gv:= @List.length_set
def gD:= @List.lookup_cons
def gC:= @PySem.W.mg_none_of
def gV:= @List.nodup_cons
def gZ:= @List.getElem?_replicate
def gQ:= @List.length_singleton
def gW:= @List.mem_map_of_mem
def ir:= @Nat.le_of_lt
def ic:= @List.getElem?_append_right
def g7:= @List.getElem?_append_left
def iy:= @PySem.boot_len
def iQ:= @List.mem_append
def iI:= @Classical.byContradiction
def iF:= @List.take_length
def iV:= @Nat.lt_irrefl
def iU:= @PySem.W.kia_one
def iS:= @List.append_nil
def jc:= @Nat.le_succ
def i9:= @Option.map_eq_some_iff
def iZ:= @List.set_set
def iT:= @Int.toNat_natCast
def je:= @List.getElem?_of_mem
def jm:= @Option.some_ne_none
def jq:= @Nat.lt_succ_of_lt
def jz:= @PyProof.Rows.boot_list
def jT:= @List.mem_append_right
def jS:= @PySem.Heap.get?_update_other
def jL:= @Int.le_refl
def jB:= @Array.getElem?_eq_getElem
def jQ:= @Bool.false_eq_true
def jE:= @List.find?_cons
def jC:= @PyProof.Rows.boot_isinstance
def ki:= @List.mem_filter
def ko:= @List.length_cons
def kh:= @PySem.Around.under_plainId
def j5:= @Nat.mul_mod
def kM:= @Bool.eq_iff_iff
def kF:= @List.length_take
def lz:= @Array.getElem?_toList
def lg:= @PySem.Heap.size_push
def kR:= @List.getElem?_cons_succ
def kH:= @Nat.lt_trans
def kG:= @PySem.F.called_set
def kZ:= @PySem.Heap.get?_push_ne
def kO:= @PySem.F.plainAttrs_list
def lC:= @Nat.ne_of_gt
def lE:= @PySem.mem_of_lookup
def l5:= @Bool.or_false
def mK:= @List.map_nil
def lJ:= @List.cons_append
def mz:= @List.length_eq_zero_iff
def mR:= @List.any_cons
def mP:= @PySem.W.kia_tup
def n9:= @List.filterMap_cons
def nK:= @List.all_cons
def mW:= @Bool.true_and
def nG:= @List.Nodup.length_le_of_subset
def nO:= @PySem.Heap.size_update
def nE:= @List.getElem?_range
def m7:= @Int.emod_eq_of_lt
def nV:= @List.sum_cons
def nq:= @PySem.F.slot_list_append
def nH:= @PySem.F.type_list_append
def qt:= @PySem.Value.isInt_shape
def oK:= @PySem.SeqAt.canLay_of_shaped
def pC:= @Bool.false_or
def qH:= @Int.zero_mul
def qb:= @Int.mul_ediv_add_emod
def qh:= @Int.mul_le_mul_of_nonneg_left
def pN:= @Int.mul_comm
def qx:= @Int.mul_sub
def qd:= @Int.mul_assoc
def pU:= @Array.getElem?_eq_some_iff
def qa:= @List.pairwise_iff_getElem
def p7:= @Nat.lt_succ_self
def pL:= @List.append_assoc
def oU:= @Nat.mul_assoc
def p8:= @Nat.mul_comm
def pI:= @Int.emod_eq_zero_of_dvd
def qv:= @PySem.W.KasT.kasWp_bind
def pW:= @List.pairwise_map
def oQ:= @List.getElem_map
def qy:= @List.getElem?_eq_none_iff
def oW:= @PyProof.Rows.boot_sorted
def tN:= @List.getElem_inj
def uc:= @PyProof.Rows.callWith_type1
def tT:= @PySem.W.kitx_dict
def tX:= @PySem.Heap.get?_update_self
def rD:= @Nat.le_of_eq
def rA:= @List.all_eq_true
def tZ:= @Int.one_mul
def rR:= @Int.ediv_nonneg
def sV:= @Int.add_mul
def qS:= @Nat.succ.inj
def q9:= @Array.getD_eq_getD_getElem?
def tR:= @Nat.lt_or_ge
def qV:= @Array.size_extract
def sX:= @Nat.mod_lt
def t8:= @PySem.F.plain_list_iadd
def qO:= @PySem.Calls.call_function_entry
def rP:= @List.any_eq_true
def sE:= @Bool.or_true
def tS:= @Nat.pow_add
def rC:= @Int.eq_ofNat_of_zero_le
def tU:= @List.pairwise_cons
def sR:= @PySem.Heap.get?_update_ne
def sF:= @PySem.F.slot_list_getattribute
def wB:= @Sum.inl.inj
def Aj:= @List.mem_filterMap
def yH:= @PySem.W.kitx_list
def vW:= @List.of_mem_zip
def Ab:= @List.length_drop
def vI:= @Nat.le_of_not_lt
def zX:= @Nat.lt_of_le_of_lt
def yL:= @Nat.log2_lt
def wA:= @List.take_add_one
def wN:= @Int.mul_le_mul_of_nonneg_right
def uX:= @Array.getElem?_eq_none
def wG:= @Nat.lt_or_eq_of_le
def zA:= @PyProof.Rows.F.plain_set_update_loop
def vP:= @Nat.lt_trichotomy
def xP:= @List.range_succ_eq_map
def vG:= @Nat.lt_of_lt_of_eq
def yQ:= @List.nodup_append
def AI:= @List.nodup_nil
def xV:= @List.take_of_length_le
def w9:= @Int.sub_zero
def zN:= @List.drop_zero
def Am:= @Nat.mul_one
def wO:= @Nat.zero_mul
def uW:= @Nat.div_add_mod
def wc:= @Nat.mod_mod
def vE:= @Nat.mod_mod_of_dvd
def uR:= @Nat.one_mul
def xu:= @Nat.le_of_dvd
def vH:= @Int.le_of_lt
def yV:= @Int.lt_trichotomy
def vL:= @Classical.choose_spec
def Be:= @List.pairwise_singleton
def AB:= @List.count_eq_zero
def Bf:= @Nat.sub_self
def zd:= @List.range_succ
def w4:= @List.flatMap_append
def Bb:= @List.flatMap_singleton
def zP:= @Int.dvd_of_emod_eq_zero
def Ar:= @List.countP_append
def xD:= @List.countP_singleton
def xh:= @List.nodup_range
def uY:= @Int.ediv_le_self
def yO:= @List.filter_append
def v7:= @Bool.eq_false_iff
def xU:= @PyProof.Rows.boot_int
def HK:= @List.mem_append_left
def Ef:= @PySem.Calls.Name_function_global
def Gm:= @PySem.W.cellsFrom_some
def Eb:= @Option.isSome_iff_exists
def DM:= @List.getElem?_take_of_lt
def BL:= @List.filterMap_cons_some
def GC:= @Array.getElem?_push
def Gj:= @Array.getElem?_extract_of_lt
def Fj:= @List.getElem?_toArray
def Cs:= @List.length_eraseIdx_of_lt
def Ff:= @List.Perm.append_left
def GP:= @PySem.F.entry_proto_collect
def C7:= @PySem.F.plain_proto_collect
def Ge:= @PySem.F.entry_list_iadd
def Ej:= @PySem.F.plain_extend_loop
def Dv:= @Nat.dvd_of_mod_eq_zero
def Ed:= @Int.gcd_eq_zero_iff
def EN:= @Int.natAbs_dvd_natAbs
def FJ:= @PySem.F.slot_dict_get
def Cw:= @List.mem_iff_getElem
def GZ:= @Int.emod_add_mul_ediv
def BS:= @List.count_singleton
def Dn:= @Nat.le_of_ble_eq_true
def Cj:= @Int.add_mul_emod_self_left
def BG:= @List.filter_eq_nil_iff
def CO:= @List.mem_or_eq_of_mem_set
def C6:= @PyProof.Rows.boot_range
def Ey:= @PyProof.Rows.boot_set
def Cm:= @PyProof.Rows.boot_tuple
def DG:= @PyProof.Rows.boot_bool
def Ga:= @PyProof.Rows.boot_str
def GV:= @List.replicate_succ'
def B8:= @Bool.and_eq_true_iff
namespace L2
open PySem PySem.Spec PyProof.Rows
abbrev Key:=Sum Int Str
def mX:Key->Value->Bool
 | .inl k,v=>Value.isInt k v
 | .inr x,v=>Value.isStrOf x v
def IP(w:World):Key->Int
 | .inl k=>hashInt k
 | .inr x=>hashStr w x
theorem kq:∀{k:Key} {v:Value},mX k v=true->(∃i t,k=Sum.inl i/\v=Value.int i t)\/(∃x t,k=Sum.inr x/\v=Value.str x t)
  | .inl i, v, h => by
    obtain⟨t,e⟩:=qt (k:=i) (v:=v) h
    exact .inl ⟨i,t,rfl,e⟩
  | .inr x, v, h => by
    obtain⟨t,e⟩:=Value.isStrOf_shape (x:=x) (v:=v) h
    exact .inr ⟨x,t,rfl,e⟩
theorem Nc(i:Int)(t:Tok):mX (.inl i) (.int i t)=true:=by simp[mX,Value.isInt]
theorem Oq(x:Str)(t:Tok):mX (.inr x) (.str x t)=true:=by simp[mX,Value.isStrOf]
theorem Ry(a b:Int):decide ((Sum.inl a:Key)=Sum.inl b)=(a==b):=by
 by_cases e:a=b
 ·subst e;simp
 ·have h:¬(Sum.inl a:Key)=Sum.inl b:=fun q=>e (wB q)
  rw[decide_eq_false h]
  exact(beq_eq_false_iff_ne.mpr e).symm
theorem J1(a b:Str):decide ((Sum.inr a:Key)=Sum.inr b)=decide (a=b):=by
 by_cases e:a=b
 ·subst e;simp
 ·have h:¬(Sum.inr a:Key)=Sum.inr b:=fun q=>e (Sum.inr.inj q)
  rw[decide_eq_false h,decide_eq_false e]
theorem QN(a:Int)(b:Str):decide ((Sum.inl a:Key)=Sum.inr b)=false:=decide_eq_false (fun q=>nomatch q)
theorem Oj(a:Str)(b:Int):decide ((Sum.inr a:Key)=Sum.inl b)=false:=decide_eq_false (fun q=>nomatch q)
def dG(prog:Program)(w:World):PySem.KeyKind prog w Key where
 is:=mX
 hash:=IP w
 inj:=fun v a b ha hb=>by
  rcases kq ha with ⟨i,t,rfl,rfl⟩|⟨x,t,rfl,rfl⟩
  ·rcases kq hb with ⟨j,u,rfl,e⟩|⟨y,u,rfl,e⟩
   ·injection e with e1 _;rw[e1]
   ·exact nomatch e
  ·rcases kq hb with ⟨j,u,rfl,e⟩|⟨y,u,rfl,e⟩
   ·exact nomatch e
   ·injection e with e1 _;rw[e1]
 byValue:=fun k v h=>by
  rcases kq h with ⟨i,t,rfl,rfl⟩|⟨x,t,rfl,rfl⟩<;>rfl
 pyHash:=fun hv h=>by
  rcases kq hv with ⟨i,t,rfl,rfl⟩|⟨x,t,rfl,rfl⟩
  ·exact wpAny_pyHash_int h
  ·exact wpAny_pyHash_str h
 eqBool:=fun hu hv h=>by
  rcases kq hu with ⟨i,t,rfl,rfl⟩|⟨x,t,rfl,rfl⟩
  ·rcases kq hv with ⟨j,u,rfl,rfl⟩|⟨y,u,rfl,rfl⟩
   ·rw[Ry] at h;exact wpAny_eqBool_int h
   ·rw[QN] at h;exact SeqAt.EqAt.int_str i t y u _ _ _ _ h
  ·rcases kq hv with ⟨j,u,rfl,rfl⟩|⟨y,u,rfl,rfl⟩
   ·rw[Oj] at h;exact SeqAt.EqAt.str_int x t j u _ _ _ _ h
   ·rw[J1] at h;exact wpAny_eqBool_str h
 «strs» :=fun k x t v h=>by
  rcases kq h with ⟨i,u,rfl,e⟩|⟨y,u,rfl,e⟩
  ·exact nomatch e
  ·injection e with e1 _
   subst e1
   cases v<;>rfl
theorem NC(prog:Program)(w:World)(i:Int)(t:Tok):(dG prog w).is (.inl i) (.int i t)=true:=Nc i t
theorem La(prog:Program)(w:World)(x:Str)(t:Tok):(dG prog w).is (.inr x) (.str x t)=true:=Oq x t
inductive V where
 |aM|bl (b:Bool)|int (i:Int)|str (x:Str)|iB (b:Array UInt8)|j9 (b:UInt64)|ref (a:Addr)|ty (n:String)
 deriving DecidableEq
def RelV:V->Value->Prop
 | .aM,u=>u=Value.none
 | .bl b,u=>u=Value.bool b
 | .int i,u=>∃t,u=Value.int i t
 | .str x,u=>∃t,u=Value.str x t
 | .iB b,u=>∃t,u=Value.bytes b t
 | .j9 b,u=>∃t,u=Value.float b t
 | .ref a,u=>u=Value.ref a
 | .ty n,u=>u=Value.type n
abbrev Vals:List V->List Value->Prop:=Paired RelV
theorem Vals.length{xs:List V}{us:List Value}(r:Vals xs us):xs.length=us.length:=Paired.length r
theorem Vals.get:∀{xs:List V} {us:List Value} {i:Nat} {x:V},Vals xs us->xs[i]?=some x->∃u,us[i]?=some u/\RelV x u
  |_,_,_,_, .nil,e=>by simp at e
  |_,_,0,_, .cons r _,e=>by simp at e;subst e;exact⟨_,rfl,r⟩
  | _, _, i + 1, x, .cons _ t, e => by
    obtain⟨u,h1,h2⟩:=Vals.get (i:=i) (x:=x) t (by simpa using e)
    exact⟨u,by simpa using h1,h2⟩
theorem Vals.set{x:V}{u:Value}(r:RelV x u):∀{xs:List V} {us:List Value} (i:Nat),Vals xs us->Vals (xs.set i x) (us.set i u)
 |_,_,_, .nil=> .nil
 |_,_,0, .cons _ t=> .cons r t
 |_,_,i+1, .cons q t=> .cons q (Vals.set r i t)
theorem Vals.append:∀{xs ys:List V} {us ws:List Value},Vals xs us->Vals ys ws->Vals (xs++ys) (us++ws)
 |_,_,_,_, .nil,s=>s
 |_,_,_,_, .cons r t,s=> .cons r (Vals.append t s)
theorem Vals.take:∀{xs:List V} {us:List Value} (n:Nat),Vals xs us->Vals (xs.take n) (us.take n)
 |_,_,0,_=> .nil
 |_,_,_+1, .nil=> .nil
 |_,_,n+1, .cons r t=> .cons r (Vals.take n t)
theorem Vals.drop:∀{xs:List V} {us:List Value} (n:Nat),Vals xs us->Vals (xs.drop n) (us.drop n)
 |_,_,0,r=>r
 |_,_,_+1, .nil=> .nil
 |_,_,n+1, .cons _ t=>Vals.drop n t
def jf:Option V->Option Value->Prop
 |some v,some u=>RelV v u
 |none,none=>True
 |_,_=>False
def KV{κ:Type}:List (κ×V)->List (κ×Value)->Prop:=Paired fun(p:κ×V) (q:κ×Value)=>p.1=q.1/\RelV p.2 q.2
def kV:Key->V
 | .inl i=> .int i
 | .inr x=> .str x
inductive HO where
  |lst (xs:List V)
  |tup (xs:List V)
  |dK (kvs:List (Key×V))|dT (kvs:List (List Key×V))
  |set (S:Int->Bool) (n:Nat)
  |ins (C dx:Addr) (fs:List (Str×V))
  |own (x:Addr)
  |xd (fs:List (Str×V))
  |met (f x:Addr)
  |lu (lo hi:Int)
  |bL (o:Obj) (u:HO)
  |lP (ps:Array Value)
  |ext (φ:Heap->Prop)
abbrev Hp:=Addr->Option HO
def upd(H:Hp)(a:Addr)(o:HO):Hp:=fun b=>if b=a then some o else H b
theorem aV{H:Hp}{a:Addr}{o:HO}:upd H a o a=some o:=by unfold upd;rw[if_pos rfl]
theorem aq{H:Hp}{a b:Addr}{o:HO}(h:b≠a):upd H a o b=H b:=by unfold upd;rw[if_neg h]
theorem u5{H:Hp}{a:Addr}{o u:HO}:upd (upd H a o) a u=upd H a u:=by
 funext b;unfold upd;split<;>rfl
theorem ig{H:Hp}{a b:Addr}{o:HO}(h:H a=some o)(h':H b=none):a≠b:=by
 intro e;subst e;rw[h] at h';cases h'
section
variable(P:Program)(w:World)
def bq(H:Hp)(h:Heap)(a:Addr):HO->Prop
 | .lst xs=>xs.length<=sizeLine/\∃(its:List Value) (n:Nat),Vals xs its/\h.get? a=some {cls:= .type "list",data:= .seq its.toArray n}
 | .tup xs=>xs.length<=sizeLine/\∃its:List Value,Vals xs its/\IsTup h a its.toArray
 | .dK kvs=>kvs.length<=sizeLine/\(a==sysModules)=false/\∃vs,KV kvs vs/\h.DictOf (dG P w) a vs
 | .dT kvs => kvs.length <= sizeLine /\ (a == sysModules) = false /\ ∃ xs : List (List Key × Addr × Value),
   Paired (fun(p:List Key×V) (q:List Key×Addr×Value)=>p.1=q.1/\H q.2.1=some (.tup (p.1.map kV))/\RelV p.2 q.2.2) kvs xs/\
   ∃o es ep,h.get? a=some o/\o.ExactDict/\o.data= .dict es ep/\es.toList=xs.map (entryOfKey (tupleKind (dG P w)))/\(xs.map (·.1)).Nodup
 | .set S n=>h.SetOf (intKind P w) a S n
 | .ins C dx fs => H dx = some (.own a) /\ fs.length <= 1000 /\ dx ≠ a /\ h.get? a = some (PySem.W.instObj C dx) /\
   ∃mA,h.Ns1 dx mA/\(∀f,jf (fs.lookup f) (mA f))/\PySem.Within mA (fs.map (·.1))
 | .own _=>∃o,h.get? a=some o
 | .xd fs=>∃mA,h.Ns1 a mA/\∀f,jf (fs.lookup f) (mA f)
 | .lu lo hi=>∃t u v,h.get? a=some {cls:= .type "range",data:= .fields #[.int lo t, .int hi u, .int 1 v]}
 | .bL o u=>h.get? a=some o/\bq H h a u
 | .lP ps=>h.get? a=some {cls:= .none,data:= .fields ps}
 | .met f x=>h.get? a=some (PySem.W.methodObj (.ref f) (.ref x))
 | .ext φ=>φ h/\(∃o,h.get? a=some o)/\∀h1 h2:Heap,φ h1->(∀o,h1.get? a=some o->h2.get? a=some o)->φ h2
def cW(H:Hp)(h:Heap):Prop:=∀a o,H a=some o->bq P w H h a o
end
section
variable{P:Program}{w:World}{H H':Hp}{h h':Heap}{a:Addr}{o:HO}
theorem bq.lt(x:bq P w H h a o):a<h.objs.size:=by
 cases o with
 |lst xs=>obtain⟨_,_,_,_,e⟩:=x;exact aW e
 |tup xs=>obtain⟨_,_,_,p⟩:=x;exact p.lt
 |dK kvs=>obtain⟨_,_,_,_,o,_,_,e,_⟩:=x;exact aW e
 |dT kvs=>obtain⟨_,_,_,_,o,_,_,e,_⟩:=x;exact aW e
 |set S n=>obtain⟨o,_,_,_,e,_⟩:=x;exact aW e
 |ins C dx fs=>obtain⟨_,_,_,e,_⟩:=x;exact aW e
 |own y=>obtain⟨_,e⟩:=x;exact aW e
 |xd fs=>obtain⟨_,⟨_,_,_,e,_⟩,_⟩:=x;exact aW e
 |lu lo hi=>obtain⟨_,_,_,e⟩:=x;exact aW e
 |bL ob u=>obtain⟨e,_⟩:=x;exact aW e
 |lP ps=>exact aW (show h.get? a=some _ from x)
 |met f y=>exact aW (show h.get? a=some _ from x)
 |ext φ=>obtain⟨_,⟨_,e⟩,_⟩:=x;exact aW e
theorem Paired.HN{α β:Type}{F G:α->β->Prop}:∀{l₁:List α} {l₂:List β},Paired F l₁ l₂->(∀a b,F a b->G a b)->Paired G l₁ l₂
 |_,_, .nil,_=> .nil
 |_,_, .cons r t,f=> .cons (f _ _ r) (Paired.HN t f)
theorem bq.stay(x:bq P w H h a o)(k:∀b u,(b=a\/H b=some (.own a))->h.get? b=some u->h'.get? b=some u)
    (ho:∀b,H b=some (.own a)->H' b=some (.own a)) (ht:∀b xs,H b=some (.tup xs)->H' b=some (.tup xs)):bq P w H' h' a o:=by
  induction o with
  |lst xs=>obtain⟨z,its,n,r,e⟩:=x;exact⟨z,its,n,r,k _ _ (.inl rfl) e⟩
  |tup xs=>obtain⟨z,its,r,ob,e,c⟩:=x;exact⟨z,its,r,ob,k _ _ (.inl rfl) e,c⟩
  |dK kvs=>obtain⟨z,y,vs,r,ob,es,ep,e,c⟩:=x;exact⟨z,y,vs,r,ob,es,ep,k _ _ (.inl rfl) e,c⟩
  | dT kvs =>
    obtain⟨z,y,xs,r,ob,es,ep,e,c⟩:=x
    exact⟨z,y,xs,Paired.HN r fun p q z=>⟨z.1,ht _ _ z.2.1,z.2.2⟩,ob,es,ep,k _ _ (.inl rfl) e,c⟩
  |set S n=>obtain⟨ob,es,ep,t,e,c⟩:=x;exact⟨ob,es,ep,t,k _ _ (.inl rfl) e,c⟩
  | ins C dx fs =>
    obtain⟨d,z,ne,e,mA,⟨od,es,ep,e2,c⟩,r⟩:=x
    exact⟨ho _ d,z,ne,k _ _ (.inl rfl) e,mA,⟨od,es,ep,k _ _ (.inr d) e2,c⟩,r⟩
  |own y=>obtain⟨ob,e⟩:=x;exact⟨ob,k _ _ (.inl rfl) e⟩
  |xd fs=>obtain⟨mA,⟨od,es,ep,e,c⟩,r⟩:=x;exact⟨mA,⟨od,es,ep,k _ _ (.inl rfl) e,c⟩,r⟩
  |lu lo hi=>obtain⟨t,u,v,e⟩:=x;exact⟨t,u,v,k _ _ (.inl rfl) e⟩
  |bL ob u ih=>obtain⟨e,q⟩:=x;exact⟨k _ _ (.inl rfl) e,ih q⟩
  | lP ps =>
    have e:h.get? a=some {cls:= .none,data:= .fields ps}:=x
    show h'.get? a=some {cls:= .none,data:= .fields ps}
    exact k a _ (.inl rfl) e
  | met f y =>
    have e:h.get? a=some (PySem.W.methodObj (.ref f) (.ref y)):=x
    show h'.get? a=some (PySem.W.methodObj (.ref f) (.ref y))
    exact k a _ (.inl rfl) e
  |ext φ=>obtain⟨p,⟨o,e⟩,st⟩:=x;exact⟨st _ _ p fun o q=>k _ _ (.inl rfl) q,⟨o,k _ _ (.inl rfl) e⟩,st⟩
theorem cW.lt(x:cW P w H h)(e:H a=some o):a<h.objs.size:=(x a o e).lt
theorem cW.fresh(x:cW P w H h)(e:h.objs.size<=a):H a=none:=by
 cases q:H a with
 |none=>rfl
 |some u=>exact absurd (dI (x.lt q) e) (iV _)
theorem cW.kept(x:cW P w H h)(k:∀b u,h.get? b=some u->h'.get? b=some u):cW P w H h':=fun a o e=>
 (x a o e).stay (fun b u _ q=>k b u q) (fun _ q=>q) fun _ _ q=>q
theorem cW.laid(x:cW P w H h)(k:∀b u,h.get? b=some u->h'.get? b=some u)(hp:h.objs.size<=a)(new:bq P w (upd H a o) h' a o):cW P w (upd H a o) h':=fun b u e=>by
 have hn:=x.fresh hp
 by_cases hb:b=a
 ·subst hb;rw[aV] at e;cases e;exact new
 ·rw[aq hb] at e
  exact(x b u e).stay (fun c v _ q=>k c v q) (fun c q=>by rw[aq (ig q hn)];exact q) fun c xs q=>by rw[aq (ig q hn)];exact q
end
def Rd(H:Hp)(a:Addr)(u:HO):Prop:=H a=some u\/∃o,H a=some (.bL o u)
theorem Rd.ok{P:Program}{w:World}{H:Hp}{h:Heap}{a:Addr}{u:HO}(r:Rd H a u)(x:cW P w H h):bq P w H h a u:=by
 rcases r with r|⟨o,r⟩
 ·exact x a u r
 ·obtain⟨_,q⟩:=x a _ r
  exact q
def oJ:Option HO->Prop
 |some (.lst _)=>True
 |some (.dK _)=>True
 |some (.dT _)=>True
 |some (.set _ _)=>True
 |some (.ins _ _ _)=>True
 |some (.ext _)=>True
 |_=>False
section
variable{P:Program}{w:World}{H:Hp}{h h':Heap}{x e:Addr}{o':HO}
theorem cW.write(ok:cW P w H h)(mu:oJ (H x))(he:e=x\/H e=some (.own x))(k:∀b u,b≠e->h.get? b=some u->h'.get? b=some u)(oj:∃u,h'.get? e=some u)
  (new:bq P w (upd H x o') h' x o'):cW P w (upd H x o') h':=fun b u q=>by
 have GL:∀c y,H c=some (.own y)->c≠x:=fun c y r z=>by subst z;rw[r] at mu;exact mu
 have PU:∀c xs,H c=some (.tup xs)->c≠x:=fun c xs r z=>by subst z;rw[r] at mu;exact mu
 by_cases hb:b=x
 ·subst hb;rw[aV] at q;cases q;exact new
 ·rw[aq hb] at q
  by_cases lM:b=e
  ·have q':H b=some (.own x):=by
    rcases he with z|z
    ·exact absurd (lM.trans z) hb
    ·rw[lM];exact z
   rw[q] at q';cases q'
   obtain⟨v,hv⟩:=oj
   exact⟨v,by rw[lM];exact hv⟩
  ·refine(ok b u q).stay (fun c v hc r=>k c v ?_ r) (fun c r=>by rw[aq (GL c b r)];exact r) fun c xs r=>by rw[aq (PU c xs r)];exact r
   rcases hc with rfl|hc
   ·exact lM
   ·rintro rfl
    rcases he with z|z
    ·exact GL c b hc z
    ·rw[hc] at z;cases z;exact hb rfl
end
structure Un(fs ex:List Addr)(H H':Hp)(h h':Heap):Prop where
 keep:∀b o,h.get? b=some o->H b=none->b∉fs->b∉ex->h'.get? b=some o
 slot:∀b o,h.get? b=some o->H b=none->b∈fs->b∉ex->∃sl,h'.get? b=some {o with slots:=sl}
 free:∀b o,h.get? b=some o->H b=none->b∉ex->H' b=none
 there:∀b o,h.get? b=some o->b∉ex->∃o',h'.get? b=some o'
 tups:∀b xs,H b=some (.tup xs)->H' b=some (.tup xs)
 jl:∀b o u,H b=some (.bL o u)->H' b=some (.bL o u)
 jZ:∀b ps,H b=some (.lP ps)->∃more,H' b=some (.lP (ps++more))
section
variable{fs fs' ex ex':List Addr}{H H1 H2:Hp}{h h1 h2 h':Heap}{a x e:Addr}{o:HO}
theorem Un.any(u:Un fs ex H H1 h h1){b:Addr}{ob:Obj}(q:h.get? b=some ob)(n:H b=none)(hx:b∉ex):∃sl,h1.get? b=some {ob with slots:=sl}:=by
 by_cases hb:b∈fs
 ·exact u.slot b ob q n hb hx
 ·exact⟨ob.slots,u.keep b ob q n hb hx⟩
theorem Un.kept(k:∀b u,h.get? b=some u->h'.get? b=some u):Un fs ex H H h h':=
 ⟨fun b ob q _ _ _=>k b ob q,fun b ob q _ _ _=>⟨ob.slots,k b ob q⟩,fun _ _ _ n _=>n,fun b ob q _=>⟨ob,k b ob q⟩,fun _ _ q=>q,fun _ _ _ q=>q,fun _ ps q=>⟨#[],by rw[q];simp⟩⟩
theorem Un.refl:Un fs ex H H h h:=Un.kept fun _ _ q=>q
theorem Un.laid(k:∀b u,h.get? b=some u->h'.get? b=some u)(hp:h.objs.size<=a)(hn:H a=none):Un fs ex H (upd H a o) h h' where
 keep:=fun b u q _ _ _=>k b u q
 slot:=fun b u q _ _ _=>⟨u.slots,k b u q⟩
 free:=fun b u q n _=>by rw[aq (bK (dI (aW q) hp))];exact n
 there:=fun b u q _=>⟨u,k b u q⟩
 tups:=fun b xs q=>by rw[aq (ig q hn)];exact q
 jl:=fun b u xs q=>by rw[aq (ig q hn)];exact q
 jZ:=fun b ps q=>⟨#[],by rw[aq (ig q hn),q];simp⟩
theorem Un.write(mu:oJ (H x))(he:e=x\/H e=some (.own x))(k:∀b u,b≠e->h.get? b=some u->h'.get? b=some u)(oj:∃u,h'.get? e=some u):Un fs ex H (upd H x o) h h':=by
 have hx:∀b,H b=none->b≠x:=fun b n z=>by subst z;rw[n] at mu;exact mu
 have hb:∀b,H b=none->b≠e:=fun b n z=>by
  subst z
  rcases he with r|r
  ·exact hx b n r
  ·rw[n] at r;cases r
 have hm:∀b u,H b=some u->¬oJ (some u)->b≠x:=fun b u q nm z=>by subst z;rw[q] at mu;exact nm mu
 refine⟨fun b u q n _ _=>k b u (hb b n) q,fun b u q n _ _=>⟨u.slots,k b u (hb b n) q⟩,fun b u q n _=>by rw[aq (hx b n)];exact n,fun b u q _=>?_,
  fun b xs q=>by rw[aq (hm b _ q fun z=>z)];exact q,fun b u xs q=>by rw[aq (hm b _ q fun z=>z)];exact q,fun b ps q=>⟨#[],by rw[aq (hm b _ q fun z=>z),q];simp⟩⟩
 by_cases lM:b=e
 ·subst lM;exact oj
 ·exact⟨u,k b u lM q⟩
end
def qL(h:Heap)(H:Hp):List Addr:=(List.range h.objs.size).filter fun a=>(H a).isSome
def jX(h:Heap)(H:Hp):Heap:=PySem.W.hideAll h (qL h H)
theorem HR(h:Heap)(H:Hp):(jX h H).objs.size=h.objs.size:=PySem.W.hideAll_size _ _
theorem RW{h:Heap}{H:Hp}{b:Addr}{o:Obj}(e:h.get? b=some o)(n:H b=none):(jX h H).get? b=some o:=
 PySem.W.hideAll_get _ e fun hm=>by
  have q:(H b).isSome=true:=(ki.mp hm).2
  rw[n] at q;simp at q
theorem Jt{h:Heap}{H:Hp}{b:Addr}{o:Obj}(e:(jX h H).get? b=some o):h.get? b=some o/\H b=none:=by
  have e':h.get? b=some o:=PySem.W.of_hideAll (qL h H) e
  refine⟨e',?_⟩
  cases q:H b with
  |none=>rfl
  | some x =>
    have hm:b∈qL h H:=ki.mpr ⟨fQ.mpr (aW e'),by simp[q]⟩
    have z:(jX h H).get? b=none:=PySem.W.hideAll_none (qL h H) hm
    rw[z] at e;cases e
def Js(g h:Heap)(L:Addr):List (Addr×Obj):=(List.range h.objs.size).filterMap fun a=>if a=L\/(g.get? a).isSome=true then none else(h.get? a).map fun o=>(a,o)
def rest(g h:Heap)(L d:Addr):List (Addr×Obj):=(Js g h L).filter fun p=>decide (p.1≠d)
structure Mod(K:PySem.W.Frag)(mg:Str->Option Value)(base:Heap):Prop where
 AF:K.In base
 glob:base.Ns mainGlobals mg
 blt:∃mb,base.Ns builtinsNs mb/\∀x:Str,x≠"__name__" ->mb x=bootBuiltins x
 nolimit:base.NoLimit
structure Cx where
 prog:Program
 w:World
 K:PySem.W.Frag
 mg:Str->Option Value
 base:Heap
 A:Around
 N:List Str
 s₀:Shared
 H₀:Hp
 env:Env
 outer:List Env
 stack:List Env
 ex:List Addr
 fn:Str->Bool
 calm:Bool
 pn:List (Addr×Obj)
 xe:Value->Shared->Prop
def frs(l:List Env):List Addr:=l.filterMap (·.frame)
abbrev Cx.fs(X:Cx):List Addr:=frs X.outer
def AJ(sc:Scope)(x:Str):Prop:=sc.names.lookup x=some .local\/sc.names.lookup x=some .cell\/sc.names.lookup x=some .free
def Loc(sc:Scope)(x:Str):Prop:=sc.names.lookup x=some .local\/sc.names.lookup x=some .cell
def Look(env:Env)(h:Heap)(m:Str->Option Value)(x:Str)(u:Value):Prop:=
 (env.kindOf x=some .local/\m x=some u)\/((env.kindOf x=some .cell\/env.kindOf x=some .free)/\∃c,env.cells.lookup x=some c/\h.IsCell c (some u))
structure Cx.Ok(X:Cx):Prop where
 mod:Mod X.K X.mg X.base
 kind:X.env.scope.kind= .function
 glob:X.env.globals=mainGlobals
 blt:X.env.builtins=builtinsNs
 above:X.s₀.heap.objs.size<=X.env.locals
 inj:∀x y c,X.env.cells.lookup x=some c->X.env.cells.lookup y=some c->x=y
 has:∀x,(X.env.kindOf x=some .cell\/X.env.kindOf x=some .free)->∃c,X.env.cells.lookup x=some c
 pY:∀x c,X.fn x=true->X.env.cells.lookup x=some c->X.s₀.heap.objs.size<=c
 hd:X.calm=true->X.A.handled=none
 frames:X.A.frames=some X.stack
 stk:X.stack=X.outer\/(X.stack=X.env::X.outer/\X.env.frame=some X.env.locals)
 sW:∀b∈X.ex,b≠X.env.locals/\∀x c,X.env.cells.lookup x=some c->c≠b
 bs:∀b o,X.base.get? b=some o->X.s₀.heap.get? b=some o/\X.H₀ b=none
 mJ:X.base.objs.size<=X.s₀.heap.objs.size
 o5:∀b o,X.base.get? b=some o->b∉X.ex
 qF:∀b∈X.ex,b∉X.fs
 jA:X.s₀.heap.FunFrames X.base X.outer
 ou:∀b∈X.fs,X.H₀ b=none
structure Inv(X:Cx)(pins:List (Addr×Obj))(σ:List (Option V))(H:Hp)(s:Shared):Prop where
 ok:X.Ok
 os:s.os=X.s₀.os
 bare:AllBare s.gens
 base:Un X.fs X.ex X.H₀ H X.s₀.heap s.heap
 loc:∃m,s.heap.Ns X.env.locals m/\∀(i:Nat) (x:Str) (v:V),X.N[i]?=some x->σ[i]?=some (some v)->AJ X.env.scope x->∃u,RelV v u/\Look X.env s.heap m x u
 cell:∀x c,X.env.cells.lookup x=some c->∃v,s.heap.IsCell c v
 free:H X.env.locals=none
 iJ:∀x c,X.env.cells.lookup x=some c->H c=none
 pin:∀p∈X.pn++pins,s.heap.get? p.1=some p.2/\H p.1=none/\p.1≠X.env.locals/\p.1∉X.fs/\∀v,p.2.data≠ .cell v
 hok:cW X.prog X.w H s.heap
 len:σ.length=X.N.length
section
variable{X:Cx}{pins:List (Addr×Obj)}{σ:List (Option V)}{H H':Hp}{s:Shared}{h':Heap}
theorem Cx.Ok.PL(ok:X.Ok){b:Addr}{o:Obj}(e:X.base.get? b=some o):b∉X.fs:=fun hb=>by
 have:=(ok.jA.mem hb).1
 rw[e] at this;cases this
theorem Inv.bs(I:Inv X pins σ H s):∀b o,X.base.get? b=some o->s.heap.get? b=some o/\H b=none:=fun b o e=>
 ⟨I.base.keep b o (I.ok.bs b o e).1 (I.ok.bs b o e).2 (I.ok.PL e) (I.ok.o5 b o e),I.base.free b o (I.ok.bs b o e).1 (I.ok.bs b o e).2 (I.ok.o5 b o e)⟩
theorem Inv.bk(I:Inv X pins σ H s):∀b o,X.base.get? b=some o->s.heap.get? b=some o:=fun b o e=>(I.bs b o e).1
theorem Inv.mod(I:Inv X pins σ H s):Mod X.K X.mg X.base:=I.ok.mod
theorem Inv.dS(I:Inv X pins σ H s):X.K.In s.heap:=I.ok.mod.AF.keeps I.bk
theorem Inv.lt(I:Inv X pins σ H s):X.env.locals<s.heap.objs.size:=let ⟨_,hn,_⟩:=I.loc;hn.lt
theorem Inv.sz(I:Inv X pins σ H s):X.s₀.heap.objs.size<=s.heap.objs.size:=dH I.ok.above (ir I.lt)
theorem Inv.Ug(I:Inv X pins σ H s){a:Addr}(h:s.heap.objs.size<=a):a∉X.fs:=fun hb=>by
 obtain⟨_,o,ho,_⟩:=I.ok.jA.mem hb
 exact absurd (dI (aW ho) (dH I.sz h)) (iV _)
theorem Inv.lU(I:Inv X pins σ H s):∀x c,X.env.cells.lookup x=some c->c≠X.env.locals:=fun x c e z=>by
 obtain⟨v,o,ho,hd⟩:=I.cell x c e
 obtain⟨m,⟨o',es,ep,ho',hd',_⟩,_⟩:=I.loc
 rw[z,ho'] at ho;cases ho;rw[hd'] at hd;cases hd
theorem Inv.jA(I:Inv X pins σ H s):s.heap.FunFrames X.base X.outer:=by
  have all:∀(l:List Env),(∀b∈frs l,b∈X.fs)->X.s₀.heap.FunFrames X.base l->s.heap.FunFrames X.base l:=by
    intro l
    induction l with
    |nil=>intro _ _;trivial
    | cons env r ih =>
      intro hs hl
      obtain⟨hk,⟨L,o,hf,hn,ho,hd⟩,hr⟩:=hl
      have hL:L∈X.fs:=hs L (by unfold frs;rw[n9,hf];exact bG)
      obtain⟨sl,e⟩:=I.base.slot L o ho (I.ok.ou L hL) hL fun z=>I.ok.qF L z hL
      exact⟨hk,⟨L,_,hf,hn,e,hd⟩,ih (fun b hb=>hs b (by unfold frs;rw[n9,hf];exact cA _ hb)) hr⟩
  exact all X.outer (fun _ hb=>hb) I.ok.jA
theorem Inv.stack(I:Inv X pins σ H s):s.heap.FunFrames X.base X.stack:=by
 rcases I.ok.stk with e|⟨e,hf⟩
 ·rw[e];exact I.jA
 ·rw[e]
  obtain⟨m,hn,_⟩:=I.loc
  refine .cons (by rw[I.ok.kind];decide) hf hn ?_ I.jA
  exact Heap.get?_none_of_le (dH I.ok.mJ I.ok.above)
theorem Inv.xG(I:Inv X pins σ H s):∀b∈frs X.stack,b∈X.env.locals::X.fs:=fun b hb=>by
 rcases I.ok.stk with e|⟨e,hf⟩
 ·rw[e] at hb;exact cA _ hb
 ·rw[e] at hb
  unfold frs at hb
  rw[n9,hf] at hb
  exact hb
theorem Inv.Fi(I:Inv X pins σ H s):∀b∈frs X.stack,H b=none:=fun b hb=>by
 rcases aH.mp (I.xG b hb) with e|hb
 ·rw[e];exact I.free
 ·obtain⟨_,o,ho,_⟩:=I.ok.jA.mem hb
  exact I.base.free b o ho (I.ok.ou b hb) fun z=>I.ok.qF b z hb
theorem Inv.step{g':Array GenState}{t':Nat}{d':Drawn}{ch:List Addr}(I:Inv X pins σ H s)
  (hch:∀b∈ch,(b∈X.ex\/X.s₀.heap.objs.size<=b)/\b≠X.env.locals/\(∀x c,X.env.cells.lookup x=some c->c≠b)/\∀p∈X.pn++pins,p.1≠b)
  (keep:∀b o,b≠X.env.locals->b∉X.fs->b∉ch->s.heap.get? b=some o->H b=none->h'.get? b=some o)
  (slot:∀b o,b≠X.env.locals->b∈X.fs->b∉ch->s.heap.get? b=some o->H b=none->∃sl,h'.get? b=some {o with slots:=sl}) (free:∀b o,b∉ch->s.heap.get? b=some o->H b=none->H' b=none)
  (there:∀b o,b∉ch->s.heap.get? b=some o->∃o',h'.get? b=some o')
  (tups:∀b xs,H b=some (.tup xs)->H' b=some (.tup xs)) (jl:∀b o u,H b=some (.bL o u)->H' b=some (.bL o u)) (jZ:∀b ps,H b=some (.lP ps)->∃more,H' b=some (.lP (ps++more)))
  (ns:∀m,s.heap.Ns X.env.locals m->h'.Ns X.env.locals m) (hok:cW X.prog X.w H' h') (hg:AllBare g'):
  Inv X pins σ H' {s with heap:=h',gens:=g',drawn:=d',toks:=t'}:=by
 have Hz:∀b o,X.s₀.heap.get? b=some o->b≠X.env.locals:=fun b o e=>bK (dI (aW e) I.ok.above)
 have rV:∀b o,X.s₀.heap.get? b=some o->b∉X.ex->b∉ch:=fun b o e hx hb=>by
  rcases(hch b hb).1 with z|z
  ·exact hx z
  ·exact absurd (dI (aW e) z) (iV _)
 have cellK:∀x c,X.env.cells.lookup x=some c->∀v,s.heap.IsCell c v->h'.IsCell c v:=fun x c e v ⟨o,ho,hd⟩=>by
  have pG:c∉ch:=fun z=>(hch c z).2.2.1 x c e rfl
  by_cases hc:c∈X.fs
  ·obtain⟨sl,q⟩:=slot c o (I.lU x c e) hc pG ho (I.iJ x c e)
   exact⟨_,q,hd⟩
  ·exact⟨o,keep c o (I.lU x c e) hc pG ho (I.iJ x c e),hd⟩
 refine⟨I.ok,I.os,hg,⟨fun b o e n hb hx=>?_,fun b o e n hb hx=>?_,fun b o e n hx=>?_,fun b o e hx=>?_,fun b xs e=>tups b xs (I.base.tups b xs e),fun b o xs e=>jl b o xs (I.base.jl b o xs e),fun b ps e=>?_⟩,?_,fun x c e=>?_,?_,fun x c e=>?_,fun p hp=>?_,hok,I.len⟩
 ·exact keep b o (Hz b o e) hb (rV b o e hx) (I.base.keep b o e n hb hx) (I.base.free b o e n hx)
 ·obtain⟨sl,e1⟩:=I.base.slot b o e n hb hx
  obtain⟨MK,e2⟩:=slot b _ (Hz b o e) hb (rV b o e hx) e1 (I.base.free b o e n hx)
  exact⟨MK,e2⟩
 ·obtain⟨o',e1⟩:=I.base.there b o e hx
  exact free b o' (rV b o e hx) e1 (I.base.free b o e n hx)
 ·obtain⟨o',e1⟩:=I.base.there b o e hx
  exact there b o' (rV b o e hx) e1
 ·obtain⟨m1,e1⟩:=I.base.jZ b ps e
  obtain⟨m2,e2⟩:=jZ b _ e1
  exact⟨m1++m2,by rw[e2,Array.append_assoc]⟩
 ·obtain⟨m,hn,hl⟩:=I.loc
  refine⟨m,ns m hn,fun i x v e1 e2 e3=>?_⟩
  obtain⟨u,r,l⟩:=hl i x v e1 e2 e3
  refine⟨u,r,?_⟩
  rcases l with l|⟨k,c,e,z⟩
  ·exact .inl l
  ·exact .inr ⟨k,c,e,cellK x c e _ z⟩
 ·obtain⟨v,z⟩:=I.cell x c e
  exact⟨v,cellK x c e v z⟩
 ·obtain⟨m,⟨o,_,_,ho,_⟩,_⟩:=I.loc
  exact free _ o (fun z=>(hch _ z).2.1 rfl) ho I.free
 ·obtain⟨v,o,ho,hd⟩:=I.cell x c e
  exact free c o (fun z=>(hch c z).2.2.1 x c e rfl) ho (I.iJ x c e)
 ·obtain⟨e,n,ne,nf,d⟩:=I.pin p hp
  have pG:p.1∉ch:=fun z=>(hch p.1 z).2.2.2 p hp rfl
  exact⟨keep p.1 p.2 ne nf pG e n,free p.1 p.2 pG e n,ne,nf,d⟩
theorem Inv.un{t':Nat}(I:Inv X pins σ H s)(u:Un X.fs [] H H' s.heap h')(hok:cW X.prog X.w H' h'):Inv X pins σ H' {s with heap:=h',toks:=t'}:=by
 obtain⟨m,⟨o,es,ep,ho,r⟩,_⟩:=id I.loc
 obtain⟨sl,hL⟩:=u.any ho I.free (by simp)
 exact I.step (g':=s.gens) (d':=s.drawn) (ch:=[]) (fun _ z=>nomatch z) (fun b o _ hb _ e n=>u.keep b o e n hb (by simp)) (fun b o _ hb _ e n=>u.slot b o e n hb (by simp)) (fun b o _ e n=>u.free b o e n (by simp)) (fun b o _ e=>u.there b o e (by simp)) u.tups u.jl u.jZ (fun m' hm=>by
  obtain⟨o',es',qW,ho',r'⟩:=hm
  rw[ho] at ho';cases ho'
  exact⟨_,es',qW,hL,r'⟩) hok I.bare
theorem Inv.call{g':Array GenState}{t':Nat}{d':Drawn}{ch:List Addr}(I:Inv X pins σ H s)(u:Un (frs X.stack) ch H H' s.heap h')(hok:cW X.prog X.w H' h')(hg:AllBare g')
  (hch:∀b∈ch,(b∈X.ex\/X.s₀.heap.objs.size<=b)/\b≠X.env.locals/\(∀x c,X.env.cells.lookup x=some c->c≠b)/\∀p∈X.pn++pins,p.1≠b):
  Inv X pins σ H' {s with heap:=h',gens:=g',drawn:=d',toks:=t'}:=by
 obtain⟨m,⟨o,es,ep,ho,r⟩,_⟩:=id I.loc
 obtain⟨sl,hL⟩:=u.any ho I.free fun z=>(hch _ z).2.1 rfl
 exact I.step (ch:=ch) hch (fun b o hL hb hc e n=>u.keep b o e n (fun z=>(aH.mp (I.xG b z)).elim hL hb) hc) (fun b o _ _ hc e n=>u.any e n hc) (fun b o hc e n=>u.free b o e n hc) (fun b o hc e=>u.there b o e hc) u.tups u.jl u.jZ (fun m' hm=>by
  obtain⟨o',es',qW,ho',r'⟩:=hm
  rw[ho] at ho';cases ho'
  exact⟨_,es',qW,hL,r'⟩) hok hg
theorem Inv.turned{t':Nat}{it:Addr}(I:Inv X pins σ H s)(k:∀b o,b≠it->s.heap.get? b=some o->h'.get? b=some o)(hn:H it=none)(hL:it≠X.env.locals)
  (h1:it∈X.ex\/X.s₀.heap.objs.size<=it) (h2:∀x c,X.env.cells.lookup x=some c->c≠it) (h3:∀p∈X.pn++pins,p.1≠it):Inv X pins σ H {s with heap:=h',toks:=t'}:=by
 have Fg:∀b u,H b=some u->b≠it:=fun b u e z=>by rw[z,hn] at e;cases e
 refine I.step (g':=s.gens) (d':=s.drawn) (ch:=[it]) (fun b hb=>?_) (fun b o _ _ hc e _=>k b o (fun z=>hc (by simp[z])) e) (fun b o _ _ hc e _=>⟨o.slots,k b o (fun z=>hc (by simp[z])) e⟩) (fun _ _ _ _ n=>n)
  (fun b o hc e=>⟨o,k b o (fun z=>hc (by simp[z])) e⟩) (fun _ _ e=>e) (fun _ _ _ e=>e) (fun b ps e=>⟨#[],by rw[e];simp⟩) (fun m hm=>?_) (fun b u e=>?_) I.bare
 ·have e:b=it:=by simpa using hb
  subst e
  exact⟨h1,hL,h2,h3⟩
 ·obtain⟨o,es,ep,ho,r⟩:=hm
  exact⟨o,es,ep,k _ o (bB hL) ho,r⟩
 ·refine(I.hok b u e).stay (fun c v hc q=>k c v ?_ q) (fun _ q=>q) fun _ _ q=>q
  rcases hc with z|z
  ·rw[z];exact Fg b u e
  ·exact Fg c _ z
theorem Inv.tok(I:Inv X pins σ H s)(t:Nat):Inv X pins σ H {s with toks:=t}:=I.un (h':=s.heap) (t':=t) Un.refl I.hok
theorem Inv.kept{t':Nat}(I:Inv X pins σ H s)(k:∀b u,s.heap.get? b=some u->h'.get? b=some u):Inv X pins σ H {s with heap:=h',toks:=t'}:=I.un (Un.kept k) (I.hok.kept k)
theorem Inv.laid{a:Addr}{o:HO}{t':Nat}(I:Inv X pins σ H s)(k:∀b u,s.heap.get? b=some u->h'.get? b=some u)(hp:s.heap.objs.size<=a)(new:bq X.prog X.w (upd H a o) h' a o):
  Inv X pins σ (upd H a o) {s with heap:=h',toks:=t'}:=I.un (Un.laid k hp (I.hok.fresh hp)) (I.hok.laid k hp new)
theorem Inv.write{x e:Addr}{o:HO}{t':Nat}(I:Inv X pins σ H s)(mu:oJ (H x))(he:e=x\/H e=some (.own x))(k:∀b u,b≠e->s.heap.get? b=some u->h'.get? b=some u)(oj:∃u,h'.get? e=some u)
  (new:bq X.prog X.w (upd H x o) h' x o):Inv X pins σ (upd H x o) {s with heap:=h',toks:=t'}:=I.un (Un.write mu he k oj) (I.hok.write mu he k oj new)
theorem Inv.El{CZ:List (Addr×Obj)}(I:Inv X pins σ H s)(h:∀p∈CZ,s.heap.get? p.1=some p.2/\H p.1=none/\p.1≠X.env.locals/\p.1∉X.fs/\∀v,p.2.data≠ .cell v):Inv X CZ σ H s:=
 ⟨I.ok,I.os,I.bare,I.base,I.loc,I.cell,I.free,I.iJ,fun p hp=>(iQ.mp hp).elim (fun z=>I.pin p (HK _ z)) (h p),I.hok,I.len⟩
theorem CV{N:List Str}(hN:N.Nodup){i j:Nat}{x:Str}(a:N[i]?=some x)(b:N[j]?=some x):i=j:=by
 obtain⟨h1,e1⟩:=bh.mp a
 obtain⟨h2,e2⟩:=bh.mp b
 exact(tN hN).mp (e1.trans e2.symm)
theorem Bx{M:Model}{A:Around}{E:Value->Shared->Prop}{i:Nat}{x:Str}{v:V}{u:Value}{Q:Unit->Shared->Prop}(I:Inv X pins σ H s)(hN:X.N.Nodup)(hi:X.N[i]?=some x)(hx:Loc X.env.scope x)(r:RelV v u)
  (h:∀s',Inv X pins (σ.set i (some v)) H s'->(∃a,Heap.SameBut a s.heap s'.heap/\(a=X.env.locals\/X.env.cells.lookup x=some a))->Q () s') (hf:X.fn x=true\/X.env.scope.names.lookup x=some .local:=by first|exact .inl rfl|exact .inr rfl|assumption):wpAny M A (storeName X.env x u) Q E s:=by
 obtain⟨m,hn,hl⟩:=id I.loc
 have hcls:(X.env.scope.kind== .class||(X.env.scope.kind== .module && X.env.locals !=X.env.globals))=false:=by rw[I.ok.kind];rfl
 have DJ:i<σ.length:=by rw[I.len];exact(bh.mp hi).1
 have lU:=I.lU
 have tracked:∀{a:Addr} {h':Heap},(∃o,s.heap.get? a=some o/\H a=none)->Heap.SameBut a s.heap h'->cW X.prog X.w H h':=fun{a h'} ha hs b ob e=>by
  obtain⟨_,_,hfree⟩:=ha
  refine(I.hok b ob e).stay (fun c w' hc q=>(hs.2 c ?_).trans q) (fun _ q=>q) fun _ _ q=>q
  rintro rfl
  rcases hc with rfl|hc
  ·rw[hfree] at e;cases e
  ·rw[hfree] at hc;cases hc
 rcases hx with hk|hk
 ·refine wpAny_storeName_local hk hn (fun h' hn' hs=>?_) hcls
  obtain⟨oL,_,_,mC,_⟩:=id hn
  refine h _ ⟨I.ok,I.os,I.bare,⟨fun b o e n hb hx=>?_,fun b o e n hb hx=>?_,I.base.free,fun b o e hx=>?_,I.base.tups,I.base.jl,I.base.jZ⟩,⟨_,hn',fun j y v' e1 e2 e3=>?_⟩,fun y c e=>?_,I.free,I.iJ,fun p hp=>?_,tracked ⟨oL,mC,I.free⟩ hs,by simpa using I.len⟩ ⟨_,hs, .inl rfl⟩
  ·exact(hs.2 b (bK (dI (aW e) I.ok.above))).trans (I.base.keep b o e n hb hx)
  ·obtain⟨sl,e1⟩:=I.base.slot b o e n hb hx
   exact⟨sl,(hs.2 b (bK (dI (aW e) I.ok.above))).trans e1⟩
  ·obtain⟨o',e1⟩:=I.base.there b o e hx
   exact⟨o',(hs.2 b (bK (dI (aW e) I.ok.above))).trans e1⟩
  ·by_cases hj:j=i
   ·subst hj
    rw[hi] at e1;cases e1
    rw[cN DJ] at e2
    cases e2
    exact⟨u,r, .inl ⟨hk,by simp⟩⟩
   ·rw[bE (bB hj)] at e2
    obtain⟨u',r',q⟩:=hl j y v' e1 e2 e3
    refine⟨u',r',?_⟩
    rcases q with ⟨k,e⟩|⟨k,c,e,z⟩
    ·refine .inl ⟨k,?_⟩
     have:y≠x:=fun e=>hj (CV hN e1 (e▸hi))
     simp[this,e]
    ·exact .inr ⟨k,c,e,z.sameBut hs (lU y c e)⟩
  ·obtain⟨w',z⟩:=I.cell y c e
   exact⟨w',z.sameBut hs (lU y c e)⟩
  ·obtain⟨e,n,ne,nf,d⟩:=I.pin p hp
   exact⟨(hs.2 p.1 ne).trans e,n,ne,nf,d⟩
 ·have hfn:X.fn x=true:=by
   rcases hf with z|z
   ·exact z
   ·rw[z] at hk;cases hk
  obtain⟨c,hc⟩:=I.ok.has x (.inl hk)
  obtain⟨w',z⟩:=I.cell x c hc
  refine wpAny_storeName_cell I.ok.kind hk hc z (fun h' hc' hs=>?_)
  obtain⟨oc,hoc,SK⟩:=id z
  refine h {s with heap:=h'} ⟨I.ok,I.os,I.bare,⟨fun b o e n hb hx=>?_,fun b o e n hb hx=>?_,I.base.free,fun b o e hx=>?_,I.base.tups,I.base.jl,I.base.jZ⟩,⟨m,hn.sameBut hs (bB (lU x c hc)),fun j y v' e1 e2 e3=>?_⟩,fun y c' e=>?_,I.free,I.iJ,fun p hp=>?_,tracked ⟨oc,hoc,I.iJ x c hc⟩ hs,by simpa using I.len⟩ ⟨c,hs, .inr hc⟩
  ·exact(hs.2 b (bK (dI (aW e) (I.ok.pY x c hfn hc)))).trans (I.base.keep b o e n hb hx)
  ·obtain⟨sl,e1⟩:=I.base.slot b o e n hb hx
   exact⟨sl,(hs.2 b (bK (dI (aW e) (I.ok.pY x c hfn hc)))).trans e1⟩
  ·obtain⟨o',e1⟩:=I.base.there b o e hx
   exact⟨o',(hs.2 b (bK (dI (aW e) (I.ok.pY x c hfn hc)))).trans e1⟩
  ·by_cases hj:j=i
   ·subst hj
    rw[hi] at e1;cases e1
    rw[cN DJ] at e2
    cases e2
    exact⟨u,r, .inr ⟨.inl hk,c,hc,hc'⟩⟩
   ·rw[bE (bB hj)] at e2
    obtain⟨u',r',q⟩:=hl j y v' e1 e2 e3
    refine⟨u',r',?_⟩
    rcases q with q|⟨k,c',e,z'⟩
    ·exact .inl q
    ·refine .inr ⟨k,c',e,z'.sameBut hs ?_⟩
     rintro rfl
     exact hj (CV hN e1 (I.ok.inj _ _ _ e hc▸hi))
  ·by_cases hcc:c'=c
   ·subst hcc;exact⟨_,hc'⟩
   ·obtain⟨w2,z2⟩:=I.cell y c' e
    exact⟨w2,z2.sameBut hs hcc⟩
  ·obtain⟨e,n,ne,nf,d⟩:=I.pin p hp
   refine⟨(hs.2 p.1 ?_).trans e,n,ne,nf,d⟩
   intro q
   rw[q,hoc] at e
   have q':oc=p.2:=fR e
   exact d w' (by rw[<-q'];exact SK)
theorem EB{M:Model}{A:Around}{E:Value->Shared->Prop}{i:Nat}{x:Str}{v:V}{u:Value}{Q:Unit->Shared->Prop}(I:Inv X pins σ H s)(hN:X.N.Nodup)(hi:X.N[i]?=some x)(hx:Loc X.env.scope x)(r:RelV v u)
  (h:∀s',Inv X pins (σ.set i (some v)) H s'->Q () s') (hf:X.fn x=true\/X.env.scope.names.lookup x=some .local:=by first|exact .inl rfl|exact .inr rfl|assumption):wpAny M A (storeName X.env x u) Q E s:=
 Bx I hN hi hx r (fun s' I' _=>h s' I') hf
theorem Inv.SR{s':Shared}{ch:List Addr}(I:Inv X pins σ H s)(ho:s'.os=s.os)(u:Un (frs X.stack) ch H H' s.heap s'.heap)(hok:cW X.prog X.w H' s'.heap)(hg:AllBare s'.gens)
  (hch:∀b∈ch,(b∈X.ex\/X.s₀.heap.objs.size<=b)/\b≠X.env.locals/\(∀x c,X.env.cells.lookup x=some c->c≠b)/\∀p∈X.pn++pins,p.1≠b):Inv X pins σ H' s':=by
 obtain⟨h',g',d',t',o'⟩:=s'
 have e:o'=s.os:=ho
 subst e
 exact I.call (g':=g') (t':=t') (d':=d') u hok hg hch
end
abbrev XK:=Value->Option Addr->Hp->Prop
abbrev St:=List (Option V)
abbrev VK:=V->Hp->Prop
abbrev TE:=St->Hp->VK->Prop
abbrev TT:=St->Hp->(Bool->Hp->Prop)->Prop
abbrev TA:=St->Hp->(List V->Hp->Prop)->Prop
structure Ends where
 nx:St->Hp->Prop
 rt:VK
 bk:St->Hp->Prop:=fun _ _=>False
 ct:St->Hp->Prop:=fun _ _=>False
abbrev TS:=Ends->St->Hp->Prop
def EP(X:Cx)(pins:List (Addr×Obj))(σ:St)(Q:VK)(u:Value)(s':Shared):Prop:=∃v H',Inv X pins σ H' s'/\RelV v u/\Q v H'
def TP(X:Cx)(pins:List (Addr×Obj))(σ:St)(Q:Bool->Hp->Prop)(b:Bool)(s':Shared):Prop:=∃H',Inv X pins σ H' s'/\Q b H'
def AP(X:Cx)(pins:List (Addr×Obj))(σ:St)(Q:List V->Hp->Prop)(us:List Value)(s':Shared):Prop:=∃vs H',Inv X pins σ H' s'/\Vals vs us/\Q vs H'
def SP(X:Cx)(pins:List (Addr×Obj))(D:Ends)(f:Flow)(s':Shared):Prop:=
 match f with
 | .next=>∃σ' H',Inv X pins σ' H' s'/\D.nx σ' H'
 | .brk=>∃σ' H',Inv X pins σ' H' s'/\D.bk σ' H'
 | .cont=>∃σ' H',Inv X pins σ' H' s'/\D.ct σ' H'
 | .ret u=>∃v σ' H',Inv X pins σ' H' s'/\RelV v u/\D.rt v H'
def PE(X:Cx)(e:Expr)(t:TE):Prop:=
 ∀(pins:List (Addr×Obj)) (s:Shared) (σ:St) (H:Hp) (Q:VK),Inv X pins σ H s->t σ H Q->wpAny (model X.prog X.w) X.A (eval e X.env) (EP X pins σ Q) X.xe s
def PT(X:Cx)(e:Expr)(t:TT):Prop:=
 ∀(pins:List (Addr×Obj)) (s:Shared) (σ:St) (H:Hp) (Q:Bool->Hp->Prop),Inv X pins σ H s->t σ H Q->wpAny (model X.prog X.w) X.A (isTrue e X.env (eval e X.env)) (TP X pins σ Q) X.xe s
def PW(X:Cx)(e:Expr)(t:TT):Prop:=
 ∀(whole:Sem Value) (pins:List (Addr×Obj)) (s:Shared) (σ:St) (H:Hp) (Q:Bool->Hp->Prop),Inv X pins σ H s->t σ H Q->wpAny (model X.prog X.w) X.A (isTrue e X.env whole) (TP X pins σ Q) X.xe s
theorem PW.pt{X:Cx}{e:Expr}{t:TT}(h:PW X e t):PT X e t:=h _
def PA(X:Cx)(es:List Expr)(t:TA):Prop:=
 ∀(pos:Pos) (pins:List (Addr×Obj)) (s:Shared) (σ:St) (H:Hp) (Q:List V->Hp->Prop),Inv X pins σ H s->t σ H Q->wpAny (model X.prog X.w) X.A (spliced (backTo pos (starEach es X.env))) (AP X pins σ Q) X.xe s
def PS(X:Cx)(st:Stmt)(t:TS):Prop:=
 ∀(pins:List (Addr×Obj)) (s:Shared) (σ:St) (H:Hp) (D:Ends),Inv X pins σ H s->t D σ H->wpAny (model X.prog X.w) X.A (exec st X.env) (SP X pins D) X.xe s
def iD(X:Cx)(st:List Stmt)(t:TS):Prop:=
 ∀(pins:List (Addr×Obj)) (s:Shared) (σ:St) (H:Hp) (D:Ends),Inv X pins σ H s->t D σ H->wpAny (model X.prog X.w) X.A (execs st X.env) (SP X pins D) X.xe s
theorem aP{α:Type}{t:Sem α}{Q Q':α->Shared->Prop}{M:Model}{A:Around}{E:Value->Shared->Prop}{s:Shared}(h:wpAny M A t Q E s)(hQ:∀a s,Q a s->Q' a s):wpAny M A t Q' E s:=wpAny_mono h hQ fun _ _ x=>x
section
variable{X:Cx}
theorem bin{a b:Expr}{ta tb:TE}(ha:PE X a ta)(hb:PE X b tb){pins:List (Addr×Obj)}{s:Shared}{σ:St}{H:Hp}{R:V->V->Hp->Prop}(I:Inv X pins σ H s)(h:ta σ H fun x H1=>tb σ H1 fun y H2=>R x y H2)
  {α:Type} {Q:α->Shared->Prop} {f:Value->Value->Sem α}
  (hf:∀v u s2 x y H2,Inv X pins σ H2 s2->RelV x v->RelV y u->R x y H2->wpAny (model X.prog X.w) X.A (f v u) Q X.xe s2):
  wpAny (model X.prog X.w) X.A (eval a X.env) (fun v s₁=>wpAny (model X.prog X.w) X.A (eval b X.env) (fun u s₂=>wpAny (model X.prog X.w) X.A (f v u) Q X.xe s₂) X.xe s₁) X.xe s:=by
 refine aP (ha pins s σ H _ I h) fun v s1 ⟨x,H1,I1,r1,q1⟩=>?_
 refine aP (hb pins s1 σ H1 _ I1 q1) fun u s2 ⟨y,H2,I2,r2,q2⟩=>?_
 exact hf v u s2 x y H2 I2 r1 r2 q2
def eU(i:Nat):TE:=fun σ H Q=>∃v,σ[i]?=some (some v)/\Q v H
def tC(v:V):TE:=fun _ H Q=>Q v H
theorem SD{i:Nat}{x:Str}{pos:Pos}(hN:X.N[i]?=some x)(hv:AJ X.env.scope x)(hd:(x==("__debug__":Str))=false:=by decide)(hcd:(x==("__classdict__":Str))=false:=by decide):PE X (.Name x pos) (eU i):=by
 intro pins s σ H Q I h
 obtain⟨v,e,h⟩:=h
 obtain⟨m,hn,hl⟩:=I.loc
 obtain⟨u,r,l⟩:=hl i x v hN e hv
 have fin:EP X pins σ Q u s:=⟨v,H,I,r,h⟩
 rcases l with ⟨hk,hm⟩|⟨hk,c,hc,hcell⟩
 ·exact wpAny_Name (wpAny_loadName_local I.ok.kind hk hn hm fin) hd
 ·rcases hk with hk|hk
  ·exact wpAny_Name (wpAny_loadName_cell I.ok.kind hk hc hcell fin) hd
  ·exact wpAny_Name (wpAny_loadName_free I.ok.kind hk hc hcell fin hcd) hd
theorem ak{i j pos}:PE X (.Constant (.int i) j pos) (tC (.int i)):=fun _ _ _ H _ I h=>wpAny_Constant_int ⟨.int i,H,I.tok _,⟨_,rfl⟩,h⟩
theorem nB{b j pos}:PE X (.Constant (.bool b) j pos) (tC (.bl b)):=fun _ _ _ H _ I h=>Constant_bool ⟨.bl b,H,I,rfl,h⟩
theorem nk{j pos}:PE X (.Constant .none j pos) (tC .aM):=fun _ _ _ H _ I h=>Constant_none ⟨.aM,H,I,rfl,h⟩
theorem yi{x j pos}:PE X (.Constant (.str x) j pos) (tC (.str x)):=fun _ _ _ H _ I h=>Calls.Constant_str ⟨.str x,H,I.tok _,⟨_,rfl⟩,h⟩
def Gl(X:Cx)(x:Str):Prop:=X.env.kindOf x=some .globalImplicit
theorem Rb{E:Value->Shared->Prop}{pins:List (Addr×Obj)}{s:Shared}{σ:St}{H:Hp}{x:Str}{u:Value}{pos:Pos}{Q:Value->Shared->Prop}(I:Inv X pins σ H s)(hg:Gl X x)(hm:X.mg x=some u)(h:Q u s)
  (hd:(x==("__debug__":Str))=false:=by decide):wpAny (model X.prog X.w) X.A (eval (.Name x pos) X.env) Q E s:=
 Ef I.ok.kind hg (Calls.loadGlobal_global (by rw[I.ok.glob];exact I.mod.glob.keeps I.bk) hm h) hd
theorem nI{E:Value->Shared->Prop}{pins:List (Addr×Obj)}{s:Shared}{σ:St}{H:Hp}{x:Str}{u:Value}{pos:Pos}{Q:Value->Shared->Prop}(I:Inv X pins σ H s)(hg:Gl X x)(hm:X.mg x=none)(hv:bootBuiltins x=some u)(h:Q u s)
  (hn:x≠"__name__":=by decide) (hd:(x==("__debug__":Str))=false:=by decide):wpAny (model X.prog X.w) X.A (eval (.Name x pos) X.env) Q E s:=by
 obtain⟨mb,h1,h2⟩:=I.mod.blt
 exact Ef I.ok.kind hg (Calls.loadGlobal_builtin (by rw[I.ok.glob];exact I.mod.glob.keeps I.bk) hm (by rw[I.ok.blt];exact h1.keeps I.bk) ((h2 x hn).trans hv) h) hd
theorem ja{x:Str}{v:V}{u:Value}{pos:Pos}(hg:Gl X x)(hm:X.mg x=none)(hv:bootBuiltins x=some u)(r:RelV v u)(hn:x≠"__name__":=by decide)(hd:(x==("__debug__":Str))=false:=by decide):PE X (.Name x pos) (tC v):=
 fun _ _ _ H _ I h=>nI I hg hm hv ⟨v,H,I,r,h⟩ hn hd
variable{a b:Expr}{ta tb:TE}{pos:Pos}
def PC(X:Cx)(op:CmpOp)(a b:Expr)(t:TE):Prop:=
 ∀(pins:List (Addr×Obj)) (s:Shared) (σ:St) (H:Hp) (Q:VK),Inv X pins σ H s->t σ H Q->
  wpAny (model X.prog X.w) X.A (eval a X.env) (fun v s₁=>wpAny (model X.prog X.w) X.A (eval b X.env) (fun u s₂=>wpAny (model X.prog X.w) X.A (compareOp op v u) (EP X pins σ Q) X.xe s₂) X.xe s₁) X.xe s
variable{tA sN:TT}{rest:List Expr}
def Ak(t u:TT):TT:=fun σ H Q=>t σ H fun c H1=>if c=true then u σ H1 Q else Q false H1
def BC(t u:TT):TT:=fun σ H Q=>t σ H fun c H1=>if c=true then Q true H1 else u σ H1 Q
def Di(t:TT):TT:=fun σ H Q=>t σ H fun c H1=>Q (!c) H1
theorem nJ(ha:PT X a tA):PW X (.BoolOp .And [a] pos) tA:=by
 intro wh pins s σ H Q I h
 refine isTrue_and (aP (ha pins s σ H Q I h) fun c s1 e=>?_)
 cases c with
 |true=>exact isTrue_and_nil e
 |false=>exact e
theorem Bh(ha:PT X a tA):PW X (.BoolOp .Or [a] pos) tA:=by
 intro wh pins s σ H Q I h
 refine isTrue_or (aP (ha pins s σ H Q I h) fun c s1 e=>?_)
 cases c with
 |false=>exact isTrue_or_nil e
 |true=>exact e
theorem nM(ha:PT X a tA)(hb:PW X (.BoolOp .And (b::rest) pos) sN):PW X (.BoolOp .And (a::b::rest) pos) (Ak tA sN):=by
 intro wh pins s σ H Q I h
 refine isTrue_and (aP (ha pins s σ H _ I h) fun c s1 ⟨H1,I1,q1⟩=>?_)
 cases c with
 |true=>exact hb wh pins s1 σ H1 Q I1 q1
 |false=>exact⟨H1,I1,q1⟩
theorem DP(ha:PT X a tA)(hb:PW X (.BoolOp .Or (b::rest) pos) sN):PW X (.BoolOp .Or (a::b::rest) pos) (BC tA sN):=by
 intro wh pins s σ H Q I h
 refine isTrue_or (aP (ha pins s σ H _ I h) fun c s1 ⟨H1,I1,q1⟩=>?_)
 cases c with
 |true=>exact⟨H1,I1,q1⟩
 |false=>exact hb wh pins s1 σ H1 Q I1 q1
theorem vY(ha:PT X a tA):PT X (.UnaryOp .Not a pos) (Di tA):=by
 intro pins s σ H Q I h
 exact isTrue_not (ha pins s σ H (fun c H1=>Q (!c) H1) I h)
def DH(ta tb:TE):TE:=fun σ H Q=>ta σ H fun x H1=>∃c,x= .bl c/\if c=true then tb σ H1 Q else Q (.bl false) H1
theorem BI{op}{t:TE}(h:PE X a t):PE X (.BoolOp op [a] pos) t:=fun pins s σ H Q I hw=>BoolOp_one (h pins s σ H Q I hw)
theorem Dg(ha:PE X a ta)(hb:PE X (.BoolOp .And (b::rest) pos) tb):PE X (.BoolOp .And (a::b::rest) pos) (DH ta tb):=by
 intro pins s σ H Q I h
 refine BoolOp_and (aP (ha pins s σ H _ I h) fun v s1 ⟨x,H1,I1,r1,q1⟩=>?_)
 obtain⟨c,rfl,q1⟩:=q1
 cases r1
 refine wpAny_truthy_bool ?_
 cases c with
 |true=>exact hb pins s1 σ H1 Q I1 q1
 |false=>exact⟨.bl false,H1,I1,rfl,q1⟩
def Dr(t:TT)(ta tb:TE):TE:=fun σ H Q=>t σ H fun c H1=>if c=true then ta σ H1 Q else tb σ H1 Q
theorem C5{c:Expr}(hc:PT X c tA)(ha:PE X a ta)(hb:PE X b tb):PE X (.IfExp c a b pos) (Dr tA ta tb):=by
 intro pins s σ H Q I h
 refine wpAny_IfExp (aP (hc pins s σ H _ I h) fun d s1 ⟨H1,I1,q1⟩=>?_)
 cases d with
 |true=>exact ha pins s1 σ H1 Q I1 q1
 |false=>exact hb pins s1 σ H1 Q I1 q1
end
def aS(K:PySem.W.Frag)(H:Hp)(a:Addr)(xs:List V):Prop:=
 Rd H a (.lst xs)\/
  ∃(o:Obj) (its:Array Value) (n:Nat),K.lookup a=some o/\o.cls= .type "list" /\o.dict=none/\o.data= .seq its n/\its.size<=sizeLine/\Vals xs its.toList
def fy(K:PySem.W.Frag)(H:Hp)(a:Addr)(xs:List V):Prop:=
 Rd H a (.tup xs)\/
  ∃(o:Obj) (its:Array Value) (n:Nat),K.lookup a=some o/\o.cls= .type "tuple" /\o.data= .seq its n/\its.size<=sizeLine/\Vals xs its.toList
def Q6:Value->Option V
 | .none=>some .aM
 | .bool b=>some (.bl b)
 | .int i _=>some (.int i)
 | .str x _=>some (.str x)
 | .bytes b _=>some (.iB b)
 | .float b _=>some (.j9 b)
 | .ref a=>some (.ref a)
 | .type n=>some (.ty n)
 |_=>none
theorem RelV.abs{x:V}{u:Value}(r:RelV x u):Q6 u=some x:=by
 cases x with
 |aM=>cases r;rfl
 |bl _=>cases r;rfl
 |int _=>obtain⟨t,rfl⟩:=r;rfl
 |str _=>obtain⟨t,rfl⟩:=r;rfl
 |iB _=>obtain⟨t,rfl⟩:=r;rfl
 |j9 _=>obtain⟨t,rfl⟩:=r;rfl
 |ref _=>cases r;rfl
 |ty _=>cases r;rfl
theorem RelV.inj{x y:V}{u:Value}(r:RelV x u)(q:RelV y u):x=y:=fR (r.abs.symm.trans q.abs)
theorem Vals.inj{xs ys:List V}{us:List Value}(h:Vals xs us)(k:Vals ys us):xs=ys:=by
 induction h generalizing ys with
 |nil=>cases k;rfl
 |cons r t ih=>cases k with|cons r' t'=>rw[r.inj r',ih t']
section
variable{X:Cx}{pins:List (Addr×Obj)}{σ:St}{H:Hp}{s:Shared}{a:Addr}{xs ys:List V}
theorem aS.of{K:PySem.W.Frag}(h:H a=some (.lst xs)):aS K H a xs:= .inl (.inl h)
theorem fy.of{K:PySem.W.Frag}(h:H a=some (.tup xs)):fy K H a xs:= .inl (.inl h)
theorem Inv.list(I:Inv X pins σ H s)(h:aS X.K H a xs):∃its:List Value,Vals xs its/\PlainL s.heap a its.toArray/\xs.length<=sizeLine:=by
 rcases h with h|⟨o,its,n,hk,hc,hd,hs,hz,r⟩
 ·obtain⟨z,its,n,r,e⟩:=h.ok I.hok
  exact⟨its,r,⟨_,n,e,rfl,rfl,rfl⟩,z⟩
 ·refine⟨its.toList,r,⟨o,n,I.dS a o hk,hc,hd,by simpa using hs⟩,?_⟩
  have e:=r.length
  simp only[gb] at e
  omega
theorem Inv.tuple(I:Inv X pins σ H s)(h:fy X.K H a xs):∃its:List Value,Vals xs its/\IsTup s.heap a its.toArray/\xs.length<=sizeLine:=by
 rcases h with h|⟨o,its,n,hk,hc,hs,hz,r⟩
 ·obtain⟨z,its,r,p⟩:=h.ok I.hok
  exact⟨its,r,p,z⟩
 ·refine⟨its.toList,r,⟨o,I.dS a o hk,hc,n,by simpa using hs⟩,?_⟩
  have e:=r.length
  simp only[gb] at e
  omega
theorem Inv.B7(I:Inv X pins σ H s)(h:aS X.K H a xs)(h':aS X.K H a ys):xs=ys:=by
 obtain⟨its,r,⟨o,n,e,_,_,d⟩,_⟩:=I.list h
 obtain⟨its',r',⟨o',n',e',_,_,d'⟩,_⟩:=I.list h'
 rw[e] at e';cases e'
 rw[d] at d'
 injection d' with d1 _
 have:its=its':=by simpa using congrArg Array.toList d1
 subst this
 exact r.inj r'
end
abbrev Cx.jG(X:Cx)(E:Value->Shared->Prop):Cx:={X with xe:=E}
abbrev Cx.tM(X:Cx):Cx:=X.jG fun _ _=>False
theorem Cx.Ok.jG{X:Cx}(ok:X.Ok)(E:Value->Shared->Prop):(X.jG E).Ok:=
 ⟨ok.mod,ok.kind,ok.glob,ok.blt,ok.above,ok.inj,ok.has,ok.pY,ok.hd,ok.frames,ok.stk,ok.sW,ok.bs,ok.mJ,ok.o5,ok.qF,ok.jA,ok.ou⟩
theorem Cx.Ok.kD{X:Cx}{E:Value->Shared->Prop}(ok:(X.jG E).Ok):X.Ok:=
 ⟨ok.mod,ok.kind,ok.glob,ok.blt,ok.above,ok.inj,ok.has,ok.pY,ok.hd,ok.frames,ok.stk,ok.sW,ok.bs,ok.mJ,ok.o5,ok.qF,ok.jA,ok.ou⟩
section
variable{X:Cx}{pins:List (Addr×Obj)}{σ:St}{H:Hp}{s:Shared}{E:Value->Shared->Prop}
theorem Inv.jG(I:Inv X pins σ H s)(E:Value->Shared->Prop):Inv (X.jG E) pins σ H s:=⟨I.ok.jG E,I.os,I.bare,I.base,I.loc,I.cell,I.free,I.iJ,I.pin,I.hok,I.len⟩
theorem Inv.kD(I:Inv (X.jG E) pins σ H s):Inv X pins σ H s:=⟨I.ok.kD,I.os,I.bare,I.base,I.loc,I.cell,I.free,I.iJ,I.pin,I.hok,I.len⟩
theorem SP.kD{D:Ends}{f:Flow}{s':Shared}(h:SP (X.jG E) pins D f s'):SP X pins D f s':=by
 cases f with
 |next=>obtain⟨σ',H',I,q⟩:=h;exact⟨σ',H',I.kD,q⟩
 |brk=>obtain⟨σ',H',I,q⟩:=h;exact⟨σ',H',I.kD,q⟩
 |cont=>obtain⟨σ',H',I,q⟩:=h;exact⟨σ',H',I.kD,q⟩
 |ret u=>obtain⟨v,σ',H',I,r,q⟩:=h;exact⟨v,σ',H',I.kD,r,q⟩
theorem iD.tM{st:List Stmt}{t:TS}(h:iD X.tM st t):iD X st t:=fun pins s σ H D I hw=>
 wpAny_mono (h pins s σ H D (I.jG _) hw) (fun _ _ q=>q.kD) fun _ _ z=>False.elim z
end
section
variable{X:Cx}{st:Stmt}{rest:List Stmt}{t u:TS}{e:Expr}{te:TE}{pos:Pos}
def zU:TS:=fun D σ H=>D.nx σ H
def uF(t u:TS):TS:=fun D σ H=>t {D with nx:=u D} σ H
theorem fE:iD X [] zU:=fun _ _ σ H _ I h=>wpAny_execs_nil ⟨σ,H,I,h⟩
theorem au(h1:PS X st t)(h2:iD X rest u):iD X (st::rest) (uF t u):=by
  intro pins s σ H D I h
  refine wpAny_execs_cons (aP (h1 pins s σ H {D with nx:=u D} I h) fun f s1 q=>?_)
  cases f with
  | next =>
    obtain⟨σ',H',I',q⟩:=q
    exact h2 pins s1 σ' H' D I' q
  |ret v=>exact q
  |brk=>exact q
  |cont=>exact q
theorem aJ(h1:PS X st t):iD X [st] t:=by
 intro pins s σ H D I h
 refine wpAny_execs_cons (aP (h1 pins s σ H D I h) fun f s1 q=>?_)
 cases f with
 |next=>exact wpAny_execs_nil q
 |ret v=>exact q
 |brk=>exact q
 |cont=>exact q
def Rq:TS:=fun D σ H=>D.ct σ H
theorem Inv.quiet{pins:List (Addr×Obj)}{σ:St}{H:Hp}{s:Shared}(I:Inv X pins σ H s):interactive X.env=false:=by simp[interactive,I.ok.kind]
def ua(te:TE):TS:=fun D σ H=>te σ H fun _ H1=>D.nx σ H1
theorem nj(he:PE X e te)(hs:swapsWith e none pos.line X.env=pure false:=by rfl):PS X (.Expr e pos) (ua te):=by
 intro pins s σ H D I h
 exact wpAny_Expr_any (aP (he pins s σ H _ I h) fun v s1 ⟨x,H1,I1,r1,q1⟩=>⟨σ,H1,I1,q1⟩) I.quiet hs
def qN(te:TE):TS:=fun D σ H=>te σ H D.rt
theorem bu(he:PE X e te):PS X (.Return (some e) pos) (qN te):=by
 intro pins s σ H D I h
 exact wpAny_Return_some (aP (he pins s σ H _ I h) fun v s1 ⟨x,H1,I1,r1,q1⟩=>⟨x,σ,H1,I1,r1,q1⟩)
def vq(c:TT)(t u:TS):TS:=fun D σ H=>c σ H fun b H1=>if b=true then t D σ H1 else u D σ H1
theorem fc{c:Expr}{a b:List Stmt}{tc:TT}(hc:PT X c tc)(ha:iD X a t)(hb:iD X b u):PS X (.If c a b pos) (vq tc t u):=by
 intro pins s σ H D I h
 refine wpAny_If (aP (hc pins s σ H _ I h) fun d s1 ⟨H1,I1,q1⟩=>?_)
 cases d with
 |true=>exact ha pins s1 σ H1 D I1 q1
 |false=>exact hb pins s1 σ H1 D I1 q1
end
abbrev TG:=V->St->Hp->(St->Hp->Prop)->Prop
abbrev gX:=List V->St->Hp->(St->Hp->Prop)->Prop
def PG(X:Cx)(target:Expr)(t:TG):Prop:=
 ∀(pins:List (Addr×Obj)) (s:Shared) (σ:St) (H:Hp) (v:V) (u:Value) (Q:St->Hp->Prop),Inv X pins σ H s->RelV v u->t v σ H Q->
  wpAny (model X.prog X.w) X.A (assign target X.env u) (fun _ s'=>∃σ' H',Inv X pins σ' H' s'/\Q σ' H') X.xe s
def qz(X:Cx)(ts:List Expr)(t:gX):Prop:=
 ∀(pins:List (Addr×Obj)) (s:Shared) (σ:St) (H:Hp) (vs:List V) (us:List Value) (Q:St->Hp->Prop),Inv X pins σ H s->Vals vs us->t vs σ H Q->
  wpAny (model X.prog X.w) X.A (assignInOrder ((assignEach ts X.env).map (·.2)) us) (fun _ s'=>∃σ' H',Inv X pins σ' H' s'/\Q σ' H') X.xe s
abbrev rz:=V->V->V->Hp->(Hp->Prop)->Prop
def yd(X:Cx)(t:rz):Prop:=
 ∀(pins:List (Addr×Obj)) (s:Shared) (σ:St) (H:Hp) (o i v:V) (ov iv u:Value) (Q:Hp->Prop),Inv X pins σ H s->RelV o ov->RelV i iv->RelV v u->t o i v H Q->
  wpAny (model X.prog X.w) X.A (setItem ov iv u) (fun _ s'=>∃H',Inv X pins σ H' s'/\Q H') X.xe s
section
variable{X:Cx}{pos:Pos}
def gG(i:Nat):TG:=fun v σ H Q=>Q (σ.set i (some v)) H
theorem aO{i:Nat}{x:Str}(hN:X.N.Nodup)(hi:X.N[i]?=some x)(hx:Loc X.env.scope x)(hf:X.fn x=true\/X.env.scope.names.lookup x=some .local:=by first|exact .inl rfl|exact .inr rfl|assumption):PG X (.Name x pos) (gG i):=by
 intro pins s σ H v u Q I r h
 exact wpAny_assign_Name (EB I hN hi hx r (fun s' I'=>⟨_,H,I',h⟩) hf)
def zh:gX:=fun vs σ H Q=>vs=[]/\Q σ H
def AW(t:TG)(u:gX):gX:=fun vs σ H Q=>∃v r,vs=v::r/\t v σ H fun σ' H'=>u r σ' H' Q
theorem gR:qz X [] zh:=by
 intro pins s σ H vs us Q I r h
 obtain⟨e,h⟩:=h
 subst e
 cases r
 exact assignInOrder_nil ⟨σ,H,I,h⟩
theorem bV{e:Expr}{es:List Expr}{t:TG}{u:gX}(h1:PG X e t)(h2:qz X es u)
    (hs:(assignEach (e::es) X.env).map (·.2)=assign e X.env::(assignEach es X.env).map (·.2):=by rfl):qz X (e::es) (AW t u):=by
  intro pins s σ H vs us Q I r h
  obtain⟨v,vr,e1,h⟩:=h
  subst e1
  cases r with
  | cons r rr =>
    rw[hs]
    refine assignInOrder_cons (aP (h1 pins s σ H _ _ _ I r h) fun _ s1 ⟨σ1,H1,I1,q1⟩=>?_)
    exact h2 pins s1 σ1 H1 _ _ Q I1 rr q1
def tE(K:PySem.W.Frag)(n:Nat)(t:gX):TG:=fun v σ H Q=>∃a xs,v= .ref a/\fy K H a xs/\xs.length=n/\t xs σ H Q
theorem HG{es:List Expr}{k:Nat}{t:gX}{n:Nat}(hc:X.calm=true)(h:qz X es t)
  (hn:(assignEach es X.env).length=n:=by rfl) (hst:(assignEach es X.env).findIdx? (·.1)=none:=by rfl):PG X (.Tuple es k pos) (tE X.K n t):=by
 intro pins s σ H v u Q I r hw
 obtain⟨a,xs,e1,hq,hl,hw⟩:=hw
 subst e1
 cases r
 obtain⟨its,rv,ht,hz⟩:=I.tuple hq
 refine assign_Tuple_tuple (I.ok.hd hc) ht (by simp[hn,<-hl,rv.length]) hst fun h' hx=>?_
 have I1:Inv X pins σ H {s with heap:=h'}:=I.kept (t':=s.toks) fun b o e=>hx b o (bK (aW e)) e
 exact h pins _ σ H xs _ Q I1 (by simpa using rv) hw
def pS(to ti:TE)(t:rz):TG:=fun v σ H Q=>to σ H fun o H1=>ti σ H1 fun i H2=>t o i v H2 fun H3=>Q σ H3
theorem l8{o i:Expr}{to ti:TE}{t:rz}(ho:PE X o to)(hi:PE X i ti)(hs:yd X t)
  (ha : ∀ v, assign (.Subscript o i pos) X.env v = (do
   let ov<-holding [v] (eval o X.env)
   let iv<-holding [v,ov] (eval i X.env)
   standAt pos
   holding [v,ov,iv] (setItem ov iv v)
   release [v,ov,iv] []):=by intro _;rfl):PG X (.Subscript o i pos) (pS to ti t):=by
 intro pins s σ H v u Q I r h
 rw[ha]
 refine wpAny_bind (wpAny_holding (aP (ho pins s σ H _ I h) fun ov s1 ⟨x,H1,I1,r1,q1⟩=>?_))
 refine wpAny_bind (wpAny_holding (aP (hi pins s1 σ H1 _ I1 q1) fun iv s2 ⟨y,H2,I2,r2,q2⟩=>?_))
 refine wpAny_bind (wpAny_standAt (wpAny_bind (wpAny_holding (aP (hs pins s2 σ H2 x y v ov iv u _ I2 r1 r2 r q2) fun _ s3 ⟨H3,I3,q3⟩=>?_))))
 exact wpAny_release ⟨σ,H3,I3,q3⟩
def jb(te:TE)(g:TG):TS:=fun D σ H=>te σ H fun x H1=>g x σ H1 D.nx
theorem iY{tg e:Expr}{te:TE}{g:TG}(he:PE X e te)(hg:PG X tg g)(hs:swapsWithSole [tg] e pos.line X.env=pure false:=by rfl)(hw:swappedStores [tg] e X.env=pure none:=by rfl)
  (h1:(assignEach [tg] X.env).map (·.2)=[assign tg X.env]:=by rfl):PS X (.Assign [tg] e pos) (jb te g):=by
 intro pins s σ H D I h
 refine wpAny_Assign_stores (aP (he pins s σ H _ I h) fun v s1 ⟨x,H1,I1,r1,q1⟩=>?_) hs hw
 rw[h1]
 exact aP (hg pins s1 σ H1 x v _ I1 r1 q1) fun _ s2 q=>q
theorem aN{i:Nat}{x:Str}{e:Expr}{te:TE}{pos':Pos}(hN:X.N.Nodup)(hi:X.N[i]?=some x)(hx:Loc X.env.scope x)(he:PE X e te)(hs:swapsWith e (some (.Name x pos')) pos.line X.env=pure false:=by rfl)(hf:X.fn x=true\/X.env.scope.names.lookup x=some .local:=by first|exact .inl rfl|exact .inr rfl|assumption):
  PS X (.Assign [.Name x pos'] e pos) (jb te (gG i)):=by
 intro pins s σ H D I h
 refine wpAny_Assign_Name (aP (he pins s σ H _ I h) fun v s1 ⟨y,H1,I1,r1,q1⟩=>?_) hs
 exact EB I1 hN hi hx r1 (fun s2 I2=>⟨_,H1,I2,q1⟩) hf
end
section
variable{X:Cx}{pos:Pos}
def xo(c:TT)(tb:TS):TS:=fun D σ H=>∃W:Nat->St->Hp->Prop,(∃m,W m σ H)/\∀m σ H,W m σ H->
 c σ H fun b H1=>if b=true then∃N:St->Hp->Prop,(∀σ' H',N σ' H'->∃m',m'<m/\W m' σ' H')/\tb {D with nx:=N,ct:=N,bk:=D.nx} σ H1 else D.nx σ H1
theorem xS{c:Expr}{body:List Stmt}{tc:TT}{tb:TS}(hp:PassesOwn (model X.prog X.w) X.A X.env X.xe)(hc:PT X c tc)(hb:iD X body tb):PS X (.While c body [] pos) (xo tc tb):=by
  intro pins s σ H D I h
  obtain⟨W,⟨m0,w0⟩,turn⟩:=h
  refine wpAny_While (codeAny_whileLoop (fun n s'=>∃σ' H',Inv X pins σ' H' s'/\W n σ' H') ?_ m0 ⟨σ,H,I,w0⟩)
  rintro n s1 ⟨σ1,H1,I1,w1⟩
  refine wpAny_passesOwn hp (aP (hc pins s1 σ1 H1 _ I1 (turn n σ1 H1 w1)) fun b s2 ⟨H2,I2,q2⟩=>?_)
  cases b with
  | true =>
    obtain⟨N,hN,q2⟩:=q2
    rw[if_pos rfl]
    refine wpAny_passesOwn hp (aP (hb pins s2 σ1 H2 _ I2 q2) fun f s3 q3=>?_)
    cases f with
    | next =>
      obtain⟨σ3,H3,I3,n3⟩:=q3
      obtain⟨m',hm,w3⟩:=hN σ3 H3 n3
      exact⟨m',hm,σ3,H3,I3,w3⟩
    | cont =>
      obtain⟨σ3,H3,I3,n3⟩:=q3
      obtain⟨m',hm,w3⟩:=hN σ3 H3 n3
      exact⟨m',hm,σ3,H3,I3,w3⟩
    |brk=>exact q3
    |ret v=>exact q3
  | false =>
    rw[if_neg c8]
    exact wpAny_execs_nil ⟨σ1,H2,I2,q2⟩
end
structure It where
 go:Nat->Hp->Prop
 kL:Nat->Hp->V->Hp->Prop
 stop:Nat->Hp->Prop
def iu(X:Cx)(pins:List (Addr×Obj))(H:Hp)(b:Addr):Prop:=
 H b=none/\b≠X.env.locals/\b∉X.fs/\(b∈X.ex\/X.s₀.heap.objs.size<=b)/\(∀x c,X.env.cells.lookup x=some c->c≠b)/\∀p∈X.pn++pins,p.1≠b
theorem Inv.oF{X:Cx}{pins:List (Addr×Obj)}{σ:St}{H H':Hp}{s:Shared}{b:Addr}(I:Inv X pins σ H s)(hb:s.heap.objs.size<=b)(hn:H' b=none):iu X pins H' b:=by
 refine⟨hn,lC (dI I.lt hb),I.Ug hb, .inr (dH I.sz hb),fun x c e z=>?_,fun p hp z=>?_⟩
 ·obtain⟨v,q⟩:=I.cell x c e
  exact absurd (dI q.lt (by rw[z];exact hb)) (iV _)
 ·exact absurd (dI (aW (I.pin p hp).1) (by rw[z];exact hb)) (iV _)
structure Turn(P:Program)(w:World)(K:PySem.W.Frag)(tg:Expr)(J:It)(fp:List Addr)(it:Addr)(tn:Nat->Heap->Prop):Prop where
 mem:it∈fp
 obj:∀i h,tn i h->∀b∈fp,∃o,h.get? b=some o/\∀v,o.data≠ .cell v
 keep:∀i h h',tn i h->(∀b∈fp,∀o,h.get? b=some o->h'.get? b=some o)->tn i h'
 item:∀(X:Cx),X.prog=P->X.w=w->X.K=K->X.calm=true->∀(i:Nat) (pins:List (Addr×Obj)) (s:Shared) (σ:St) (H:Hp) (E:Value->Shared->Prop),Inv X pins σ H s->(∀b∈fp,iu X pins H b)->tn i s.heap->J.go i H->
  wpAny (model P w) X.A (pyNext (.ref it)) (fun r s1=>∃u,r=some u/\
   wpAny (model P w) X.A (letOwnedTupleGo tg (.ref it) u) (fun _ s2=>∃x H',Inv X pins σ H' s2/\RelV x u/\J.kL i H x H'/\tn (i+1) s2.heap/\∀b∈fp,H' b=none) E s1) E s
 done:∀(X:Cx),X.prog=P->X.w=w->X.K=K->X.calm=true->∀(i:Nat) (pins:List (Addr×Obj)) (s:Shared) (σ:St) (H:Hp) (E:Value->Shared->Prop),Inv X pins σ H s->(∀b∈fp,iu X pins H b)->tn i s.heap->J.stop i H->
  wpAny (model P w) X.A (pyNext (.ref it)) (fun r s1=>r=none/\Inv X pins σ H s1) E s
 self:∀(A:Around) (i:Nat) (s:Shared) (Q:Value->Shared->Prop) (E:Value->Shared->Prop),tn i s.heap->Q (.ref it) s->wpAny (model P w) A (pyIter (.ref it)) Q E s
abbrev TI:=St->Hp->(It->Hp->Prop)->Prop
def BA(X:Cx)(pins:List (Addr×Obj))(σ:St)(tg:Expr)(R:It->Hp->Prop)(itv:Value)(s2:Shared):Prop:=
 ∃(it:Addr) (fp:List Addr) (tn:Nat->Heap->Prop) (J:It) (H':Hp),itv= .ref it/\Inv X pins σ H' s2/\Turn X.prog X.w X.K tg J fp it tn/\tn 0 s2.heap/\(∀b∈fp,iu X pins H' b)/\R J H'
def PI(X:Cx)(tg iter:Expr)(wi:TI):Prop:=
 ∀(pins:List (Addr×Obj)) (s:Shared) (σ:St) (H:Hp) (R:It->Hp->Prop),Inv X pins σ H s->wi σ H R->
  wpAny (model X.prog X.w) X.A (eval iter X.env) (fun v s1=>wpAny (model X.prog X.w) X.A (pyIter v) (BA X pins σ tg R) X.xe s1) X.xe s
theorem zG{M:Model}{A:Around}{E:Value->Shared->Prop}{s:Shared}{tg:Expr}{it:Addr}{u:Value}{o:Obj}{n:String}{vs:Array Value}{Q:Unit->Shared->Prop}(ho:s.heap.get? it=some o)(hc:o.cls= .type n)(hd:o.data= .fields vs)
    (hn:["enumerate","zip","dict_itemiterator","dict_reverseitemiterator","odict_iterator","itertools.zip_longest","itertools.pairwise"].contains n=false) (hQ:Q () s):wpAny M A (letOwnedTupleGo tg (.ref it) u) Q E s:=by
  unfold letOwnedTupleGo
  cases tg<;>first
    |exact wpAny_pure hQ
    |(cases u<;>first
        |exact wpAny_pure hQ
        | (refine wpAny_bind (wpAny_load ho ?_)
           rw[hc,hd]
           show wpAny M A (if(["enumerate","zip","dict_itemiterator","dict_reverseitemiterator","odict_iterator","itertools.zip_longest","itertools.pairwise"].contains n && vs[0]?==some (rawInt _))=true then _ else _) Q E s
           rw[if_neg (by intro h;rw[hn,Bool.false_and] at h;cases h)]
           exact wpAny_pure hQ))
def lO(K:PySem.W.Frag)(a:Addr):It:=
 ⟨fun i H=>∃xs x,aS K H a xs/\xs[i]?=some x,fun i H x H'=>H'=H/\∀xs,aS K H a xs->xs[i]?=some x,fun i H=>∃xs,aS K H a xs/\xs.length<=i⟩
def g8(lo:Int)(n:Nat):It:=⟨fun i _=>i<n,fun i H x H'=>H'=H/\x= .int (lo+i),fun i _=>n<=i⟩
theorem Ku{P:Program}{w:World}{K:PySem.W.Frag}{tg:Expr}(a it:Addr):Turn P w K tg (lO K a) [it] it (fun i h=>h.IsListIter it a i) where
 mem:=by simp
 obj:=fun i h st b hb=>by
  have e:b=it:=by simpa using hb
  subst e
  obtain⟨o,e,c,d⟩:=st
  exact⟨o,e,fun v z=>by rw[d] at z;cases z⟩
 keep:=fun i h h' st k=>st.at fun o e=>k it (by simp) o e
 item:=by
  intro X hP hw hK hc i pins s σ H E I hf st hg
  subst hP hw hK
  obtain⟨xs,x,hq,hx⟩:=hg
  obtain⟨its,rv,p,hz⟩:=I.list hq
  obtain⟨u,hu,ru⟩:=rv.get hx
  obtain⟨f0,f1,f2,f3,f4,f5⟩:=hf it (by simp)
  refine wpAny_pyNext_list_item st p.isList (x:=u) (by simpa using hu) fun h' st' sb=>?_
  have I1:Inv X pins σ H {s with heap:=h'}:=I.turned (t':=s.toks) (fun b o hb e=>(sb.2 b hb).trans e) f0 f1 f3 f4 f5
  obtain⟨o,e,c,d⟩:=id st'
  exact⟨u,rfl,zG (s:={s with heap:=h'}) e c d (by decide) ⟨x,H,I1,ru,⟨rfl,fun ys hy=>by rw[I.B7 hy hq];exact hx⟩,st',fun b hb=>(hf b hb).1⟩⟩
 done:=by
  intro X hP hw hK hc i pins s σ H E I hf st hg
  subst hP hw hK
  obtain⟨xs,hq,hx⟩:=hg
  obtain⟨its,rv,p,hz⟩:=I.list hq
  obtain⟨f0,f1,f2,f3,f4,f5⟩:=hf it (by simp)
  have hl:=rv.length
  exact wpAny_pyNext_list_end (I.ok.hd hc) st p.isList (by simp;omega) fun h' eb=>⟨rfl,I.turned (t':=s.toks) (fun b o hb e=>eb b o hb e) f0 f1 f3 f4 f5⟩
 self:=fun _ _ _ _ _ st h=>wpAny_pyIter_listiter st h
theorem Ub{P:Program}{w:World}{K:PySem.W.Frag}{tg:Expr}(it:Addr)(lo:Int)(n:Nat):Turn P w K tg (g8 lo n) [it] it (fun i h=>IsRangeIter h it (lo+(i:Nat)*1) ((n:Int)-(i:Nat)) 1) where
 mem:=by simp
 obj:=fun i h st b hb=>by
  have e:b=it:=by simpa using hb
  subst e
  exact⟨_,st,fun v z=>by
   have z':Data.fields _=Data.cell v:=z
   cases z'⟩
 keep:=fun i h h' st k=>k it (by simp) _ st
 item:=by
  intro X hP hw hK hc i pins s σ H E I hf st hg
  subst hP hw hK
  obtain⟨f0,f1,f2,f3,f4,f5⟩:=hf it (by simp)
  have W:=Walks.range (prog:=X.prog) (w:=X.w) (I.ok.hd hc) it lo 1 n
  refine W.item i s _ _ hg st fun v h' tk hv st' kk=>?_
  obtain⟨t,rfl⟩:=hv
  have I1:Inv X pins σ H {s with heap:=h',toks:=tk}:=I.turned (fun b o hb e=>kk b o (by simpa using hb) e) f0 f1 f3 f4 f5
  refine⟨_,rfl,zG (s:={s with heap:=h',toks:=tk}) (n:="range_iterator") st' rfl rfl (by decide) ⟨.int (lo+i),H,I1,⟨t,?_⟩,⟨rfl,rfl⟩,st',fun b hb=>(hf b hb).1⟩⟩
  rw[Int.mul_one]
 done:=by
  intro X hP hw hK hc i pins s σ H E I hf st hg
  subst hP hw hK
  obtain⟨f0,f1,f2,f3,f4,f5⟩:=hf it (by simp)
  exact wpAny_pyNext_range_end (I.ok.hd hc) st (by have:n<=i:=hg;omega) fun h' eb=>⟨rfl,I.turned (t':=s.toks) (fun b o hb e=>eb b o hb e) f0 f1 f3 f4 f5⟩
 self:=fun _ _ _ _ _ st h=>wpAny_pyIter_rangeiter st h
section
variable{X:Cx}{tg:Expr}
def pX(K:PySem.W.Frag)(tl:TE):TI:=fun σ H R=>tl σ H fun x H1=>∃a,x= .ref a/\(∃xs,aS K H1 a xs)/\R (lO K a) H1
theorem fj{l:Expr}{tl:TE}(hl:PE X l tl):PI X tg l (pX X.K tl):=by
 intro pins s σ H R I h
 refine aP (hl pins s σ H _ I h) fun v s1 ⟨x,H1,I1,r1,q1⟩=>?_
 obtain⟨a,e,⟨xs,hq⟩,q⟩:=q1
 subst e
 cases r1
 obtain⟨its,rv,p,hz⟩:=I1.list hq
 refine wpAny_pyIter_list p.isList ?_
 refine⟨s1.heap.objs.size,[s1.heap.objs.size],_,_,H1,rfl,I1.kept (t':=s1.toks) fun b o e=>bw _ e,Ku a _,⟨_,eF _ rfl,rfl,rfl⟩,fun b hb=>?_,q⟩
 have e:b=s1.heap.objs.size:=by simpa using hb
 subst e
 exact I1.oF (aK _) (I1.hok.fresh (aK _))
theorem CN{pins:List (Addr×Obj)}{σ:St}{H:Hp}{s:Shared}{R:It->Hp->Prop}{E:Value->Shared->Prop}{lo hi:Int}{t u v:Tok}{tk:Nat}(I:Inv X pins σ H s)(h1: -(2^62)<=lo)(h2:lo<2^62)(h3: -(2^62)<=hi)(h4:hi<2^62)
  (q:R (g8 lo (hi-lo).toNat) H):wpAny (model X.prog X.w) X.A (pyIter (.ref s.heap.objs.size)) (BA X pins σ tg R) E {s with heap:=s.heap.push {cls:= .type "range",data:= .fields #[.int lo t, .int hi u, .int 1 v]},toks:=tk}:=by
 refine wpAny_pyIter_range (IsRange.new ..) (small_one h1 h2 h3 h4) ?_
 have I1:Inv X pins σ H {s with heap:=s.heap.push {cls:= .type "range",data:= .fields #[.int lo t, .int hi u, .int 1 v]},toks:=tk}:=I.kept fun b o e=>bw _ e
 refine⟨(s.heap.push {cls:= .type "range",data:= .fields #[.int lo t, .int hi u, .int 1 v]}).objs.size,[(s.heap.push {cls:= .type "range",data:= .fields #[.int lo t, .int hi u, .int 1 v]}).objs.size],_,_,H,rfl,
  I1.kept (t':=tk) fun b o e=>bw _ e,Ub _ lo (hi-lo).toNat,?_,fun b hb=>?_,q⟩
 ·have e1:lo+((0:Nat):Int)*1=lo:=by simp
  have e2:(((hi-lo).toNat:Nat):Int)-((0:Nat):Int)=Builtin.Range.rangeSize lo hi 1:=by rw[rangeSize_one];split<;>omega
  show IsRangeIter _ _ (lo+((0:Nat):Int)*1) ((((hi-lo).toNat:Nat):Int)-((0:Nat):Int)) 1
  rw[e1,e2]
  exact eF _ rfl
 ·have e:b=(s.heap.push {cls:= .type "range",data:= .fields #[.int lo t, .int hi u, .int 1 v]}).objs.size:=by simpa using hb
  subst e
  exact I1.oF (aK _) (I1.hok.fresh (aK _))
def sA(ta:TA):TI:=fun σ H R=>ta σ H fun vs H1=>∃j:Int,vs=[.int j]/\ -(2^62)<=j/\j<2^62/\R (g8 0 j.toNat) H1
def HE(ta:TA):TI:=fun σ H R=>ta σ H fun vs H1=>∃i j:Int,vs=[.int i, .int j]/\(-(2^62)<=i/\i<2^62/\ -(2^62)<=j/\j<2^62)/\R (g8 i (j-i).toNat) H1
theorem iN{a:Expr}{ta:TA}{p pos:Pos}(hg:Gl X "range")(hm:X.mg "range"=none)(ha:PA X [a] ta)(hs:starEach [a] X.env=[(false,eval a X.env)]:=by rfl):PI X tg (.Call (.Name "range" p) [a] [] pos) (sA ta):=by
  intro pins s σ H R I h
  refine Call_ (nI I hg hm boot_range (uc (aP (ha pos pins s σ H _ I h) fun us s1 ⟨vs,H1,I1,r1,q1⟩=>?_) hs rfl))
  obtain⟨j,e,q1,q2,q⟩:=q1
  subst e
  cases r1 with
  | cons r rr =>
    cases rr
    obtain⟨t,rfl⟩:=r
    exact call_range_1 (CN I1 (by omega) (by omega) q1 q2 (by simpa using q))
theorem DN{a b:Expr}{ta:TA}{p pos:Pos}(hg:Gl X "range")(hm:X.mg "range"=none)(ha:PA X [a,b] ta)(hs:starEach [a,b] X.env=[(false,eval a X.env),(false,eval b X.env)]:=by rfl)(hs2:starEach [b] X.env=[(false,eval b X.env)]:=by rfl):
    PI X tg (.Call (.Name "range" p) [a,b] [] pos) (HE ta):=by
  intro pins s σ H R I h
  refine Call_ (nI I hg hm boot_range (uc (aP (ha pos pins s σ H _ I h) fun us s1 ⟨vs,H1,I1,r1,q1⟩=>?_) (by rw[hs,hs2]) (by rw[hs2];rfl)))
  obtain⟨i,j,e,⟨q1,q2,q3,q4⟩,q⟩:=q1
  subst e
  cases r1 with
  | cons r rr =>
    cases rr with
    | cons r' rr =>
      cases rr
      obtain⟨t,rfl⟩:=r
      obtain⟨t',rfl⟩:=r'
      exact call_range_2 (CN I1 q1 q2 q3 q4 q)
def mT(wi:TI)(g:TG)(tb:TS):TS:=fun D σ H=>wi σ H fun J H1=>∃W:Nat->Nat->St->Hp->Prop,(∃m,W 0 m σ H1)/\∀i m σ H,W i m σ H->
 (J.stop i H/\D.nx σ H)\/(J.go i H/\∃N:St->Hp->Prop,(∀σ' H',N σ' H'->∃m',m'<m/\W (i+1) m' σ' H')/\∀x H',J.kL i H x H'->g x σ H' fun σ2 H2=>tb {D with nx:=N,ct:=N,bk:=D.nx} σ2 H2)
def o9(fp:List Addr)(h:Heap):List (Addr×Obj):=fp.filterMap fun b=>(h.get? b).map fun o=>(b,o)
theorem sZ{fp:List Addr}{h:Heap}{b:Addr}{o:Obj}(hb:b∈fp)(e:h.get? b=some o):(b,o)∈o9 fp h:=Aj.mpr ⟨b,hb,by rw[e];rfl⟩
theorem JZ{fp:List Addr}{h:Heap}{p:Addr×Obj}(hp:p∈o9 fp h):p.1∈fp/\h.get? p.1=some p.2:=by
  obtain⟨b,hb,e⟩:=Aj.mp hp
  cases q:h.get? b with
  |none=>rw[q] at e;cases e
  | some o =>
    rw[q] at e
    have e':(b,o)=p:=fR e
    subst e'
    exact⟨hb,q⟩
theorem Inv.pinned{pins:List (Addr×Obj)}{σ:St}{H:Hp}{s:Shared}{fp:List Addr}(I:Inv X pins σ H s)(hf:∀b∈fp,iu X pins H b)(ho:∀b∈fp,∃o,s.heap.get? b=some o/\∀v,o.data≠ .cell v):Inv X (pins++o9 fp s.heap) σ H s:=
 I.El fun p hp=>(iQ.mp hp).elim (fun z=>I.pin p (jT _ z)) fun z=>by
  obtain⟨hb,e⟩:=JZ z
  obtain⟨f0,f1,f2,_⟩:=hf p.1 hb
  obtain⟨o,e',d⟩:=ho p.1 hb
  rw[e] at e';cases e'
  exact⟨e,f0,f1,f2,d⟩
theorem Inv.uf{pins pl:List (Addr×Obj)}{σ:St}{H:Hp}{s:Shared}(I:Inv X (pins++pl) σ H s):Inv X pins σ H s:=I.El fun p hp=>I.pin p (jT _ (HK _ hp))
theorem gE{iter:Expr}{body:List Stmt}{wi:TI}{g:TG}{tb:TS}{pos:Pos}(hp:PassesOwn (model X.prog X.w) X.A X.env X.xe)(hc:X.calm=true)(hi:PI X tg iter wi)(hg:PG X tg g)(hb:iD X body tb)
  (hs:∀x,foldedSetIterable iter X.env x=pure x:=by intro _;rfl):PS X (.For tg iter body [] pos) (mT wi g tb):=by
 intro pins s σ H D I h
 refine wpAny_For (aP (hi pins s σ H _ I h) fun v s1 h1=>aP h1 fun itv s2 h2=>?_) hs
 obtain⟨it,fp,tn,J,H2,e,I2,T,st2,f2,W,⟨m0,w0⟩,turn⟩:=h2
 subst e
 have kE:∀{H':Hp},(∀b∈fp,H' b=none)->∀b∈fp,iu X pins H' b:=fun hn b hb=>⟨hn b hb,(f2 b hb).2⟩
 refine codeAny_forLoop_any (fun n s'=>∃i σ' H',Inv X pins σ' H' s'/\tn i s'.heap/\(∀b∈fp,H' b=none)/\W i n σ' H') ?_ m0 ⟨0,σ,H2,I2,st2,fun b hb=>(f2 b hb).1,w0⟩
 rintro n s3 ⟨i,σ3,H3,I3,st3,fr3,w3⟩
 rcases turn i n σ3 H3 w3 with ⟨stop,qn⟩|⟨go,N,hN,step⟩
 ·refine wpAny_passesOwn hp (aP (T.done X rfl rfl rfl hc i pins s3 σ3 H3 X.xe I3 (kE fr3) st3 stop) fun r s4 ⟨hr,I4⟩=>?_)
  subst hr
  exact wpAny_execs_nil ⟨σ3,H3,I4,qn⟩
 ·refine wpAny_passesOwn hp (aP (T.item X rfl rfl rfl hc i pins s3 σ3 H3 X.xe I3 (kE fr3) st3 go) fun r s4 ⟨u,hr,h4⟩=>?_)
  subst hr
  refine wpAny_passesOwn hp (aP h4 fun _ s5 ⟨x,H5,I5,r5,y5,mF,u7⟩=>?_)
  have wj:=I5.pinned (kE u7) (T.obj _ _ mF)
  refine wpAny_passesOwn hp (aP (hg _ s5 σ3 H5 x u _ wj r5 (step x H5 y5)) fun _ s6 ⟨pB,H6,I6,q6⟩=>?_)
  refine wpAny_passesOwn hp (aP (hb _ s6 pB H6 _ I6 q6) fun f s7 q7=>?_)
  have again:∀{fu:St} {H7:Hp},Inv X (pins++o9 fp s5.heap) fu H7 s7->N fu H7->∃m,m<n/\∃i σ' H',Inv X pins σ' H' s7/\tn i s7.heap/\(∀b∈fp,H' b=none)/\W i m σ' H':=fun{fu H7} I7 n7=>by
   obtain⟨m',hm,w7⟩:=hN fu H7 n7
   refine⟨m',hm,i+1,fu,H7,I7.uf,T.keep _ _ _ mF fun b hb o e=>(I7.pin (b,o) (jT _ (jT _ (sZ hb e)))).1,fun b hb=>?_,w7⟩
   obtain⟨o,e,d⟩:=T.obj _ _ mF b hb
   exact(I7.pin (b,o) (jT _ (jT _ (sZ hb e)))).2.1
  cases f with
  |next=>obtain⟨fu,H7,I7,n7⟩:=q7;exact again I7 n7
  |cont=>obtain⟨fu,H7,I7,n7⟩:=q7;exact again I7 n7
  |brk=>obtain⟨fu,H7,I7,q7⟩:=q7;exact⟨fu,H7,I7.uf,q7⟩
  |ret v=>obtain⟨x7,fu,H7,I7,r7,q7⟩:=q7;exact⟨x7,fu,H7,I7.uf,r7,q7⟩
end
theorem GN{K:PySem.W.Frag}{a:Addr}{xs:List V}{g:TG}{tb:TS}{D:Ends}{σ:St}{H:Hp}(Pv:Nat->St->Hp->Prop)(h0:Pv 0 σ H)(hl:∀i σ H,i<=xs.length->Pv i σ H->aS K H a xs)
  (hs:∀i x σ H,xs[i]?=some x->Pv i σ H->g x σ H fun σ2 H2=>tb {D with nx:=Pv (i+1),ct:=Pv (i+1),bk:=D.nx} σ2 H2) (hd:∀σ H,Pv xs.length σ H->D.nx σ H):
  ∃W:Nat->Nat->St->Hp->Prop,(∃m,W 0 m σ H)/\∀i m σ H,W i m σ H->
   ((lO K a).stop i H/\D.nx σ H)\/((lO K a).go i H/\∃N:St->Hp->Prop,(∀σ' H',N σ' H'->∃m',m'<m/\W (i+1) m' σ' H')/\∀x H',(lO K a).kL i H x H'->g x σ H' fun σ2 H2=>tb {D with nx:=N,ct:=N,bk:=D.nx} σ2 H2):=by
 refine⟨fun i m σ H=>m=xs.length-i/\i<=xs.length/\Pv i σ H,⟨xs.length,by simp,fF _,h0⟩,?_⟩
 rintro i m σ H ⟨rfl,hi,p⟩
 have q:=hl i σ H hi p
 by_cases hlt:i<xs.length
 ·refine .inr ⟨⟨xs,xs[i],q,by simp[hlt]⟩,Pv (i+1),fun σ' H' p'=>⟨xs.length-(i+1),by omega,rfl,hlt,p'⟩,fun x H' y=>?_⟩
  obtain⟨e,y⟩:=y
  subst e
  exact hs i x σ _ (y xs q) p
 ·have e:i=xs.length:=by omega
  subst e
  exact .inl ⟨⟨xs,q,aK _⟩,hd σ H p⟩
theorem uL{lo:Int}{n:Nat}{g:TG}{tb:TS}{D:Ends}{σ:St}{H:Hp}(Pv:Nat->St->Hp->Prop)(h0:Pv 0 σ H)
  (hs:∀i σ H,i<n->Pv i σ H->g (.int (lo+i)) σ H fun σ2 H2=>tb {D with nx:=Pv (i+1),ct:=Pv (i+1),bk:=D.nx} σ2 H2) (hd:∀σ H,Pv n σ H->D.nx σ H):
  ∃W:Nat->Nat->St->Hp->Prop,(∃m,W 0 m σ H)/\∀i m σ H,W i m σ H->
   ((g8 lo n).stop i H/\D.nx σ H)\/((g8 lo n).go i H/\∃N:St->Hp->Prop,(∀σ' H',N σ' H'->∃m',m'<m/\W (i+1) m' σ' H')/\∀x H',(g8 lo n).kL i H x H'->g x σ H' fun σ2 H2=>tb {D with nx:=N,ct:=N,bk:=D.nx} σ2 H2):=by
 refine⟨fun i m σ H=>m=n-i/\i<=n/\Pv i σ H,⟨n,by simp,fF _,h0⟩,?_⟩
 rintro i m σ H ⟨rfl,hi,p⟩
 by_cases hlt:i<n
 ·refine .inr ⟨hlt,Pv (i+1),fun σ' H' p'=>⟨n-(i+1),by omega,rfl,hlt,p'⟩,fun x H' y=>?_⟩
  obtain⟨e,y⟩:=y
  subst e y
  exact hs i σ _ hlt p
 ·have e:i=n:=by omega
  subst e
  exact .inl ⟨aK _,hd σ H p⟩
theorem Nq{c:TT}{tb:TS}{D:Ends}{σ:St}{H:Hp}(Pv:St->Hp->Prop)(μ:St->Hp->Nat)(h0:Pv σ H)
  (hs:∀σ H,Pv σ H->c σ H fun b H1=>if b=true then tb {D with nx:=fun σ' H'=>Pv σ' H'/\μ σ' H'<μ σ H,ct:=fun σ' H'=>Pv σ' H'/\μ σ' H'<μ σ H,bk:=D.nx} σ H1 else D.nx σ H1)
  (mono:∀σ H Q Q',(∀b H1,Q b H1->Q' b H1)->c σ H Q->c σ H Q'):xo c tb D σ H:=by
 refine⟨fun m σ H=>m=μ σ H/\Pv σ H,⟨_,rfl,h0⟩,?_⟩
 rintro m σ H ⟨rfl,p⟩
 refine mono σ H _ _ (fun b H1 q=>?_) (hs σ H p)
 cases b with
 |true=>exact⟨_,fun σ' H' ⟨p',l⟩=>⟨_,l,rfl,p'⟩,q⟩
 |false=>exact q
abbrev R2:=V->V->Hp->VK->Prop
def dX(X:Cx)(f:Value->Value->Sem Value)(r:R2):Prop:=
 ∀(pins:List (Addr×Obj)) (s:Shared) (σ:St) (H:Hp) (x y:V) (v u:Value) (Q:VK),Inv X pins σ H s->RelV x v->RelV y u->r x y H Q->
  wpAny (model X.prog X.w) X.A (f v u) (EP X pins σ Q) X.xe s
def uG(X:Cx)(f:Value->Sem Value)(r:V->Hp->VK->Prop):Prop:=
 ∀(pins:List (Addr×Obj)) (s:Shared) (σ:St) (H:Hp) (x:V) (v:Value) (Q:VK),Inv X pins σ H s->RelV x v->r x H Q->
  wpAny (model X.prog X.w) X.A (f v) (EP X pins σ Q) X.xe s
def eE(X:Cx)(f:Value)(r:List V->Hp->VK->Prop):Prop:=
 ∀(pins:List (Addr×Obj)) (s:Shared) (σ:St) (H:Hp) (xs:List V) (us:List Value) (Q:VK),Inv X pins σ H s->Vals xs us->r xs H Q->
  wpAny (model X.prog X.w) X.A (call f us) (EP X pins σ Q) X.xe s
def LA(X:Cx)(r:V->Hp->(Bool->Hp->Prop)->Prop):Prop:=
 ∀(pins:List (Addr×Obj)) (s:Shared) (σ:St) (H:Hp) (x:V) (v:Value) (Q:Bool->Hp->Prop),Inv X pins σ H s->RelV x v->r x H Q->
  wpAny (model X.prog X.w) X.A (truthy v) (TP X pins σ Q) X.xe s
def dw(r:R2)(ta tb:TE):TE:=fun σ H Q=>ta σ H fun x H1=>tb σ H1 fun y H2=>r x y H2 Q
def zV(r:V->Hp->VK->Prop)(ta:TE):TE:=fun σ H Q=>ta σ H fun x H1=>r x H1 Q
def rI(C:Int->Int->Prop)(g:Int->Int->V):R2:=fun x y H Q=>∃i j,x= .int i/\y= .int j/\C i j/\Q (g i j) H
def gU(g:Int->Int->V):R2:=fun x y H Q=>∃i j,x= .int i/\y= .int j/\Q (g i j) H
def rU(g:Int->V):V->Hp->VK->Prop:=fun x H Q=>∃i,x= .int i/\Q (g i) H
section
variable{X:Cx}{a b c:Expr}{ta tb tc:TE}{pos:Pos}
theorem AN(ha:PE X a ta)(hb:PE X b tb){pins:List (Addr×Obj)}{s:Shared}{σ:St}{H:Hp}{R:V->V->Hp->Prop}(I:Inv X pins σ H s)
  (h:ta σ H fun x H1=>tb σ H1 fun y H2=>R x y H2) {Q:Value->Shared->Prop} {f:Value->Value->Sem Value}
  (hf:∀v u s2 x y H2,Inv X pins σ H2 s2->RelV x v->RelV y u->R x y H2->wpAny (model X.prog X.w) X.A (f v u) Q X.xe s2):
  wpAny (model X.prog X.w) X.A (eval a X.env) (fun v s₁=>wpAny (model X.prog X.w) X.A (eval b X.env) (fun u s₂=>wpAny (model X.prog X.w) X.A (f v u) Q X.xe s₂) X.xe s₁) X.xe s:=by
 refine aP (ha pins s σ H _ I h) fun v s1 ⟨x,H1,I1,r1,q1⟩=>?_
 refine aP (hb pins s1 σ H1 _ I1 q1) fun u s2 ⟨y,H2,I2,r2,q2⟩=>?_
 exact hf v u s2 x y H2 I2 r1 r2 q2
theorem aG{op:Operator}{r:R2}(ho:dX X (binaryOp op) r)(ha:PE X a ta)(hb:PE X b tb):PE X (.BinOp a op b pos) (dw r ta tb):=by
 intro pins s σ H Q I h
 exact wpAny_BinOp (AN ha hb I h fun v u s2 x y H2 I2 rx ry q=>ho pins s2 σ H2 x y v u Q I2 rx ry q)
theorem sG{op:UnaryOp}{r:V->Hp->VK->Prop}(ho:uG X (unaryOp op) r)(ha:PE X a ta):PE X (.UnaryOp op a pos) (zV r ta):=by
 intro pins s σ H Q I h
 exact UnaryOp_ (aP (ha pins s σ H _ I h) fun v s1 ⟨x,H1,I1,r1,q1⟩=>ho pins s1 σ H1 x v Q I1 r1 q1)
theorem ur{f:Value->Value->Sem Value}{C:Int->Int->Prop}{g:Int->Int->Int}
  (rule:∀(i j:Int) (t u:Tok) (s:Shared) (Q:Value->Shared->Prop) (E:Value->Shared->Prop),C i j->Q (.int (g i j) s.toks) {s with toks:=s.toks+1}->wpAny (model X.prog X.w) X.A (f (.int i t) (.int j u)) Q E s):
  dX X f (rI C fun i j=> .int (g i j)):=by
 intro pins s σ H x y v u Q I rx ry h
 obtain⟨i,j,rfl,rfl,hc,q⟩:=h
 obtain⟨t,rfl⟩:=rx
 obtain⟨t',rfl⟩:=ry
 exact rule i j t t' s _ _ hc ⟨.int (g i j),H,I.tok _,⟨_,rfl⟩,q⟩
theorem EM{f:Value->Value->Sem Value}{g:Int->Int->Int}
  (rule:∀(i j:Int) (t u:Tok) (s:Shared) (Q:Value->Shared->Prop) (E:Value->Shared->Prop),Q (.int (g i j) s.toks) {s with toks:=s.toks+1}->wpAny (model X.prog X.w) X.A (f (.int i t) (.int j u)) Q E s):
  dX X f (gU fun i j=> .int (g i j)):=by
 intro pins s σ H x y v u Q I rx ry h
 obtain⟨i,j,rfl,rfl,q⟩:=h
 obtain⟨t,rfl⟩:=rx
 obtain⟨t',rfl⟩:=ry
 exact rule i j t t' s _ _ ⟨.int (g i j),H,I.tok _,⟨_,rfl⟩,q⟩
theorem rG{f:Value->Value->Sem Value}{g:Int->Int->Bool}
  (rule:∀(i j:Int) (t u:Tok) (s:Shared) (Q:Value->Shared->Prop) (E:Value->Shared->Prop),Q (.bool (g i j)) s->wpAny (model X.prog X.w) X.A (f (.int i t) (.int j u)) Q E s):
  dX X f (gU fun i j=> .bl (g i j)):=by
 intro pins s σ H x y v u Q I rx ry h
 obtain⟨i,j,rfl,rfl,q⟩:=h
 obtain⟨t,rfl⟩:=rx
 obtain⟨t',rfl⟩:=ry
 exact rule i j t t' s _ _ ⟨.bl (g i j),H,I,rfl,q⟩
def z0(i j:Int):Prop:=0<=j/\j<=1000000/\i.natAbs<2^64
def ud(i j:Int):Prop:=(-(2^64)<i/\i<2^64)\/(-(2^64)<j/\j<2^64)
theorem ud.ok{i j:Int}(h:ud i j):IntMulOk i j:=by
 rcases h with ⟨h1,h2⟩|⟨h1,h2⟩
 ·exact .of_left (intBits_le_64 h1 h2)
 ·exact .of_right (intBits_le_64 h1 h2)
theorem eN:dX X (binaryOp .Add) (gU fun i j=> .int (i+j)):=EM fun _ _ _ _ _ _ _ q=>add_int q
theorem j8:dX X (binaryOp .Sub) (gU fun i j=> .int (i-j)):=EM fun _ _ _ _ _ _ _ q=>sub_int q
theorem gJ:dX X (binaryOp .Mod) (rI (fun _ j=>0<j) fun i j=> .int (i%j)):=ur fun i j _ _ _ _ _ hc q=>by
 have h1:(0:Int)<j:=hc
 exact mod_int' (by omega) (by rw[Int.fmod_eq_emod_of_nonneg i (by omega)];exact q)
theorem Ht:dX X (binaryOp .Pow) (rI z0 fun i j=> .int (i^j.toNat)):=ur fun _ _ _ _ _ _ _ hc q=>pow_int_small hc.1 hc.2.1 hc.2.2 q
theorem Om{f:Value->Sem Value}{g:Int->Int}
  (rule:∀(i:Int) (t:Tok) (s:Shared) (Q:Value->Shared->Prop) (E:Value->Shared->Prop),Q (.int (g i) s.toks) {s with toks:=s.toks+1}->wpAny (model X.prog X.w) X.A (f (.int i t)) Q E s):
  uG X f (rU fun i=> .int (g i)):=by
 intro pins s σ H x v Q I rx h
 obtain⟨i,rfl,q⟩:=h
 obtain⟨t,rfl⟩:=rx
 exact rule i t s _ _ ⟨.int (g i),H,I.tok _,⟨_,rfl⟩,q⟩
theorem t7:uG X (unaryOp .USub) (rU fun i=> .int (-i)):=Om fun _ _ _ _ _ q=>neg_int q
end
def AE:V->V->Bool
 | .aM, .aM=>true| .aM, .int _=>true| .int _, .aM=>true| .aM, .bl _=>true| .bl _, .aM=>true| .aM, .str _=>true| .str _, .aM=>true
 | .int _, .int _=>true| .bl _, .bl _=>true| .str _, .str _=>true| .iB _, .iB _=>true
 | .int _, .str _=>true| .str _, .int _=>true| .bl _, .str _=>true| .str _, .bl _=>true
 |_,_=>false
def vV:R2:=fun x y H Q=>AE x y=true/\Q (.bl (decide (x=y))) H
def vd:R2:=fun x y H Q=>AE x y=true/\Q (.bl (!decide (x=y))) H
theorem Ce{i j:Int}:decide (V.int i=V.int j)=(i==j):=by
 rw[kM]
 simp
theorem Hv{i j:Bool}:decide (V.bl i=V.bl j)=(i==j):=by
 rw[kM]
 simp
theorem GF{i j:Str}:decide (V.str i=V.str j)=(i==j):=by
 rw[kM]
 simp
theorem CT{i j:Array UInt8}:decide (V.iB i=V.iB j)=(i.toList==j.toList):=by
 rw[kM]
 cases i
 cases j
 simp
section
variable{X:Cx}{a b c:Expr}{ta tb tc:TE}{pos:Pos}
theorem cI{pins:List (Addr×Obj)}{σ:St}{H:Hp}{s:Shared}{Q:VK}{k k':Bool}(I:Inv X pins σ H s)(q:Q (.bl k) H)(e:k=k'):EP X pins σ Q (.bool k') s:=by
 subst e
 exact⟨.bl k,H,I,rfl,q⟩
theorem ji:dX X (compareOp .Eq) vV:=by
  intro pins s σ H x y v u Q I rx ry h
  obtain⟨hs,q⟩:=h
  cases x with
  | aM =>
    cases rx
    cases y with
    |aM=>cases ry;exact PySem.EqNone.eq_none_none (cI I q (by simp))
    |bl j=>cases ry;exact PySem.EqNone.eq_none_bool (cI I q (by simp))
    |int j=>obtain⟨t',rfl⟩:=ry;exact PySem.EqNone.eq_none_int (cI I q (by simp))
    |str j=>obtain⟨t',rfl⟩:=ry;exact PySem.EqNone.eq_none_str (cI I q (by simp))
    |_=>exact absurd (show false=true from hs) c8
  | bl i =>
    cases rx
    cases y with
    |aM=>cases ry;exact PySem.EqNone.eq_bool_none (cI I q (by simp))
    |bl j=>cases ry;exact eq_bool (cI I q Hv)
    |str j=>obtain⟨t',rfl⟩:=ry;exact PySem.EqMixed.eq_bool_str (cI I q (by simp))
    |_=>exact absurd (show false=true from hs) c8
  | int i =>
    obtain⟨t,rfl⟩:=rx
    cases y with
    |aM=>cases ry;exact PySem.EqNone.eq_int_none (cI I q (by simp))
    |int j=>obtain⟨t',rfl⟩:=ry;exact eq_int (cI I q Ce)
    |str j=>obtain⟨t',rfl⟩:=ry;exact PySem.EqMixed.eq_int_str (cI I q (by simp))
    |_=>exact absurd (show false=true from hs) c8
  | str i =>
    obtain⟨t,rfl⟩:=rx
    cases y with
    |aM=>cases ry;exact PySem.EqNone.eq_str_none (cI I q (by simp))
    |bl j=>cases ry;exact PySem.EqMixed.eq_str_bool (cI I q (by simp))
    |int j=>obtain⟨t',rfl⟩:=ry;exact PySem.EqMixed.eq_str_int (cI I q (by simp))
    |str j=>obtain⟨t',rfl⟩:=ry;exact eq_str (cI I q GF)
    |_=>exact absurd (show false=true from hs) c8
  | iB i =>
    obtain⟨t,rfl⟩:=rx
    cases y with
    |iB j=>obtain⟨t',rfl⟩:=ry;exact PySem.W.eq_bytes (cI I q CT)
    |_=>exact absurd (show false=true from hs) c8
  |_=>cases y<;>exact absurd (show false=true from hs) c8
theorem jU:dX X (compareOp .NotEq) vd:=by
  intro pins s σ H x y v u Q I rx ry h
  obtain⟨hs,q⟩:=h
  cases x with
  | aM =>
    cases rx
    cases y with
    |aM=>cases ry;exact PySem.EqNone.ne_none_none (cI I q (by simp))
    |bl j=>cases ry;exact PySem.EqNone.ne_none_bool (cI I q (by simp))
    |int j=>obtain⟨t',rfl⟩:=ry;exact PySem.EqNone.ne_none_int (cI I q (by simp))
    |str j=>obtain⟨t',rfl⟩:=ry;exact PySem.EqNone.ne_none_str (cI I q (by simp))
    |_=>exact absurd (show false=true from hs) c8
  | bl i =>
    cases rx
    cases y with
    |aM=>cases ry;exact PySem.EqNone.ne_bool_none (cI I q (by simp))
    |bl j=>cases ry;exact ne_bool (cI I q (congrArg not Hv))
    |str j=>obtain⟨t',rfl⟩:=ry;exact PySem.EqMixed.ne_bool_str (cI I q (by simp))
    |_=>exact absurd (show false=true from hs) c8
  | int i =>
    obtain⟨t,rfl⟩:=rx
    cases y with
    |aM=>cases ry;exact PySem.EqNone.ne_int_none (cI I q (by simp))
    |int j=>obtain⟨t',rfl⟩:=ry;exact ne_int (cI I q (congrArg not Ce))
    |str j=>obtain⟨t',rfl⟩:=ry;exact PySem.EqMixed.ne_int_str (cI I q (by simp))
    |_=>exact absurd (show false=true from hs) c8
  | str i =>
    obtain⟨t,rfl⟩:=rx
    cases y with
    |aM=>cases ry;exact PySem.EqNone.ne_str_none (cI I q (by simp))
    |bl j=>cases ry;exact PySem.EqMixed.ne_str_bool (cI I q (by simp))
    |int j=>obtain⟨t',rfl⟩:=ry;exact PySem.EqMixed.ne_str_int (cI I q (by simp))
    |str j=>obtain⟨t',rfl⟩:=ry;exact ne_str (cI I q (congrArg not GF))
    |_=>exact absurd (show false=true from hs) c8
  | iB i =>
    obtain⟨t,rfl⟩:=rx
    cases y with
    |iB j=>obtain⟨t',rfl⟩:=ry;exact PySem.W.ne_bytes (cI I q (congrArg not CT))
    |_=>exact absurd (show false=true from hs) c8
  |_=>cases y<;>exact absurd (show false=true from hs) c8
theorem Fy:dX X (compareOp .Lt) (gU fun i j=> .bl (decide (i<j))):=rG fun _ _ _ _ _ _ _ q=>lt_int q
theorem KY:dX X (compareOp .LtE) (gU fun i j=> .bl (decide (i<=j))):=rG fun _ _ _ _ _ _ _ q=>le_int q
theorem yf:dX X (compareOp .Gt) (gU fun i j=> .bl (decide (j<i))):=rG fun _ _ _ _ _ _ _ q=>gt_int q
theorem MC:dX X (compareOp .GtE) (gU fun i j=> .bl (decide (j<=i))):=rG fun _ _ _ _ _ _ _ q=>ge_int q
theorem Ud:dX X (compareOp .Is) (fun x y H Q=>y= .aM/\Q (.bl (decide (x= .aM))) H):=by
 intro pins s σ H x y v u Q I rx ry h
 obtain⟨rfl,q⟩:=h
 cases ry
 refine is_none_gen (cI I q ?_)
 cases x<;>first
  |(cases rx;rfl)
  |(obtain⟨t,rfl⟩:=rx;rfl)
theorem KO:dX X (compareOp .IsNot) (fun x y H Q=>y= .aM/\Q (.bl (!decide (x= .aM))) H):=by
 intro pins s σ H x y v u Q I rx ry h
 obtain⟨rfl,q⟩:=h
 cases ry
 refine isnot_none_gen (cI I q ?_)
 cases x<;>first
  |(cases rx;rfl)
  |(obtain⟨t,rfl⟩:=rx;rfl)
theorem cg(b:Expr){op:CmpOp}(h:op≠ .In:=by decide)(h2:op≠ .NotIn:=by decide):behindInMarks op b=false:=by
 have e1:(op==CmpOp.In)=false:=by cases op<;>first|rfl|exact absurd rfl h
 have e2:(op==CmpOp.NotIn)=false:=by cases op<;>first|rfl|exact absurd rfl h2
 cases b<;>simp[behindInMarks,e1,e2]
theorem uw{op:CmpOp}{r:R2}(ho:dX X (compareOp op) r)(ha:PE X a ta)(hb:PE X b tb)(hm:behindInMarks op b=false):PE X (.Compare a [op] [b] pos) (dw r ta tb):=by
 intro pins s σ H Q I h
 exact wpAny_Compare1 (AN ha hb I h fun v u s2 x y H2 I2 rx ry q=>ho pins s2 σ H2 x y v u Q I2 rx ry q) hm
def Af(t:TE):TT:=fun σ H Q=>t σ H fun x H'=>∃k,x= .bl k/\Q k H'
theorem cH{op:CmpOp}{r:R2}(ho:dX X (compareOp op) r)(ha:PE X a ta)(hb:PE X b tb)(hm:behindInMarks op b=false):PT X (.Compare a [op] [b] pos) (Af (dw r ta tb)):=by
 intro pins s σ H Q I h
 refine wpAny_isTrue_Compare1 (aP (ha pins s σ H _ I h) fun v s1 ⟨x,H1,I1,r1,q1⟩=>aP (hb pins s1 σ H1 _ I1 q1) fun u s2 ⟨y,H2,I2,r2,q2⟩=>
  aP (ho pins s2 σ H2 x y v u _ I2 r1 r2 q2) fun c s3 ⟨z,H3,I3,r3,k,e,q3⟩=>?_) hm
 subst e
 cases r3
 exact wpAny_truthy_bool ⟨H3,I3,q3⟩
def AG(K:PySem.W.Frag)(x:V)(H:Hp)(k:Bool):Prop:=
 match x with
 | .aM=>k=false
 | .bl b=>k=b
 | .int i=>k=(i !=0)
 | .str y=>y.length<=sizeLine/\k=((y.length:Int) !=0)
 | .iB y=>y.size<=sizeLine/\k=((y.size:Int) !=0)
 | .ref p=>(∃xs,aS K H p xs/\k=!xs.isEmpty)\/(∃xs,fy K H p xs/\k=!xs.isEmpty)\/∃kvs,H p=some (.dK kvs)/\k=!kvs.isEmpty
 |_=>False
theorem Jx{κ:Type}{kvs:List (κ×V)}{vs:List (κ×Value)}(r:KV kvs vs):(!vs.isEmpty)=!kvs.isEmpty:=by
 cases r<;>rfl
theorem B5{xs:List V}{its:List Value}(r:Vals xs its):(!its.toArray.isEmpty)=!xs.isEmpty:=by
 cases r<;>simp
theorem nD:(sizeLine:Nat)<2^63:=by rw[sizeLine_eq];decide
theorem Nm:LA X (fun x H Q=>∃k,AG X.K x H k/\Q k H):=by
  intro pins s σ H x v Q I rx h
  obtain⟨k,e,q⟩:=h
  have hl:=nD
  have hs:sizeLine=16777216:=sizeLine_eq
  cases x with
  | aM =>
    cases rx
    have e':k=false:=e
    subst e'
    exact truthy_none ⟨H,I,q⟩
  | bl b =>
    cases rx
    have e':k=b:=e
    subst e'
    exact wpAny_truthy_bool ⟨H,I,q⟩
  | int i =>
    obtain⟨t,rfl⟩:=rx
    have e':k=(i !=0):=e
    subst e'
    exact PySem.P.truthy_int ⟨H,I,q⟩
  | str y =>
    obtain⟨t,rfl⟩:=rx
    obtain⟨hy,e'⟩:y.length<=sizeLine/\k=((y.length:Int) !=0):=e
    subst e'
    exact PySem.P.truthy_str (by omega) ⟨H,I.tok _,q⟩
  | iB y =>
    obtain⟨t,rfl⟩:=rx
    obtain⟨hy,e'⟩:y.size<=sizeLine/\k=((y.size:Int) !=0):=e
    subst e'
    exact PySem.W.truthy_bytes (by omega) ⟨H,I.tok _,q⟩
  | ref p =>
    cases rx
    have e':(∃xs,aS X.K H p xs/\k=!xs.isEmpty)\/(∃xs,fy X.K H p xs/\k=!xs.isEmpty)\/∃kvs,H p=some (.dK kvs)/\k=!kvs.isEmpty:=e
    rcases e' with ⟨xs,hx,e'⟩|⟨xs,hx,e'⟩|⟨kvs,hx,e'⟩
    · subst e'
      obtain⟨its,r,pl,hz⟩:=I.list hx
      have hlen:=r.length
      exact wpAny_truthy_list pl.isList (by simp only[cY];omega) ⟨H,I.tok _,by rw[B5 r];exact q⟩
    · subst e'
      obtain⟨its,r,pl,hz⟩:=I.tuple hx
      have hlen:=r.length
      exact truthy_tuple pl (by simp only[cY];omega) ⟨H,I.tok _,by rw[B5 r];exact q⟩
    · subst e'
      obtain⟨hz,hS,vs,r,m⟩:kvs.length<=sizeLine/\(p==sysModules)=false/\∃vs,KV kvs vs/\s.heap.DictOf (dG X.prog X.w) p vs:=I.hok p _ hx
      have hlen:kvs.length=vs.length:=Paired.length r
      exact wpAny_truthy_dict hS m (by omega) ⟨H,I.tok _,by rw[Jx r];exact q⟩
  |_=>exact(show False from e).elim
theorem O1(ha:PE X a ta)(he:∀whole,isTrue a X.env whole=(do let v<-whole;standAt a.pos;holding [v] (truthy v))):
  PT X a (fun σ H Q=>ta σ H fun x H'=>∃k,AG X.K x H' k/\Q k H'):=by
 intro pins s σ H Q I h
 exact isTrue_plain (aP (ha pins s σ H _ I h) fun v s1 ⟨x,H1,I1,r1,q1⟩=>Nm pins s1 σ H1 x v Q I1 r1 q1) (he _)
theorem vals1{x:V}{us:List Value}(r:Vals [x] us):∃u,us=[u]/\RelV x u:=by
 cases r with
 |cons r1 r2=>cases r2;exact⟨_,rfl,r1⟩
theorem vals2{x y:V}{us:List Value}(r:Vals [x,y] us):∃u w',us=[u,w']/\RelV x u/\RelV y w':=by
  cases r with
  | cons r1 r2 =>
    cases r2 with
    |cons r3 r4=>cases r4;exact⟨_,_,rfl,r1,r3⟩
theorem Ke:eE X (.builtin "abs") (fun xs H Q=>∃i,xs=[.int i]/\Q (.int (if i<0 then-i else i)) H):=by
 intro pins s σ H xs us Q I r h
 obtain⟨i,rfl,q⟩:=h
 obtain⟨u,rfl,t,rfl⟩:=vals1 r
 exact call_abs_int fun u tk=>⟨.int (if i<0 then-i else i),H,I.tok _,⟨_,rfl⟩,q⟩
theorem MO(hc:X.calm=true):eE X (.builtin "min") (fun xs H Q=>∃i j,xs=[.int i, .int j]/\Q (.int (if j<i then j else i)) H):=by
 intro pins s σ H xs us Q I r h
 obtain⟨i,j,rfl,q⟩:=h
 obtain⟨u,w',rfl,⟨t,rfl⟩,⟨t',rfl⟩⟩:=vals2 r
 refine min_two_ints (I.ok.hd hc) fun h' tk k=>⟨_,H,I.kept k,?_,q⟩
 by_cases hj:j<i
 ·rw[if_pos hj,if_pos hj];exact⟨_,rfl⟩
 ·rw[if_neg hj,if_neg hj];exact⟨_,rfl⟩
theorem KI:eE X (.type "int") (fun xs H Q=>(∃i,xs=[.int i]/\Q (.int i) H)\/∃k,xs=[.bl k]/\Q (.int (if k then 1 else 0)) H):=by
 intro pins s σ H xs us Q I r h
 rcases h with ⟨i,rfl,q⟩|⟨k,rfl,q⟩
 ·obtain⟨u,rfl,t,rfl⟩:=vals1 r
  exact call_int_int ⟨.int i,H,I,⟨_,rfl⟩,q⟩
 ·obtain⟨u,rfl,r1⟩:=vals1 r
  cases r1
  exact call_int_bool ⟨.int (if k then 1 else 0),H,I.tok _,⟨_,rfl⟩,q⟩
end
structure xK(h:Heap)(x dx C:Addr)(mA:Str->Option Value):Prop where
 obj:h.get? x=some (PySem.W.instObj C dx)
 ns:h.Ns1 dx mA
 ne:dx≠x
theorem Na{h:Heap}{dx:Addr}{mA:Str->Option Value}(n:h.Ns1 dx mA):∃od,h.get? dx=some od/\∀name,PySem.W.lookIn name od=some (mA name):=by
 obtain⟨o,es,ep,ho,hd,hk,_,hm⟩:=n
 refine⟨o,ho,fun name=>?_⟩
 have e:=hm name
 unfold nsFind findBy at e
 rw[<-Array.find?_toList] at e
 unfold PySem.W.lookIn
 rw[hd]
 dsimp only
 split
 ·rename_i y q
  rw[q] at e
  exact congrArg some e
 ·rename_i q
  rw[q] at e
  have a:es.toList.any (·.refKey)=false:=by
   rw[List.any_eq_false]
   intro y hy
   obtain⟨z,t,hkey⟩:=hk y (Array.mem_toList_iff.mp hy)
   simp[DictEntry.refKey,hkey]
  have a':¬es.toList.any (·.refKey)=true:=by rw[a];exact c8
  rw[if_neg a']
  exact congrArg some e
theorem xK.look{h:Heap}{x dx C:Addr}{mA:Str->Option Value}(I:xK h x dx C mA):∃od,PySem.W.InstAt h x (PySem.W.instObj C dx) C (some od)/\∀name,PySem.W.lookIn name od=some (mA name):=
 let ⟨od,ho,hl⟩:=Na I.ns
 ⟨od,⟨I.obj,rfl,rfl,ho⟩,hl⟩
theorem jf.some_of{v:V}{o:Option Value}(r:jf (some v) o):∃u,o=some u/\RelV v u:=by
 cases o with
 |none=>exact(show False from r).elim
 |some u=>exact⟨u,rfl,r⟩
section
variable{P:Program}{w:World}{H H':Hp}{h h':Heap}{a C dx:Addr}{fs fs':List (Str×V)}
theorem N6(hok:cW P w H h)(e:H a=some (.ins C dx fs)):∃mA,xK h a dx C mA/\(∀f,jf (fs.lookup f) (mA f))/\PySem.Within mA (fs.map (·.1))/\fs.length<=1000/\H dx=some (.own a):=by
 obtain⟨d,z,ne,ob,mA,n,r,q⟩:=(show bq P w H h a (.ins C dx fs) from hok a _ e)
 exact⟨mA,⟨ob,n,ne⟩,r,q,z,d⟩
end
structure zH(K:PySem.W.Frag)(C:Addr):Prop where
 pg:PySem.W.plainGet K C Str.empty=true
 hd:PySem.W.hasDictIn K C=true
 po:PySem.W.plainOver K C=true
 sa:PySem.W.findIn K (.ref C) "__setattr__"=some (some (.builtin "object.__setattr__"))
theorem zH.get{K:PySem.W.Frag}{C:Addr}(c:zH K C)(f:Str):PySem.W.plainGet K C f=true:=c.pg
section
variable{X:Cx}{pins:List (Addr×Obj)}{σ:St}{H:Hp}{s:Shared}{A:Around}{E:Value->Shared->Prop}{Q:Value->Shared->Prop}{c:Value}{b:Bool}
inductive gP(K:PySem.W.Frag)(H:Hp):V->Value->Prop where
 |aM:gP K H .aM (.type "NoneType")
 |bl (x:Bool):gP K H (.bl x) (.type "bool")
 |int (i:Int):gP K H (.int i) (.type "int")
 |str (x:Str):gP K H (.str x) (.type "str")
 |j9 (x:UInt64):gP K H (.j9 x) (.type "float")
 |lst {a:Addr} {xs:List V} (e:H a=some (.lst xs)):gP K H (.ref a) (.type "list")
 |bL {a:Addr} {o:Obj} {xs:List V} (e:H a=some (.bL o (.lst xs))):gP K H (.ref a) (.type "list")
 |tup {a:Addr} {xs:List V} (e:H a=some (.tup xs)):gP K H (.ref a) (.type "tuple")
 |dK {a:Addr} {kvs:List (Key×V)} (e:H a=some (.dK kvs)):gP K H (.ref a) (.type "dict")
 |dT {a:Addr} {kvs:List (List Key×V)} (e:H a=some (.dT kvs)):gP K H (.ref a) (.type "dict")
 |Dh {a:Addr} {o:Obj} {kvs:List (Key×V)} (e:H a=some (.bL o (.dK kvs))):gP K H (.ref a) (.type "dict")
 | ins {a C dx : Addr} {fs : List (Str × V)} (e : H a = some (.ins C dx fs)) (cl : zH K C) (ha : PySem.W.findIn K (.ref C) "__class__" = some (some (.builtin "object.__class__")))
   (hn:PySem.W.specialIn K (.builtin "object.__class__") "__get__"=some (some (.builtin "getset_descriptor.__get__"))) (htk:PySem.W.takesIn K (.builtin "object.__class__")=some true)
   (hm:PySem.W.mroIn K C (.type "object")=some true):gP K H (.ref a) (.ref C)
theorem Pw{x:V}{u t:Value}(I:Inv X pins σ H s)(rx:RelV x u)(ty:gP X.K H x t)(e:PySem.W.kitOne X.K t c=some b)(h:∀tk,Q (.bool b) {s with toks:=tk}):
    wpAny (model X.prog X.w) A (call (.builtin "isinstance") [u,c]) Q E s:=by
  cases ty with
  |aM=>cases (show u=Value.none from rx);exact iU PySem.W.kitx_none I.dS True.intro e (fun z=>nomatch z) h
  |bl y=>cases (show u=Value.bool y from rx);exact iU PySem.W.kitx_bool I.dS True.intro e (fun z=>nomatch z) h
  |int i=>obtain⟨t,q⟩:=(show∃t,u=Value.int i t from rx);cases q;exact iU PySem.W.kitx_int I.dS True.intro e (fun z=>nomatch z) h
  |str y=>obtain⟨t,q⟩:=(show∃t,u=Value.str y t from rx);cases q;exact iU PySem.W.kitx_str I.dS True.intro e (fun z=>nomatch z) h
  |j9 y=>obtain⟨t,q⟩:=(show∃t,u=Value.float y t from rx);cases q;exact iU PySem.W.kitx_float I.dS True.intro e (fun z=>nomatch z) h
  | @lst a xs ea =>
    cases (show u=Value.ref a from rx)
    obtain⟨_,_,n,_,h1⟩:=(show bq X.prog X.w H s.heap a (.lst xs) from I.hok a _ ea)
    exact iU yH I.dS ⟨_,h1,rfl⟩ e (fun z=>nomatch z) h
  | @bL a ob xs ea =>
    cases (show u=Value.ref a from rx)
    obtain⟨_,_,_,n,_,h1⟩:=(show bq X.prog X.w H s.heap a (.bL ob (.lst xs)) from I.hok a _ ea)
    exact iU yH I.dS ⟨_,h1,rfl⟩ e (fun z=>nomatch z) h
  | @tup a xs ea =>
    cases (show u=Value.ref a from rx)
    obtain⟨_,_,_,p⟩:=(show bq X.prog X.w H s.heap a (.tup xs) from I.hok a _ ea)
    obtain⟨o,h1,h2,_⟩:=p
    exact iU PySem.W.kitx_tuple I.dS ⟨o,h1,h2⟩ e (fun z=>nomatch z) h
  | @dK a kvs ea =>
    cases (show u=Value.ref a from rx)
    obtain⟨_,_,vs,_,p⟩:=(show bq X.prog X.w H s.heap a (.dK kvs) from I.hok a _ ea)
    obtain⟨o,es,ep,h1,h2,_⟩:=p
    exact iU tT I.dS ⟨o,h1,h2.1⟩ e (fun z=>nomatch z) h
  | @dT a kvs ea =>
    cases (show u=Value.ref a from rx)
    obtain⟨_,_,xs,_,o,es,ep,h1,h2,_⟩:=(show bq X.prog X.w H s.heap a (.dT kvs) from I.hok a _ ea)
    exact iU tT I.dS ⟨o,h1,h2.1⟩ e (fun z=>nomatch z) h
  | @Dh a ob kvs ea =>
    cases (show u=Value.ref a from rx)
    obtain⟨_,_,_,vs,_,o,es,ep,h1,h2,_⟩:=I.hok a _ ea
    exact iU tT I.dS ⟨o,h1,h2.1⟩ e (fun z=>nomatch z) h
  | @ins a C dx fs ea cl ha hn htk hm =>
    cases (show u=Value.ref a from rx)
    obtain⟨mA,O,_⟩:=N6 I.hok ea
    obtain⟨od,J,_⟩:=O.look
    exact iU (PySem.W.kitx_own (cl.get _) cl.hd ha hn htk hm) I.dS J e (fun z=>nomatch z) h
end
structure fS(k:Nat)(A:Around):Prop where
 hd:A.handled=none
 dp:A.depth+3*k+5<recursionLimit
 un:A.units+16*k+200<cLine
theorem fS.mono{j k:Nat}{A:Around}(r:fS k A)(h:j<=k):fS j A:=⟨r.hd,by have:=r.dp;omega,by have:=r.un;omega⟩
theorem fS.deeper{k:Nat}{A:Around}(r:fS (k+1) A)(env:Env):fS k (A.deeper env):=
 ⟨r.hd,by have:=r.dp;show A.depth+1+3*k+5<_;omega,by have:=r.un;show A.units+3+16*k+200<_;omega⟩
theorem fS.depth{k:Nat}{A:Around}(r:fS k A):A.depth<recursionLimit:=by have:=r.dp;omega
theorem fS.units{k:Nat}{A:Around}(r:fS k A):A.units+64<cLine:=by have:=r.un;omega
def bR:TA:=fun _ H Q=>Q [] H
def bx(ta:TE)(tr:TA):TA:=fun σ H Q=>ta σ H fun x H1=>tr σ H1 fun xs H2=>Q (x::xs) H2
section
variable{X:Cx}{e:Expr}{es:List Expr}{te:TE}{t:TA}{pos:Pos}
theorem ah:PA X [] bR:=fun _ _ _ _ H Q I h=>Calls.spliced_nil ⟨[],H,I, .nil,h⟩
theorem aa(ha:PE X e te)(hr:PA X es t)(hs:starEach (e::es) X.env=(false,eval e X.env)::starEach es X.env:=by rfl):PA X (e::es) (bx te t):=by
 intro pos pins s σ H Q I h
 rw[hs]
 show wpAny _ _ (spliced ((false,eval e X.env)::backTo pos (starEach es X.env))) _ _ s
 refine Calls.spliced_cons (aP (ha pins s σ H _ I h) fun u s1 ⟨x,H1,I1,r1,q1⟩=>?_)
 exact aP (hr pos pins s1 σ H1 _ I1 q1) fun us s2 ⟨xs,H2,I2,r2,q2⟩=>⟨x::xs,H2,I2, .cons r1 r2,q2⟩
def pV(t:TA):TE:=fun σ H Q=>t σ H fun xs H1=>xs.length<=sizeLine/\∀p,H1 p=none->Q (.ref p) (upd H1 p (.tup xs))
def lV(t:TA):TE:=fun σ H Q=>t σ H fun xs H1=>xs.length<=sizeLine/\∀p,H1 p=none->Q (.ref p) (upd H1 p (.lst xs))
theorem cZ{x1}(h:PA X es t):PE X (.Tuple es x1 pos) (pV t):=by
 intro pins s σ H Q I hq
 refine wpAny_Tuple_spliced (aP (h pos pins s σ H _ I hq) fun us s1 ⟨xs,H1,I1,r,z,q⟩=>⟨by rw[<-r.length];exact z,?_⟩)
 have hf:H1 s1.heap.objs.size=none:=I1.hok.fresh (aK _)
 refine⟨.ref s1.heap.objs.size,upd H1 s1.heap.objs.size (.tup xs),I1.laid (t':=s1.toks) (fun b u e=>bw _ e) (aK _) ?_,rfl,q _ hf⟩
 exact⟨z,us,r,⟨_,eF _ rfl,rfl,_,rfl⟩⟩
theorem eY(h:PA X es t):PE X (.List es pos) (lV t):=by
 intro pins s σ H Q I hq
 refine wpAny_List_spliced (aP (h pos pins s σ H _ I hq) fun us s1 ⟨xs,H1,I1,r,z,q⟩=>⟨by rw[<-r.length];exact z,?_⟩)
 have hf:H1 s1.heap.objs.size=none:=I1.hok.fresh (aK _)
 refine⟨.ref s1.heap.objs.size,upd H1 s1.heap.objs.size (.lst xs),I1.laid (t':=s1.toks) (fun b u e=>bw _ e) (aK _) ?_,rfl,q _ hf⟩
 exact⟨z,us,0,r,eF _ rfl⟩
end
abbrev Sp:=List V->Hp->VK->XK->Prop
abbrev jF:=List Env->Hp->Shared->XK->Value->Shared->Prop
structure sI(P:Program)(w:World)(K:PySem.W.Frag)(mg:Str->Option Value)(base:Heap)(A:Around)(outer:List Env)(s:Shared)(H:Hp):Prop where
 frames:A.frames=some outer
 mod:Mod K mg base
 bs:∀b o,base.get? b=some o->s.heap.get? b=some o/\H b=none
 mJ:base.objs.size<=s.heap.objs.size
 jA:s.heap.FunFrames base outer
 ou:∀b∈frs outer,H b=none
 hok:cW P w H s.heap
 bare:AllBare s.gens
def CE(outer:List Env)(P:Program)(w:World)(H:Hp)(s:Shared)(Q:VK)(u:Value)(s':Shared):Prop:=
 ∃v H',s'.os=s.os/\AllBare s'.gens/\Un (frs outer) [] H H' s.heap s'.heap/\cW P w H' s'.heap/\RelV v u/\Q v H'
def CR(CX:jF)(outer:List Env)(P:Program)(w:World)(H:Hp)(s:Shared)(Q:VK)(E:XK)(r:Result)(s':Shared):Prop:=
 match r with
 | .ok (.ret u)=>CE outer P w H s Q u s'
 | .ok _=>False
 | .error e=>CX outer H s E e s'
structure bH(P:Program)(w:World)(K:PySem.W.Frag)(mg:Str->Option Value)(base:Heap)(CX:jF)(k:Nat)(f:Addr)(fd:FuncData)(ps:List Str)(sp:Sp):Prop where
 len:∀vs H Q E,sp vs H Q E->vs.length=ps.length
 run:∀(A:Around) (outer:List Env) (s:Shared) (H:Hp) (args:Args) (us:List Value) (vs:List V) (Q:VK) (E:XK),fS k A->sI P w K mg base A outer s H->BindsTo s fd args (ps.zip us)->Vals vs us->sp vs H Q E->
  codeAny (model P w) A (.call (.ref f) args) (CR CX outer P w H s Q E) s
section
variable{X:Cx}{pins:List (Addr×Obj)}{σ:St}{H:Hp}{s s':Shared}
theorem Inv.JL(I:Inv X pins σ H s):sI X.prog X.w X.K X.mg X.base X.A X.stack s H:=
 ⟨I.ok.frames,I.ok.mod,I.bs,dH I.ok.mJ I.sz,I.stack,I.Fi,I.hok,I.bare⟩
theorem Inv.after{Q:VK}{u:Value}(I:Inv X pins σ H s)(h:CE X.stack X.prog X.w H s Q u s'):EP X pins σ Q u s':=by
 obtain⟨v,H',os,bare,un,hok,r,q⟩:=h
 obtain⟨hh,g,d,t,os'⟩:=s'
 obtain rfl:os'=s.os:=os
 exact⟨v,H',I.call (h':=hh) (g':=g) (d':=d) (t':=t) (ch:=[]) un hok bare (fun b z=>absurd z (by simp)),r,q⟩
end
def ju(sp:Sp)(kJ:List V)(E:XK)(t:TA):TE:=fun σ H Q=>t σ H fun vs H1=>sp (vs++kJ) H1 Q E
def Binds(K:PySem.W.Frag)(fd:FuncData)(ps:List Str)(ds:List Value):Prop:=
 ∀(s:Shared) (us:List Value),K.In s.heap->(us++ds).length=ps.length->BindsTo s fd ⟨us,[]⟩ (ps.zip (us++ds))
theorem Binds.all{K:PySem.W.Frag}{fd:FuncData}{ps:List Str}(h:∀us:List Value,us.length=ps.length->bindArgs fd ⟨us,[]⟩=pure (ps.zip us)):Binds K fd ps []:=fun s us _ hl=>by
 rw[iS] at hl⊢
 exact .of_eq (h us hl)
def Passes(CX:jF)(X:Cx)(E:XK):Prop:=∀(pins:List (Addr×Obj)) (σ:St) (H:Hp) (s:Shared) (e:Value) (s':Shared),Inv X pins σ H s->CX X.stack H s E e s'->X.xe e s'
section
variable{X:Cx}{CX:jF}{k:Nat}{f C:Addr}{fd:FuncData}{ps:List Str}{sp:Sp}{kJ:List V}{ds:List Value}{E:XK}{x m:Str}{p pos apos:Pos}{e o:Expr}{es:List Expr}{ta:TE}{t:TA}
theorem RN{pins:List (Addr×Obj)}{σ:St}{H:Hp}{s:Shared}{Q:VK}{us:List Value}{vs:List V}(F:bH X.prog X.w X.K X.mg X.base CX k f fd ps sp)(hr:fS k X.A)(hb:Binds X.K fd ps ds)(hd:Vals kJ ds)(hx:Passes CX X E)
    (I:Inv X pins σ H s) (r:Vals vs us) (h:sp (vs++kJ) H Q E):wpAny (model X.prog X.w) X.A (call (.ref f) us) (EP X pins σ Q) X.xe s:=by
  have r2:Vals (vs++kJ) (us++ds):=r.append hd
  have hl:(us++ds).length=ps.length:=by rw[<-r2.length];exact F.len _ _ _ _ h
  refine wpAny_call (codeAny_mono (F.run X.A X.stack s H ⟨us,[]⟩ (us++ds) (vs++kJ) Q E hr I.JL (hb s us I.dS hl) r2 h) fun r s' hq=>?_)
  cases r with
  |error e=>exact hx pins σ H s e s' I hq
  | ok fl =>
    cases fl with
    |ret u=>exact I.after hq
    |next=>exact False.elim hq
    |brk=>exact False.elim hq
    |cont=>exact False.elim hq
theorem MI(F:bH X.prog X.w X.K X.mg X.base CX k f fd ps sp)(hr:fS k X.A)(hg:Gl X x)(hm:X.mg x=some (.ref f))(hk:PySem.W.keepIn X.K (.ref f)=true)(hb:Binds X.K fd ps ds)(hd:Vals kJ ds)(hx:Passes CX X E)
  (ha:PA X (e::es) t) (hdb:(x==("__debug__":Str))=false:=by decide) (he:starEach (e::es) X.env=(false,eval e X.env)::starEach es X.env:=by rfl) (hpl:(backTo pos (starEach es X.env)).any (·.1)=false:=by rfl):
  PE X (.Call (.Name x p) (e::es) [] pos) (ju sp kJ E t):=by
 intro pins s σ H Q I h
 refine wpAny_Call_Name_kw (Rb I hg hm ?_ hdb)
 refine PySem.W.callWith_K (h₀:=X.base) I.ok.mod.AF hk (aP (ha pos pins s σ H _ I h) fun us s1 ⟨vs,H1,I1,r,q⟩=>⟨I1.dS,?_⟩) he hpl
 exact RN F hr hb hd hx I1 r q
end
structure ck(N P:List Str)(sc:Scope):Prop where
 kind:sc.kind= .function
 co:sc.isCoroutine=false
 gen:sc.isGenerator=false
 nd:N.Nodup
 pre:N.take P.length=P
 par:∀x∈P,sc.names.lookup x=some .local\/sc.names.lookup x=some .cell
 QB:∀y∈sc.names,y.2≠ .free
theorem E3{kindOf:Str->Option NameKind}{x:Str}:∀{binds:List (Str×Value)} {m:Str->Option Value},(∀v,(x,v)∉binds)->bindL kindOf binds m x=m x
  |[],_,_=>rfl
  | (n, v) :: r, m, h => by
    unfold bindL
    rw[E3 fun w hw=>h w (cA _ hw)]
    split
    · have:x≠n:=by rintro rfl;exact h v bG
      simp[this]
    · rfl
theorem B3{kindOf:Str->Option NameKind}{x:Str}:∀{binds:List (Str×Value)} {m:Str->Option Value},(∀v,(x,v)∉binds)->bindC kindOf binds m x=m x
  |[],_,_=>rfl
  | (n, v) :: r, m, h => by
    unfold bindC
    rw[B3 fun w hw=>h w (cA _ hw)]
    split
    · rfl
    · have:x≠n:=by rintro rfl;exact h v bG
      simp[this]
theorem Es{kindOf:Str->Option NameKind}{x:Str}{v:Value}:∀{P:List Str} {vs:List Value} {i:Nat} {m:Str->Option Value},P.Nodup->P[i]?=some x->vs[i]?=some v->kindOf x=some .local->
    bindL kindOf (P.zip vs) m x=some v
  |[],_,_,_,_,h,_,_=>by simp at h
  |_::_,[],_,_,_,_,h,_=>by simp at h
  | p :: P, w :: vs, 0, m, nd, h1, h2, hk => by
    simp at h1 h2;subst h1;subst h2
    show bindL kindOf ((p,w)::P.zip vs) m p=_
    unfold bindL
    rw[E3 fun v hv=>(gV.mp nd).1 (vW hv).1,if_pos hk]
    simp
  | p :: P, w :: vs, i + 1, m, nd, h1, h2, hk => by
    show bindL kindOf ((p,w)::P.zip vs) m x=_
    unfold bindL
    exact Es (i:=i) (gV.mp nd).2 (by simpa using h1) (by simpa using h2) hk
theorem GG{kindOf:Str->Option NameKind}{x:Str}{v:Value}:∀{P:List Str} {vs:List Value} {i:Nat} {m:Str->Option Value},P.Nodup->P[i]?=some x->vs[i]?=some v->kindOf x≠some .local->
    bindC kindOf (P.zip vs) m x=some v
  |[],_,_,_,_,h,_,_=>by simp at h
  |_::_,[],_,_,_,_,h,_=>by simp at h
  | p :: P, w :: vs, 0, m, nd, h1, h2, hk => by
    simp at h1 h2;subst h1;subst h2
    show bindC kindOf ((p,w)::P.zip vs) m p=_
    unfold bindC
    rw[B3 fun v hv=>(gV.mp nd).1 (vW hv).1,if_neg hk]
    simp
  | p :: P, w :: vs, i + 1, m, nd, h1, h2, hk => by
    show bindC kindOf ((p,w)::P.zip vs) m x=_
    unfold bindC
    exact GG (i:=i) (gV.mp nd).2 (by simpa using h1) (by simpa using h2) hk
def start(N:List Str)(vs:List V):St:=vs.map some++List.replicate (N.length-vs.length) none
def nv(CX:jF)(P:Program)(w:World)(K:PySem.W.Frag)(mg:Str->Option Value)(base:Heap)(N:List Str)(qual:Str)(scope:Scope)(f:Addr)(cd:Value)(A:Around)(outer:List Env)(s:Shared)(H:Hp)(E:XK):Cx where
 prog:=P
 w:=w
 K:=K
 mg:=mg
 base:=base
 A:=A.deeper (envOfC qual scope s.heap.objs.size f cd)
 N:=N
 s₀:=s
 H₀:=H
 env:=envOfC qual scope s.heap.objs.size f cd
 outer:=outer
 stack:=envOfC qual scope s.heap.objs.size f cd::outer
 ex:=[]
 calm:=true
 fn:=fun _=>true
 pn:=[]
 xe:=fun e s'=>wpAny (model P w) (A.deeper (envOfC qual scope s.heap.objs.size f cd)) (leaving (envOfC qual scope s.heap.objs.size f cd) e) (fun _ s''=>CX outer H s E e s'') (fun e' s''=>CX outer H s E e' s'') s'
theorem De{sc:Scope}{n:Nat}{x:Str}(h:sc.names.lookup x=some .cell):∃c,(cellsFrom n sc.names []).lookup x=some c:=by
 have q:=Gm sc.names n [] (.inl h)
 exact Eb.mp q
theorem JH{CX:jF}{P:Program}{w:World}{K:PySem.W.Frag}{mg:Str->Option Value}{base:Heap}{N ps:List Str}{qual:Str}{scope:Scope}{f:Addr}{cd:Value}{A:Around}{outer:List Env}{s s1:Shared}{H:Hp}{E:XK}{us:List Value}{vs:List V}
  (S:ck N ps scope) (hd:A.handled=none) (e0:sI P w K mg base A outer s H) (hl:vs.length=ps.length) (r:Vals vs us)
  (x:InCallC s s.heap.objs.size (bindL (envOfC qual scope s.heap.objs.size f cd).kindOf (ps.zip us) fun _=>none) (cellsFrom (s.heap.objs.size+1) scope.names []) (bindC (envOfC qual scope s.heap.objs.size f cd).kindOf (ps.zip us) fun _=>none) s1):
  Inv (nv CX P w K mg base N qual scope f cd A outer s H E) [] (start N vs) H s1:=by
 have hpl:ps.length<=N.length:=by have:=congrArg List.length S.pre;rw[kF] at this;omega
 obtain⟨h1,tk,rfl,hk⟩:=x.done
 have pQ:∀b:Addr,b∉(nv CX P w K mg base N qual scope f cd A outer s H E).ex:=fun b z=>absurd (show b∈([]:List Addr) from z) (by simp)
 refine⟨⟨e0.mod,S.kind,rfl,rfl,aK _,fun y z c h1 h2=>?_,fun y hy=>?_,fun y c _ h=>?_,fun _=>hd,Around.frames_deeper e0.frames, .inr ⟨rfl,rfl⟩,fun b z=>absurd z (pQ b),e0.bs,e0.mJ,fun b _ _=>pQ b,fun b z=>absurd z (pQ b),e0.jA,e0.ou⟩,
  rfl,e0.bare,Un.kept hk,⟨_,x.toInCall.ns,fun i y v h1 h2 h3=>?_⟩,fun y c h=>⟨_,x.cell y c h⟩,e0.hok.fresh (aK _),fun y c h=>?_,fun p hp=>absurd (show p∈([]:List (Addr×Obj)) from hp) (by simp),e0.hok.kept hk,?_⟩
 ·exact name_of_addr x.apart (lE h1) (lE h2)
 ·have hy:scope.names.lookup y=some .cell\/scope.names.lookup y=some .free:=hy
  rcases hy with hy|hy
  ·exact De hy
  ·exact absurd rfl (S.QB _ (lE hy))
 ·exact ir (x.above y c (lE h))
 ·have hi:i<vs.length:=by
   unfold start at h2
   by_cases hi:i<vs.length
   ·exact hi
   ·rw[ic (by simpa using hi)] at h2
    rw[gZ] at h2
    split at h2<;>cases h2
  have ha:vs[i]?=some v:=by
   unfold start at h2
   rw[g7 (by simpa using hi),aI] at h2
   cases e:vs[i]? with
   |none=>rw[e] at h2;cases h2
   |some a=>rw[e] at h2;cases h2;rfl
  obtain⟨u,hu,rv⟩:=r.get ha
  have hp:ps[i]?=some y:=by
   rw[<-S.pre,DM (by omega)];exact h1
  have FG:ps.Nodup:=by rw[<-S.pre];exact S.nd.sublist (List.take_sublist _ _)
  refine⟨u,rv,?_⟩
  rcases S.par y (dN hp) with k|k
  ·exact .inl ⟨k,Es FG hp hu k⟩
  ·obtain⟨c,e⟩:=De (n:=s.heap.objs.size+1) k
   refine .inr ⟨.inl k,c,e,?_⟩
   have q:=x.cell y c e
   rw[GG FG hp hu (by show scope.names.lookup y≠_;rw[k];decide)] at q
   exact q
 ·exact e0.hok.fresh (ir (x.above y c (lE h)))
 ·unfold start
  show _=N.length
  rw[cO,aj,List.length_replicate]
  omega
theorem LI{CX:jF}{P:Program}{w:World}{K:PySem.W.Frag}{mg:Str->Option Value}{base:Heap}{k:Nat}{f:Addr}{name qual:Str}{params:Arguments}{body:List Stmt}{scope:Scope}{dV kV doc pm cdv ct oc:Value}{an od:Option Addr}
    {osl:Array (Option Value)} {N ps:List Str} {sp:Sp} (lk:K.lookup f=some ⟨oc,od, .func (PySem.W.fnOf name qual params body scope dV kV doc pm an cdv ct),osl⟩) (hcd:PySem.W.codeIn K cdv qual=true) (S:ck N ps scope)
    (len:∀vs H Q E,sp vs H Q E->vs.length=ps.length)
    (hbody:∀(A:Around) (outer:List Env) (s:Shared) (H:Hp) (vs:List V) (Q:VK) (E:XK),fS k (A.deeper (envOfC qual scope s.heap.objs.size f cdv))->sp vs H Q E->
      ∃t,iD (nv CX P w K mg base N qual scope f cdv A outer s H E) body t/\t {nx:=fun _ H'=>Q .aM H',rt:=Q} (start N vs) H):
    bH P w K mg base CX (k+1) f (PySem.W.fnOf name qual params body scope dV kV doc pm an cdv ct) ps sp:=by
  refine⟨len,fun A outer s H args us vs Q E hr e0 hb r kB=>?_⟩
  have hl:=len _ _ _ _ kB
  have KX:K.In s.heap:=e0.mod.AF.keeps fun b o e=>(e0.bs b o e).1
  have lim:s.heap.NoLimit:=e0.mod.nolimit.keeps fun b o e=>(e0.bs b o e).1
  have hkind:∀y∈ps.zip us,scope.names.lookup y.1=some .local\/(scope.names.lookup y.1=some .cell/\((cellsFrom (s.heap.objs.size+1) scope.names []).lookup y.1).isSome=true):=fun⟨n,v⟩ hy=>by
    rcases S.par n (vW hy).1 with q|q
    · exact .inl q
    · exact .inr ⟨q,Gm _ _ _ (.inl q)⟩
  refine codeAny_call_function hr.depth (KX _ _ lk) rfl S.co S.gen rfl (PySem.W.codeRec_of KX hcd) (hb _ _ _ _ ?_)
  refine wpAny_newFunctionEnv_cells S.kind hkind fun env he s1 x=>?_
  subst he
  refine⟨lim.keeps x.toInCall.keep,codeAny_func ?_⟩
  obtain⟨t,ht,hq⟩:=hbody A outer s H vs Q E (hr.deeper _) kB
  have I:Inv (nv CX P w K mg base N qual scope f cdv A outer s H E) [] (start N vs) H s1:=JH S hr.hd e0 hl r x
  refine wpAny_mono (ht [] s1 (start N vs) H _ I hq) (fun fl s' hs=>?_) fun e s' hs=>hs
  have fin:∀{σ':St} {H':Hp} {v:V} {u:Value},Inv (nv CX P w K mg base N qual scope f cdv A outer s H E) [] σ' H' s'->RelV v u->Q v H'->CE outer P w H s Q u s':=
    fun{σ' H' v u} J rv q=>⟨v,H',J.os,J.bare,J.base,J.hok,rv,q⟩
  cases fl with
  | ret u =>
    obtain⟨v,σ',H',J,rv,q⟩:=hs
    exact fin J rv q
  | next =>
    obtain⟨σ',H',J,q⟩:=hs
    exact fin (v:=V.aM) (u:=Value.none) J rfl q
  | brk =>
    obtain⟨_,_,_,q⟩:=hs
    exact False.elim q
  | cont =>
    obtain⟨_,_,_,q⟩:=hs
    exact False.elim q
section
variable{X:Cx}{x:Str}{p pos:Pos}{e:Expr}{es:List Expr}{t:TA}{id T:String}{r:List V->Hp->VK->Prop}
def eS(r:List V->Hp->VK->Prop)(t:TA):TE:=fun σ H Q=>t σ H fun vs H1=>r vs H1 Q
theorem cC(hc:eE X (.builtin id) r)(hg:Gl X x)(hm:X.mg x=none)(hv:bootBuiltins x=some (.builtin id))(ha:PA X (e::es) t)(hn:x≠"__name__":=by decide)(hdb:(x==("__debug__":Str))=false:=by decide)
  (he:starEach (e::es) X.env=(false,eval e X.env)::starEach es X.env:=by rfl) (hpl:(backTo pos (starEach es X.env)).any (·.1)=false:=by rfl):PE X (.Call (.Name x p) (e::es) [] pos) (eS r t):=by
 intro pins s σ H Q I h
 refine wpAny_Call_Name_kw (nI I hg hm hv ?_ hn hdb)
 exact PyProof.Rows.callWith_builtin1 (aP (ha pos pins s σ H _ I h) fun us s1 ⟨vs,H1,I1,r1,q1⟩=>hc pins s1 σ H1 vs us Q I1 r1 q1) he hpl
theorem iR(hc:eE X (.type T) r)(hg:Gl X x)(hm:X.mg x=none)(hv:bootBuiltins x=some (.type T))(ha:PA X (e::es) t)(hn:x≠"__name__":=by decide)(hdb:(x==("__debug__":Str))=false:=by decide)
  (he:starEach (e::es) X.env=(false,eval e X.env)::starEach es X.env:=by rfl) (hpl:(backTo pos (starEach es X.env)).any (·.1)=false:=by rfl):PE X (.Call (.Name x p) (e::es) [] pos) (eS r t):=by
 intro pins s σ H Q I h
 refine wpAny_Call_Name_kw (nI I hg hm hv ?_ hn hdb)
 exact uc (aP (ha pos pins s σ H _ I h) fun us s1 ⟨vs,H1,I1,r1,q1⟩=>hc pins s1 σ H1 vs us Q I1 r1 q1) he hpl
end
end L2
namespace HT
open PySem PyProof.Rows
section
open PySem.SeqAt
open PySem.AutoSeq1 (wpAny_loadPart')
open PySem.MeetsSeq PySem.MeetsSeq2 PySem.MeetsSeq3
end
section
variable{prog:Program}{w:World}{A:Around}{E:Value->Shared->Prop}{s:Shared}
def dO(n d:Nat):Option Int->Nat
 |none=>d
 |some v=>if v<0 then(v+(n:Int)).toNat else min v.toNat n
theorem MQ(n d:Nat):dO n d none=d:=rfl
end
end HT
namespace L2
open PySem PySem.Spec PyProof.Rows
abbrev TO:=St->Hp->(Option Int->Hp->Prop)->Prop
def PO(X:Cx)(e:Option Expr)(t:TO):Prop:=
 ∀(pins:List (Addr×Obj)) (s:Shared) (σ:St) (H:Hp) (Q:Option Int->Hp->Prop),Inv X pins σ H s->t σ H Q->
  wpAny (model X.prog X.w) X.A (evalPart e X.env) (fun u s'=>∃o H',Inv X pins σ H' s'/\IsPart u o/\Q o H') X.xe s
def wF:TO:=fun _ H Q=>Q none H
def Ax(t:TE):TO:=fun σ H Q=>t σ H fun x H1=>∃i,x= .int i/\Q (some i) H1
section
variable{X:Cx}{e:Expr}{te:TE}{lo hi:Option Expr}{tl th:TO}{pos p2:Pos}
theorem mH:PO X none wF:=by
 intro pins s σ H Q I h
 rw[evalPart_none]
 exact wpAny_pure ⟨none,H,I, .none,h⟩
theorem lD(h:PE X e te):PO X (some e) (Ax te):=by
 intro pins s σ H Q I hw
 rw[evalPart_some]
 refine aP (h pins s σ H _ I hw) fun u s1 ⟨x,H1,I1,r1,q1⟩=>?_
 obtain⟨i,rfl,q⟩:=q1
 obtain⟨t,rfl⟩:=r1
 exact⟨some i,H1,I1, .int i t,q⟩
def DL(X:Cx)(r:V->Option Int->Option Int->Hp->VK->Prop):Prop:=
 ∀(pins:List (Addr×Obj)) (s:Shared) (σ:St) (H:Hp) (x:V) (v vl vu:Value) (lo hi:Option Int) (sl:Addr) (Q:VK),Inv X pins σ H s->RelV x v->s.heap.IsSliceOf sl vl vu .none->IsPart vl lo->IsPart vu hi->r x lo hi H Q->
  ∃T id,typeLookup (.type T) "__getitem__"=pure (some (.builtin id))/\s.TypeIs v T/\wpAny (model X.prog X.w) X.A (getItem v (.ref sl)) (EP X pins σ Q) X.xe s
def p5(r:V->Option Int->Option Int->Hp->VK->Prop)(te:TE)(tl th:TO):TE:=fun σ H Q=>te σ H fun x H1=>tl σ H1 fun l H2=>th σ H2 fun u H3=>r x l u H3 Q
theorem mw{r:V->Option Int->Option Int->Hp->VK->Prop}(hr:DL X r)(he:PE X e te)(hl:PO X lo tl)(hu:PO X hi th):PE X (.Subscript e (.Slice lo hi none p2) pos) (p5 r te tl th):=by
 intro pins s σ H Q I h
 refine Subscript_ (aP (he pins s σ H _ I h) fun v s1 ⟨x,H1,I1,r1,q1⟩=>?_)
 refine wpAny_Slice (aP (hl pins s1 σ H1 _ I1 q1) fun vl s2 ⟨l,H2,I2,pl,q2⟩=>aP (hu pins s2 σ H2 _ I2 q2) fun vu s3 ⟨u,H3,I3,pu,q3⟩=>?_)
 rw[evalPart_none]
 refine wpAny_pure ?_
 have I4:Inv X pins σ H3 {s3 with heap:=s3.heap.push {cls:= .type "slice",data:= .fields #[vl,vu, .none]}}:=I3.kept (t':=s3.toks) fun b ob q=>bw _ q
 obtain⟨T,id,hT,ht,hg⟩:=hr pins {s3 with heap:=s3.heap.push {cls:= .type "slice",data:= .fields #[vl,vu, .none]}} σ H3 x v vl vu l u s3.heap.objs.size Q I4 r1 (Heap.IsSliceOf.new ..) pl pu q3
 show wpAny (model X.prog X.w) X.A (subscriptTail e (.Slice lo hi none p2) v (.ref s3.heap.objs.size)) (EP X pins σ Q) X.xe {s3 with heap:=s3.heap.push {cls:= .type "slice",data:= .fields #[vl,vu, .none]}}
 exact tail_any (ops:=[.ref s3.heap.objs.size,v]) ht hT hg (by with_unfolding_all rfl)
def j7(xs:List V)(lo hi:Option Int):List V:=(xs.drop (HT.dO xs.length 0 lo)).take (HT.dO xs.length xs.length hi-HT.dO xs.length 0 lo)
theorem Ri(xs:List V)(lo hi:Option Int):(j7 xs lo hi).length<=xs.length:=by
 unfold j7
 rw[kF,Ab]
 omega
def TR(K:PySem.W.Frag):V->Option Int->Option Int->Hp->VK->Prop:=fun x lo hi H Q=>∃a xs,x= .ref a/\fy K H a xs/\
 ¬(HT.dO xs.length 0 lo=0/\HT.dO xs.length xs.length hi=xs.length)/\∀p,H p=none->Q (.ref p) (upd H p (.tup (j7 xs lo hi)))
def Lr(K:PySem.W.Frag):R2:=fun x y H Q=>∃a b xs ys,x= .ref a/\y= .ref b/\fy K H a xs/\fy K H b ys/\xs≠[]/\xs.length+ys.length<=sizeLine/\
 (ys=[]->Q (.ref a) H)/\(ys≠[]->∀p,H p=none->Q (.ref p) (upd H p (.tup (xs++ys))))
end
def gz(n:Nat)(i:Int):Option Nat:=if 0<=i then(if i<n then some i.toNat else none) else if-(n:Int)<=i then some (i+n).toNat else none
def bD{α:Type}(xs:List α)(i:Int):Option α:=(gz xs.length i).bind fun j=>xs[j]?
theorem zC{n:Nat}{i:Int}{j:Nat}(h:gz n i=some j):seqIndex? i n=some j/\j<n/\ -(n:Int)<=i/\i<n:=by
 unfold gz at h
 by_cases h0:0<=i
 ·rw[if_pos h0] at h
  by_cases h1:i<n
  ·rw[if_pos h1] at h
   have e:i.toNat=j:=fR h
   exact⟨by rw[seqIndex_of h0 h1,e],by omega,by omega,h1⟩
  ·rw[if_neg h1] at h;cases h
 ·rw[if_neg h0] at h
  by_cases h1: -(n:Int)<=i
  ·rw[if_pos h1] at h
   have e:(i+n).toNat=j:=fR h
   exact⟨by rw[seqIndex_neg (by omega) h1,e],by omega,h1,by omega⟩
  ·rw[if_neg h1] at h;cases h
theorem wY{α:Type}{xs:List α}{i:Int}{v:α}(h:bD xs i=some v):∃j,seqIndex? i xs.length=some j/\xs[j]?=some v/\j<xs.length/\ -(xs.length:Int)<=i/\i<xs.length:=by
  unfold bD at h
  cases e:gz xs.length i with
  |none=>rw[e] at h;cases h
  | some j =>
    rw[e] at h
    obtain⟨h1,h2,h3,h4⟩:=zC e
    exact⟨j,h1,h,h2,h3,h4⟩
theorem Kd{α:Type}{xs:List α}{j:Nat}{v:α}(h:xs[j]?=some v):bD xs (j:Int)=some v:=by
 have hj:j<xs.length:=(bh.mp h).1
 have e:gz xs.length (j:Int)=some j:=by
  unfold gz
  rw[if_pos (by omega),if_pos (by omega)];simp
 unfold bD;rw[e];exact h
def LL(b:Expr):Prop:=∀o i,subscripted b false o i=operate [o,i] (getItem o i)
def jO(X:Cx)(r:R2):Prop:=
 ∀(value slice:Expr) (pins:List (Addr×Obj)) (s:Shared) (σ:St) (H:Hp) (x y:V) (v u:Value) (Q:VK),Inv X pins σ H s->RelV x v->RelV y u->r x y H Q->
  subscripted slice false v u=operate [v,u] (getItem v u)->wpAny (model X.prog X.w) X.A (subscriptTail value slice v u) (EP X pins σ Q) X.xe s
def nu(X:Cx)(id:String)(r:V->List V->Hp->VK->Prop):Prop:=
 ∀(pins:List (Addr×Obj)) (s:Shared) (σ:St) (H:Hp) (x:V) (xs:List V) (v:Value) (us:List Value) (Q:VK),Inv X pins σ H s->RelV x v->Vals xs us->r x xs H Q->
  wpAny (model X.prog X.w) X.A (call (.builtin id) (v::us)) (EP X pins σ Q) X.xe s
section
variable{X:Cx}{a b:Expr}{ta tb:TE}{pos:Pos}
theorem jO.or{r r':R2}(h:jO X r)(h':jO X r'):jO X (fun x y H Q=>r x y H Q\/r' x y H Q):=by
 intro value slice pins s σ H x y v u Q I rx ry q hs
 rcases q with q|q
 ·exact h value slice pins s σ H x y v u Q I rx ry q hs
 ·exact h' value slice pins s σ H x y v u Q I rx ry q hs
theorem aF{r:R2}(hr:jO X r)(ha:PE X a ta)(hb:PE X b tb)(hs:LL b):PE X (.Subscript a b pos) (dw r ta tb):=by
 intro pins s σ H Q I h
 exact Subscript_ (AN ha hb I h fun v u s2 x y H2 I2 rx ry q=>hr a b pins s2 σ H2 x y v u Q I2 rx ry q (hs _ _))
def dM(K:PySem.W.Frag):R2:=fun x y H Q=>∃p xs i v,x= .ref p/\y= .int i/\aS K H p xs/\bD xs i=some v/\Q v H
def cz(K:PySem.W.Frag):R2:=fun x y H Q=>∃p xs i v,x= .ref p/\y= .int i/\fy K H p xs/\bD xs i=some v/\Q v H
def D5:R2:=fun x y H Q=>∃z i c,x= .str z/\y= .int i/\z.length<=sizeLine/\bD z.cps.toList i=some c/\Q (.str ⟨#[c]⟩) H
theorem bQ:jO X (dM X.K):=by
 intro value slice pins s σ H x y v u Q I rx ry h hs
 obtain⟨p,xs,i,z,rfl,rfl,hq,he,q⟩:=h
 cases rx
 obtain⟨t,rfl⟩:=ry
 obtain⟨its,r,pl,hz⟩:=I.list hq
 obtain⟨j,h1,h2,h3,h4,h5⟩:=wY he
 obtain⟨w,ew,rw'⟩:=r.get h2
 have hl:=r.length
 have hn:=nD
 have fin:EP X pins σ Q w s:=⟨z,H,I,rw',q⟩
 by_cases h0:0<=i
 ·have hj:i.toNat=j:=by
   rw[seqIndex_of h0 h5] at h1
   exact fR h1
  exact item_listR pl.isList h0 (by omega) (by rw[hj];simpa using ew) fin hs
 ·have hj:(i+(its.toArray.size:Int)).toNat=j:=by
   rw[seqIndex_neg (by omega) h4] at h1
   rw[cY,<-hl]
   exact fR h1
  exact subscriptTail_builtinR (x:=w) pl.isList.typeIs slot_list_getitem.lookup
   (wpAny_getItem_list_neg (Q:=fun r s'=>r=w/\EP X pins σ Q r s') pl.isList (by omega) (by rw[cY]<;>omega) (by omega) (by rw[hj];simpa using ew) ⟨rfl,fin⟩) hs
theorem cD:jO X (cz X.K):=by
 intro value slice pins s σ H x y v u Q I rx ry h hs
 obtain⟨p,xs,i,z,rfl,rfl,hq,he,q⟩:=h
 cases rx
 obtain⟨t,rfl⟩:=ry
 obtain⟨its,r,pl,hz⟩:=I.tuple hq
 obtain⟨j,h1,h2,h3,h4,h5⟩:=wY he
 obtain⟨w,ew,rw'⟩:=r.get h2
 have hl:=r.length
 have hn:=nD
 have fin:EP X pins σ Q w s:=⟨z,H,I,rw',q⟩
 exact subscriptTail_builtinR (x:=w) pl.typeIs slot_tuple_getitem.lookup
  (getItem_tuple (j:=j) (Q:=fun r s'=>r=w/\EP X pins σ Q r s') pl (by omega) (by omega) (by rw[cY,<-hl];exact h1) (by simpa using ew) ⟨rfl,fin⟩) hs
theorem KW:jO X D5:=by
 intro value slice pins s σ H x y v u Q I rx ry h hs
 obtain⟨z,i,c,rfl,rfl,hz,he,q⟩:=h
 obtain⟨t,rfl⟩:=rx
 obtain⟨t',rfl⟩:=ry
 obtain⟨j,h1,h2,h3,h4,h5⟩:=wY he
 have hl:z.cps.toList.length=z.length:=by simp[Str.length]
 rw[hl] at h1 h4 h5
 have hn:=nD
 exact tail_any (typeIs_str s z t) slot_str_getitem.lookup (getItem_str (c:=c) (by
  have e1:decide (i< -(2^63:Int))=false:=decide_eq_false (by omega)
  have e2:decide (i≥2^63)=false:=decide_eq_false (by omega)
  rw[e1,e2,l5]) (by rw[h1];simpa using h2) ⟨.str ⟨#[c]⟩,H,I.tok _,⟨_,rfl⟩,q⟩) hs
def t9(K:PySem.W.Frag):R2:=fun x y H Q=>dM K x y H Q\/cz K x y H Q\/D5 x y H Q
theorem DW:jO X (t9 X.K):=bQ.or (cD.or KW)
theorem TL(its:List Value)(n j:Nat)(u:Value):Obj.mapSeq (·.setIfInBounds j u) {cls:= .type "list",data:= .seq its.toArray n}={cls:= .type "list",data:= .seq (its.set j u).toArray n}:=by
 simp[Obj.mapSeq]
theorem Inv.lst{pins:List (Addr×Obj)}{σ:St}{H:Hp}{s:Shared}{p:Addr}{xs:List V}(I:Inv X pins σ H s)(h:H p=some (.lst xs)):
  ∃(its:List Value) (n:Nat),Vals xs its/\s.heap.get? p=some {cls:= .type "list",data:= .seq its.toArray n}/\xs.length<=sizeLine:=by
 obtain⟨z,its,n,r,e⟩:=I.hok p _ h
 exact⟨its,n,r,e,z⟩
theorem Inv.Q7{pins:List (Addr×Obj)}{σ:St}{H:Hp}{s:Shared}{p:Addr}{xs ys:List V}{its its':List Value}{n n':Nat}{f:Obj->Obj}(I:Inv X pins σ H s)(h:H p=some (.lst xs))
  (ho:s.heap.get? p=some {cls:= .type "list",data:= .seq its.toArray n}) (hf:f {cls:= .type "list",data:= .seq its.toArray n}={cls:= .type "list",data:= .seq its'.toArray n'}) (r:Vals ys its') (hz:ys.length<=sizeLine) (t:Nat):
  Inv X pins σ (upd H p (.lst ys)) {s with heap:=s.heap.update p f,toks:=t}:=by
 have e:(s.heap.update p f).get? p=some {cls:= .type "list",data:= .seq its'.toArray n'}:=by
  rw[tX f ho (by rw[hf]<;>rfl),hf]
 refine I.write (x:=p) (e:=p) (by rw[h];trivial) (.inl rfl) (fun b u hb q=>(jS _ _ (bB hb)).trans q) ⟨_,e⟩ ?_
 exact⟨hz,its',n',r,e⟩
def um:V->V->V->Hp->(Hp->Prop)->Prop:=fun o i v H Q=>∃p xs k j,o= .ref p/\i= .int k/\H p=some (.lst xs)/\gz xs.length k=some j/\Q (upd H p (.lst (xs.set j v)))
theorem set_list:yd X um:=by
 intro pins s σ H o i v ov iv u Q I ro ri rv h
 obtain⟨p,xs,k,j,rfl,rfl,hp,hj,q⟩:=h
 cases ro
 obtain⟨t,rfl⟩:=ri
 obtain⟨its,n,r,ho,hz⟩:=I.lst hp
 obtain⟨h1,h2,h3,h4⟩:=zC hj
 have hl:=r.length
 have hn:=nD
 have I':Inv X pins σ (upd H p (.lst (xs.set j v))) {s with heap:=s.heap.update p (Obj.mapSeq (·.setIfInBounds j u))}:=
  I.Q7 hp ho (TL its n j u) (r.set rv j) (by rw[gv];exact hz) s.toks
 by_cases h0:0<=k
 ·have hk:k.toNat=j:=by
   rw[seqIndex_of h0 h4] at h1
   exact fR h1
  exact PySem.W.ki_setAt ho h0 (by omega) (by rw[cY,<-hl];exact h4) (by rw[hk];exact⟨_,I',q⟩)
 ·have hk:(k+(its.toArray.size:Int)).toNat=j:=by
   rw[seqIndex_neg (by omega) h3] at h1
   rw[cY,<-hl]
   exact fR h1
  exact PySem.W.ki_setBack ho (by omega) (by rw[cY,<-hl];exact h3) (by omega) (by rw[hk];exact⟨_,I',q⟩)
theorem Jc(lo hi:Option Int)(n:Nat):(sliceBounds lo hi none n).1=((HT.dO n 0 lo:Nat):Int)/\(sliceBounds lo hi none n).2.1=((HT.dO n n hi:Nat):Int)/\(sliceBounds lo hi none n).2.2=1:=by
  refine⟨?_,?_,rfl⟩
  · cases lo with
    |none=>simp[sliceBounds,HT.dO]
    | some i =>
      simp only[sliceBounds,HT.dO,Option.getD_none,show(1:Int)>0 by decide,if_true]
      by_cases h:i<0
      · simp only[h,if_true]<;>omega
      · simp only[h,if_false]<;>omega
  · cases hi with
    |none=>simp[sliceBounds,HT.dO]
    | some i =>
      simp only[sliceBounds,HT.dO,Option.getD_none,show(1:Int)>0 by decide,if_true]
      by_cases h:i<0
      · simp only[h,if_true]<;>omega
      · simp only[h,if_false]<;>omega
theorem Kl(its:List Value)(lo hi:Option Int):slicePick its.toArray lo hi none=((its.drop (HT.dO its.length 0 lo)).take (HT.dO its.length its.length hi-HT.dO its.length 0 lo)).toArray:=by
 obtain⟨h1,h2,h3⟩:=Jc lo hi its.toArray.size
 unfold slicePick
 rw[h1,h2,h3]
 simp only[sliceRange_one,pick_run,cY]<;>rfl
def kc(K:PySem.W.Frag):V->Option Int->Option Int->Hp->VK->Prop:=fun x lo hi H Q=>∃a xs,x= .ref a/\aS K H a xs/\∀p,H p=none->Q (.ref p) (upd H p (.lst (j7 xs lo hi)))
theorem lT:DL X (kc X.K):=by
 intro pins s σ H x v vl vu lo hi sl Q I rx hs pl pu h
 obtain⟨a,xs,rfl,hx,q⟩:=h
 cases rx
 obtain⟨its,r,ht,hz⟩:=I.list hx
 have hlen:=r.length
 refine⟨"list",_,slot_list_getitem.lookup,ht.isList.typeIs,?_⟩
 refine wpAny_getItem_list_slice ht.isList hs pl pu .none (by simp) ?_ (by rw[cY]<;>omega)
 rw[Kl,<-hlen]
 refine⟨.ref s.heap.objs.size,_,I.laid (t':=s.toks) (o:= .lst (j7 xs lo hi)) (fun b ob q=>bw _ q) (aK _) ?_,rfl,q _ (I.hok.fresh (aK _))⟩
 exact⟨dH (Ri xs lo hi) hz,_,0,(r.drop (HT.dO xs.length 0 lo)).take (HT.dO xs.length xs.length hi-HT.dO xs.length 0 lo),eF _ rfl⟩
def BR:V->Bool
 | .aM=>true
 | .bl _=>true
 | .int _=>true
 | .str _=>true
 |_=>false
def Si:V->V->Bool
 | .aM, .aM=>true
 | .bl a, .bl b=>a==b
 | .bl a, .int b=>(if a then 1 else 0)==b
 | .int a, .bl b=>a==(if b then 1 else 0)
 | .int a, .int b=>a==b
 | .str a, .str b=>a==b
 |_,_=>false
def oE(x:V)(xs:List V):Bool:=xs.any fun y=>Si y x
def LM(K:PySem.W.Frag)(neg:Bool):R2:=fun x y H Q=>∃p xs,y= .ref p/\(aS K H p xs\/fy K H p xs)/\BR x=true/\xs.all BR=true/\Q (.bl (if neg then !oE x xs else oE x xs)) H
theorem Cf:eE X (.builtin "len") (fun xs H Q=>∃p ys,xs=[.ref p]/\(aS X.K H p ys\/fy X.K H p ys)/\Q (.int ys.length) H):=by
 intro pins s σ H xs us Q I r h
 obtain⟨p,ys,rfl,hq,q⟩:=h
 obtain⟨u,rfl,rx⟩:=vals1 r
 cases rx
 have hn:=nD
 rcases hq with hq|hq
 ·obtain⟨its,r',pl,hz⟩:=I.list hq
  have hlen:=r'.length
  exact Calls.call_len_list pl.isList (by simp only[cY]<;>omega) ⟨.int ys.length,H,I.tok _,⟨s.toks+1,by rw[cY,hlen]⟩,q⟩
 ·obtain⟨its,r',pl,hz⟩:=I.tuple hq
  have hlen:=r'.length
  exact len_tuple pl (by simp only[cY]<;>omega) ⟨.int ys.length,H,I.tok _,⟨s.toks+1,by rw[cY,hlen]⟩,q⟩
theorem JQ:eE X (.type "list") (fun xs H Q=>∃p ys,xs=[.ref p]/\(aS X.K H p ys\/fy X.K H p ys)/\∀l,H l=none->Q (.ref l) (upd H l (.lst ys))):=by
 intro pins s σ H xs us Q I r h
 obtain⟨p,ys,rfl,hq,q⟩:=h
 obtain⟨u,rfl,rx⟩:=vals1 r
 cases rx
 have fin:∀(its:List Value),Vals ys its->ys.length<=sizeLine->∀(h':Heap) (c':Nat),(∀b o',s.heap.get? b=some o'->h'.get? b=some o')->
   h'.get? s.heap.objs.size=some {cls:= .type "list",dict:=none,data:= .seq its.toArray c',slots:= #[]}->EP X pins σ Q (.ref s.heap.objs.size) {s with heap:=h'}:=fun its r' hz h' c' kp e=>
  ⟨.ref s.heap.objs.size,_,I.laid (t':=s.toks) kp (aK _) (show bq X.prog X.w _ h' _ (.lst ys) from⟨hz,its,c',r',e⟩),rfl,q _ (I.hok.fresh (aK _))⟩
 rcases hq with hq|hq
 ·obtain⟨its,r',pl,hz⟩:=I.list hq
  have hlen:=r'.length
  obtain⟨o,ho,hc,n,hd⟩:=pl.isList
  exact call_list_seq p (.inl rfl) ho hc hd (fun h' c' kp e=>fin its r' hz h' c' kp e) (by simp only[cY]<;>omega)
 ·obtain⟨its,r',pl,hz⟩:=I.tuple hq
  have hlen:=r'.length
  obtain⟨o,ho,hc,n,hd⟩:=pl
  exact call_list_seq p (.inr rfl) ho hc hd (fun h' c' kp e=>fin its r' hz h' c' kp e) (by simp only[cY]<;>omega)
def qw(K:PySem.W.Frag)(T:String)(x:V)(H:Hp):Prop:=match x with
 | .str _=>T="str"
 | .int _=>T="int"
 | .ref p => (T = "list" /\ ∃ xs, aS K H p xs) \/ (T = "tuple" /\ ∃ o, K.lookup p = some o /\ o.cls = .type "tuple" /\ o.dict = none) \/
   (T="dict" /\((∃kvs,H p=some (.dK kvs))\/(∃kvs,H p=some (.dT kvs))\/∃o kvs,H p=some (.bL o (.dK kvs))))\/(T="set" /\∃S n,H p=some (.set S n))
 |_=>False
theorem CJ{pins:List (Addr×Obj)}{σ:St}{H:Hp}{s:Shared}{T:String}{x:V}{v:Value}(I:Inv X pins σ H s)(r:RelV x v)(ty:qw X.K T x H):
    s.TypeIs v T/\∀a,v= .ref a->∃ob,s.heap.get? a=some ob/\ob.dict=none:=by
  cases x with
  | str z =>
    obtain⟨t,rfl⟩:=r
    cases (show T="str" from ty)
    exact⟨typeIs_str s z t,fun _ e=>nomatch e⟩
  | int i =>
    obtain⟨t,rfl⟩:=r
    cases (show T="int" from ty)
    exact⟨typeIs_int s i t,fun _ e=>nomatch e⟩
  | ref p =>
    cases r
    rcases ty with ⟨rfl,xs,hq⟩|⟨rfl,o,hk,hc,hd⟩|⟨rfl,hk⟩|⟨rfl,S,n,hk⟩
    · obtain⟨its,_,pl,_⟩:=I.list hq
      refine⟨pl.isList.typeIs,fun a e=>?_⟩
      cases e
      obtain⟨o,n,e,c,hd,_⟩:=pl
      exact⟨o,e,hd⟩
    · refine⟨⟨o,I.dS p o hk,hc⟩,fun a e=>?_⟩
      cases e
      exact⟨o,I.dS _ o hk,hd⟩
    · have z:∃o,s.heap.get? p=some o/\o.ExactDict:=by
        rcases hk with ⟨kvs,hk⟩|⟨kvs,hk⟩|⟨ob,kvs,hk⟩
        · obtain⟨_,_,_,_,o,_,_,e,ex,_⟩:=I.hok p _ hk
          exact⟨o,e,ex⟩
        · obtain⟨_,_,_,_,o,_,_,e,ex,_⟩:=I.hok p _ hk
          exact⟨o,e,ex⟩
        · obtain⟨_,_,_,_,_,o,_,_,e,ex,_⟩:=I.hok p _ hk
          exact⟨o,e,ex⟩
      obtain⟨o,e,ex⟩:=z
      refine⟨⟨o,e,ex.1⟩,fun a e2=>?_⟩
      cases e2
      exact⟨o,e,ex.2.1⟩
    · obtain⟨o,_,_,_,e,ex,_⟩:=I.hok p _ hk
      refine⟨⟨o,e,ex.1⟩,fun a e2=>?_⟩
      cases e2
      exact⟨o,e,ex.2.1⟩
  |_=>exact False.elim ty
def Gy(K:PySem.W.Frag)(T:String)(r:V->List V->Hp->VK->Prop)(to:TE):TE:=fun σ H Q=>to σ H fun x H1=>qw K T x H1/\r x [] H1 Q
def kj(K:PySem.W.Frag)(T:String)(r:V->List V->Hp->VK->Prop)(to:TE)(t:TA):TE:=fun σ H Q=>to σ H fun x H1=>qw K T x H1/\t σ H1 fun xs H2=>r x xs H2 Q
variable{o e:Expr}{es:List Expr}{to:TE}{t:TA}{name:Str}{apos cpos:Pos}{T id:String}{r:V->List V->Hp->VK->Prop}
theorem Kh(pa:PlainAttrs T)(slot:Slot T name id)(hty:typeOf (.builtin id)=pure (.type "method_descriptor"))(hm:nu X id r)(ho:PE X o to)
  (hbase:attributeBase o name X.env (eval o X.env)=eval o X.env:=by rfl) (hline:(apos.endLine==cpos.line)=true:=by rfl):PE X (.Call (.Attribute o name apos) [] [] cpos) (Gy X.K T r to):=by
 intro pins s σ H Q I h
 refine wpAny_Call_method0_late hbase hline (aP (ho pins s σ H _ I h) fun v s1 ⟨x,H1,I1,r1,ty,q1⟩=>?_)
 obtain⟨h1,h2⟩:=CJ I1 r1 ty
 exact⟨T,id,pa,slot,hty,h1,h2,Calls.callWith_builtin rfl (PySem.evalArgs_none (hm pins s1 σ H1 x [] v [] Q I1 r1 .nil q1))⟩
theorem kg(pa:PlainAttrs T)(slot:Slot T name id)(hty:typeOf (.builtin id)=pure (.type "method_descriptor"))(hm:nu X id r)(ho:PE X o to)(ha:PA X (e::es) t)
  (hbase:attributeBase o name X.env (eval o X.env)=eval o X.env:=by rfl)
  (hfew : ((backTo cpos (starEach (e :: es) X.env)).all (fun x => !x.1) && (backToKw cpos (keywordEach [] X.env)).all (fun x => x.1.isSome)
   && decide ((e::es).length+([]:List Keyword).length+(if([]:List Keyword).isEmpty then 0 else 1)<30))=true:=by rfl)
  (hline:(apos.endLine==cpos.line)=true:=by rfl) (hs:starEach (e::es) X.env=(false,eval e X.env)::starEach es X.env:=by rfl) (hplain:(backTo cpos (starEach es X.env)).any (·.1)=false:=by rfl):
  PE X (.Call (.Attribute o name apos) (e::es) [] cpos) (kj X.K T r to t):=by
 intro pins s σ H Q I h
 refine wpAny_Call_method_late hbase hfew hline rfl (aP (ho pins s σ H _ I h) fun v s1 ⟨x,H1,I1,r1,ty,q1⟩=>?_)
 obtain⟨h1,h2⟩:=CJ I1 r1 ty
 refine⟨T,id,pa,slot,hty,h1,h2,?_⟩
 have hA:=ha cpos pins s1 σ H1 _ I1 q1
 rw[hs] at hA⊢
 refine Calls.callWith_builtin (by show(false||(backTo cpos (starEach es X.env)).any (·.1))=false;rw[hplain]<;>rfl) (Calls.evalArgs_plain ?_)
 exact aP hA fun us s2 ⟨vs,H2,I2,r2,q2⟩=>hm pins s2 σ H2 x vs v us Q I2 r1 r2 q2
/-xs.append(e),list.index on a module's tuple .. are nu facts of 06m-/
end
def Bd(X:Cx)(id:String)(r:V->List V->Hp->VK->Prop):Prop:=
 ∀(pins:List (Addr×Obj)) (s:Shared) (σ:St) (H:Hp) (x:V) (xs:List V) (v:Value) (us:List Value) (Q:VK),Inv X pins σ H s->RelV x v->Vals xs us->r x xs H Q->
  wpAny (model X.prog X.w) X.A (call (.builtin id) (v::us)) (EP X pins σ Q) X.xe s
theorem Vals.one{x:V}{us:List Value}(h:Vals [x] us):∃u,us=[u]/\RelV x u:=by
 cases h with
 |cons r t=>cases t;exact⟨_,rfl,r⟩
theorem Vals.two{x y:V}{us:List Value}(h:Vals [x,y] us):∃u v,us=[u,v]/\RelV x u/\RelV y v:=by
  cases h with
  | cons r t =>
    obtain⟨v,e,q⟩:=Vals.one t
    exact⟨_,v,by rw[e],r,q⟩
theorem Vals.dropLast{xs:List V}{us:List Value}(h:Vals xs us):Vals xs.dropLast us.dropLast:=by
  induction h with
  |nil=>exact .nil
  | cons r t ih =>
    cases t with
    |nil=>exact .nil
    |cons q t'=>exact .cons r ih
theorem Vals.eraseIdx:∀{xs:List V} {us:List Value} (i:Nat),Vals xs us->Vals (xs.eraseIdx i) (us.eraseIdx i)
 |_,_,_, .nil=> .nil
 |_,_,0, .cons _ t=>t
 |_,_,i+1, .cons r t=> .cons r (Vals.eraseIdx i t)
theorem BX{α:Type}:∀(l:List α) (i:Nat),(l.eraseIdx i).length<=l.length
 |[],_=>aK _
 |_::_,0=>jc _
 |_::r,i+1=>Nat.succ_le_succ (BX r i)
section
variable{X:Cx}{pins:List (Addr×Obj)}{σ:St}{H:Hp}{s:Shared}{l b:Addr}{xs ys zs:List V}
theorem Inv.vS{its its':List Value}{n:Nat}{f:Array Value->Array Value}{t':Nat}(I:Inv X pins σ H s)(hH:H l=some (.lst xs))
  (e:s.heap.get? l=some {cls:= .type "list",data:= .seq its.toArray n}) (hf:f its.toArray=its'.toArray) (hv:Vals ys its') (hz:ys.length<=sizeLine):
  Inv X pins σ (upd H l (.lst ys)) {s with heap:=s.heap.update l (Obj.mapSeq f),toks:=t'}:=by
 have q:=PySem.IsL.update e f
 rw[hf] at q
 refine I.write (x:=l) (e:=l) (by rw[hH];exact trivial) (.inl rfl) (fun b' u hb hu=>(jS s.heap (Obj.mapSeq f) (bB hb)).trans hu) ⟨_,q⟩ ?_
 exact⟨hz,its',_,hv,q⟩
theorem Inv.Bm{its:List Value}{t':Nat}(I:Inv X pins σ H s)(hv:Vals ys its)(hz:ys.length<=sizeLine):
  Inv X pins σ (upd H s.heap.objs.size (.lst ys)) {s with heap:=s.heap.push {cls:= .type "list",data:= .seq its.toArray},toks:=t'}:=
 I.laid (fun _ _ q=>bw _ q) (aK _) ⟨hz,its,0,hv,eF _ rfl⟩
theorem Inv.fresh(I:Inv X pins σ H s):H s.heap.objs.size=none:=I.hok.fresh (aK _)
theorem Inv.l6(I:Inv X pins σ H s)(hH:H l=some (.lst xs)):xs.length<=sizeLine/\∃(its:List Value) (n:Nat),Vals xs its/\xs.length=its.length/\s.heap.get? l=some {cls:= .type "list",data:= .seq its.toArray n}:=by
 obtain⟨z,its,n,r,e⟩:=I.hok l _ hH
 exact⟨z,its,n,r,r.length,e⟩
theorem Qs{n:Nat}(h:n<=sizeLine):Builtin.List.listTooLong n=false:=by
 unfold Builtin.List.listTooLong
 exact decide_eq_false (by omega)
end
section
variable{X:Cx}
def qZ:V->List V->Hp->VK->Prop:=fun x vs H Q=>∃l xs y,x= .ref l/\vs=[y]/\H l=some (.lst xs)/\xs.length<sizeLine/\Q .aM (upd H l (.lst (xs++[y])))
theorem lI:Bd X "list.append" qZ:=by
 intro pins s σ H x vs v us Q I rx rv h
 obtain⟨l,xs,y,rfl,rfl,hH,hz,q⟩:=h
 cases rx
 obtain⟨u,rfl,ru⟩:=rv.one
 obtain⟨z,its,n,r,hl,e⟩:=I.l6 hH
 refine call_meets F.slot_list_append ⟨_,e,rfl⟩ F.entry_list_append (F.args_list_append_2 _ _) (PySem.list_append l its.toArray n u (by rw[cY];omega)) ⟨e,?_⟩
 refine⟨.aM,_,I.vS (its':=its++[u]) hH e (by simp) (r.append (.cons ru .nil)) ?_,rfl,q⟩
 rw[cO,gQ]
 omega
def OC:V->List V->Hp->VK->Prop:=fun x vs H Q=>∃l b xs zs,x= .ref l/\vs=[.ref b]/\H l=some (.lst xs)/\H b=some (.lst zs)/\xs.length+zs.length<=sizeLine/\Q .aM (upd H l (.lst (xs++zs)))
theorem Ut:Bd X "list.extend" OC:=by
 intro pins s σ H x vs v us Q I rx rv h
 obtain⟨l,b,xs,zs,rfl,rfl,hH,hB,hz,q⟩:=h
 cases rx
 obtain⟨u,rfl,ru⟩:=rv.one
 cases ru
 obtain⟨z,its,n,r,hl,e⟩:=I.l6 hH
 obtain⟨z2,its2,n2,r2,hl2,e2⟩:=I.l6 hB
 have hsz:its.toArray.size+its2.toArray.size<=sizeLine:=by rw[cY,cY];omega
 have JB:¬(!its.toArray.isEmpty && Builtin.List.listTooLong (its.toArray.size+its2.toArray.size))=true:=by
  rw[Qs hsz,Bool.and_false]
  exact c8
 refine call_meets F.slot_list_extend ⟨_,e,rfl⟩ F.entry_list_extend (F.args_list_extend_2 _ _)
  (AutoSeq1.list_extend_list_list_0 l its.toArray n b its2.toArray n2 JB (by rw[cY];omega) (by omega)) ⟨e,e2,?_⟩
 refine⟨.aM,_,I.vS (its':=its++its2) hH e (by simp) (r.append r2) ?_,rfl,q⟩
 rw[cO]
 omega
def GH:V->List V->Hp->VK->Prop:=fun x vs H Q=>∃l xs i k y,x= .ref l/\vs=[.int i]/\H l=some (.lst xs)/\ -(2^63)<=i/\i<2^63/\seqIndex? i xs.length=some k/\xs[k]?=some y/\Q y (upd H l (.lst (xs.eraseIdx k)))
theorem MZ:Bd X "list.pop" GH:=by
 intro pins s σ H x vs v us Q I rx rv h
 obtain⟨l,xs,i,k,y,rfl,rfl,hH,h1,h2,hk,hy,q⟩:=h
 cases rx
 obtain⟨u,rfl,ru⟩:=rv.one
 obtain⟨t,rfl⟩:=ru
 obtain⟨z,its,n,r,hl,e⟩:=I.l6 hH
 obtain⟨w,hw,rw'⟩:=r.get hy
 refine call_meets F.slot_list_pop ⟨_,e,rfl⟩ F.entry_list_pop (F.args_list_pop_2 _ _)
  (MeetsSeq.list_pop_at l its.toArray n i t k w (fitsIndex_both h1 h2) (by rw[cY,<-hl];exact hk) (by rw[<-lz];exact hw) (by rw[cY];omega)) ⟨e,?_⟩
 refine⟨y,_,I.vS (its':=its.eraseIdx k) hH e ?_ (r.eraseIdx k) ?_,rw',q⟩
 ·show its.toArray.eraseIdxIfInBounds k=(its.eraseIdx k).toArray
  rw[List.eraseIdxIfInBounds_toArray]
 ·have:=BX xs k
  omega
def xW:R2:=fun x y H Q=>∃l b xs zs,x= .ref l/\y= .ref b/\H l=some (.lst xs)/\H b=some (.lst zs)/\xs.length+zs.length<=sizeLine/\∀p,H p=none->Q (.ref p) (upd H p (.lst (xs++zs)))
theorem mV:dX X (binaryOp .Add) xW:=by
 intro pins s σ H x y v u Q I rx ry h
 obtain⟨l,b,xs,zs,rfl,rfl,hH,hB,hz,q⟩:=h
 cases rx
 cases ry
 obtain⟨z,its,n,r,hl,e⟩:=I.l6 hH
 obtain⟨z2,its2,n2,r2,hl2,e2⟩:=I.l6 hB
 refine PySem.P.add_list e e2 ?_ (by rw[cY,cY];omega)
 have ea:its.toArray++its2.toArray=(its++its2).toArray:=by simp
 rw[ea]
 exact⟨.ref _,_,I.Bm (t':=s.toks) (r.append r2) (by rw[cO];omega),rfl,q _ I.fresh⟩
end
end L2
namespace Att
open PySem PySem.W PySem.Calls PyProof.Rows
theorem Mu{P:Params}{h:Heap}:∀(ns:List Int) (vs:List Value),WellAll P h vs (ns.map WData.int)->IntsAre vs ns:=by
  intro ns
  induction ns with
  | nil =>
    intro vs w
    rw[mK] at w
    cases w
    exact .nil
  | cons n ns ih =>
    intro vs w
    rw[bF] at w
    cases w with
    | cons a b =>
      cases a
      exact .cons _ _ (ih _ b)
theorem RV{l:OpenLaw}{n:Nat}(hn:l.most=some n){P:Params}{h:Heap}{args:List WData}{vals:List Value}
    (hpre:l.row.toRowW.claim.pre args=true) (hwl:WellAll P h vals args):
    ∃a vs ns,vals=[Value.ref a]/\args=[WData.list (ns.map WData.int)]/\h.get? a=some {cls:= .type "list",data:= .seq vs.toArray}/\IntsAre vs ns/\ns.length<=n:=by
  have hsh:WShape.hasAll [] args [.list .int]=true:=(pre_splitW hpre).1
  have hc:l.pre.holds [] {args:=args}=true:=(pre_splitW hpre).2
  obtain⟨d,r,rfl,h1,h2⟩:=hasAllW_cons hsh
  obtain rfl:=hasAllW_nil h2
  obtain⟨xs,rfl,h3⟩:=hasW_list h1
  obtain⟨ns,rfl⟩:=items_int h3
  have hlen:ns.length<=n:=by
    unfold OpenLaw.pre at hc
    have h4:(WTm.not (.lt (.lit (.int (n:Int))) (.len (.arg 0)))).holds [] {args:=[.list (ns.map .int)]}=true:=by
      have h4:=(holds_andW hc).1
      rw[hn] at h4
      exact h4
    have h5:=condW_of h4 (w_not (w_lt w_lit (w_len_list (w_arg rfl))))
    rw[aj] at h5
    refine vI fun q=>?_
    have q':(n:Int)<((ns.length:Nat):Int):=by omega
    first
      |(rw[decide_eq_true q'] at h5;exact absurd h5 (by decide))
      |(simp at h5;omega)
  cases hwl with
  | cons w1 w2 =>
    cases w2
    cases w1 with
    |list ho hall=>exact⟨_,_,ns,rfl,rfl,ho,Mu ns _ hall,hlen⟩
theorem Qq(l:OpenLaw)(args:List WData):l.row.toRowW.claim.post args (.bool true) args=true:=
 postW_of (r:=l.row.toRowW) (X:=(true==true))
  (show WShape.has [] (.bool true) .bool=true by first|rfl|decide|simp[WShape.has,WShape.arms,WShape.armsAll])
  (show(WTm.eq .res (.lit (.bool true))).value [] {args:=args,res:=some (.bool true),after:=args}=some (.bool (true==true)) from w_eq_bool (w_res rfl) w_lit) rfl
theorem IM{l:OpenLaw}{n:Nat}{q:Program}{loose:List Str}{XP:(Str->Option Value)->Heap->Prop}{YP:World->Heap->Prop}{d:DefRec}
  (hn:l.most=some n) (hdf:d.params.defaults=[])
  (call : ∀ (w : World) (s₀ s₁ : Shared) (mg mb : Str -> Option Value) (fa : Addr) (o : Obj) (pm cd doc : Value) (a : Addr) (vs : List Value) (ns : List Int),
   Ground q loose [] XP w s₀ mg mb s₁.heap->YP w s₁.heap->
   s₁.heap.get? fa=some o->o.data= .func (docDef d.name d.params d.body d.scope pm cd doc)->s₁.heap.CodeRec cd d.name->mg d.name=some (.ref fa)->
   s₁.heap.get? a=some {cls:= .type "list",data:= .seq vs.toArray}->IntsAre vs ns->ns.length<=n->s₁.gens= #[]->
   codeAny (model l.prog w) callerA (.call (.ref fa) ⟨[.ref a],[]⟩) (fun r s'=>r= .ok (.ret (.bool true))/\OldK s₁.heap s'.heap/\s'.os=s₁.os/\AllBare s'.gens) s₁):
  WalkO q loose XP YP l.row.toRowW d [] (fun f vs=>PySem.call f vs):=by
 intro w s₀ s₁ mg mb G Y fa o pm cd doc dV kV ho hd hcd hD hmg hg args vals as hpre hlay hrd hwl hlo
 obtain rfl:dV= .none:=Dflts.none hD hdf
 obtain rfl:kV= .none:=Dflts.noKw hD
 obtain⟨a,vs,ns,rfl,rfl,hobj,hints,hlen⟩:=RV hn hpre hwl
 refine enter_call (codeAny_mono (call w s₀ s₁ mg mb fa o pm cd doc a vs ns G Y ho (fd_plain hd) hcd hmg hobj hints hlen hg) fun r s' hq=>?_)
 obtain⟨rfl,h2,h3,h4⟩:=hq
 exact⟨.inl ⟨.bool true, .bool true,[],rfl,fun _=>rfl, .bool true,Qq l _,fun _=>⟨List.Pairwise.nil,fun _ hm=>(nomatch hm)⟩⟩,h2,h3,h4⟩
section
variable{prog:Program}{w:World}{A:Around}{E:Value->Shared->Prop}{s:Shared}{K:Frag}
def ledger(h:Heap)(L d:Addr):List (Addr×Obj):=(List.range h.objs.size).filterMap fun a=>if a=L\/a=d then none else(h.get? a).map fun o=>(a,o)
end
end Att
namespace L2
open PySem PySem.Spec PyProof.Rows
theorem Cb:∀{vs:List Value} {ns:List Int},IntsAre vs ns->Vals (ns.map V.int) vs
 |_,_, .nil=> .nil
 |_,_, .cons n t h=> .cons ⟨t,rfl⟩ (Cb h)
def wQ(H:Hp):Prop:=∀b,H b=none\/∃o xs,H b=some (.bL o (.lst xs))
theorem Sb{P:Program}{w:World}{K:PySem.W.Frag}{mg mb:Str->Option Value}{CX:jF}{k:Nat}{fa a:Addr}{fd:FuncData}{x:Str}{sp:Sp}{s₁:Shared}{vs:List Value}{ns:List Int}
    (KX:K.In s₁.heap) (hns:s₁.heap.Ns mainGlobals mg) (hb:s₁.heap.Ns builtinsNs mb) (Mj:∀x:Str,x≠"__name__" ->mb x=bootBuiltins x) (hlim:s₁.heap.NoLimit) (hg:s₁.gens= #[])
    (ha:s₁.heap.get? a=some {cls:= .type "list",data:= .seq vs.toArray}) (hi:IntsAre vs ns) (hl:ns.length<=sizeLine) (hr:fS k callerA)
    (F:∀base:Heap,K.In base->base.Ns mainGlobals mg->bH P w K mg base CX k fa fd [x] sp) (hbind:∀(s:Shared) (u:Value),BindsTo s fd ⟨[u],[]⟩ [(x,u)])
    (kB:∀H:Hp,wQ H->aS K H a (ns.map V.int)->sp [.ref a] H (fun v _=>v= .bl true) fun _ _ _=>False)
    (vz:∀H e s',CX [] H s₁ (fun _ _ _=>False) e s'->False):
    codeAny (model P w) callerA (.call (.ref fa) ⟨[.ref a],[]⟩) (fun r s'=>r= .ok (.ret (.bool true))/\OldK s₁.heap s'.heap/\s'.os=s₁.os/\AllBare s'.gens) s₁:=by
  have rv:=Cb hi
  have Q8:=hi.length
  have core:∀H:Hp,wQ H->aS K H a (ns.map V.int)->cW P w H s₁.heap->(∀b,H b≠none->b=a)->(H a≠none->K.lookup a=none)->
      codeAny (model P w) callerA (.call (.ref fa) ⟨[.ref a],[]⟩) (fun r s'=>r= .ok (.ret (.bool true))/\OldK s₁.heap s'.heap/\s'.os=s₁.os/\AllBare s'.gens) s₁:=by
    intro H hO hS hok hA hK
    have By:∀{b:Addr} {o:Obj},s₁.heap.get? b=some o->H b=none->(jX s₁.heap H).get? b=some o:=fun e n=>RW e n
    have pQ:∀{b:Addr} {o:Obj} {es:Array DictEntry} {ep:Nat},s₁.heap.get? b=some o->o.data= .dict es ep->H b=none:=fun{b o es ep} e d=>by
      cases q:H b with
      |none=>rfl
      | some u =>
        have e':b=a:=hA b (by rw[q];simp)
        subst e'
        rw[ha] at e;cases e
        have d':Data.seq vs.toArray _=Data.dict es ep:=d
        cases d'
    have tL:∀{b:Addr} {m:Str->Option Value},s₁.heap.Ns b m->(jX s₁.heap H).Ns b m:=fun{b m} ⟨o,es,ep,e,d,r⟩=>⟨o,es,ep,By e (pQ e d),d,r⟩
    have CH:K.In (jX s₁.heap H):=fun b o e=>By (KX b o e) (by
      cases q:H b with
      |none=>rfl
      | some u =>
        have e':b=a:=hA b (by rw[q];simp)
        subst e'
        rw[hK (by rw[q];simp)] at e;cases e)
    have hM:Mod K mg (jX s₁.heap H):=⟨CH,tL hns,⟨mb,tL hb,Mj⟩,let ⟨mc,h1,h2⟩:=hlim;⟨mc,tL h1,h2⟩⟩
    have e0:sI P w K mg (jX s₁.heap H) callerA [] s₁ H:=⟨rfl,hM,fun b o e=>Jt e,rD (HR _ _),trivial,fun b hb=>absurd (show b∈([]:List Addr) from hb) (by simp),hok, .of_eq hg⟩
    refine codeAny_mono ((F _ CH (tL hns)).run callerA [] s₁ H ⟨[.ref a],[]⟩ [.ref a] [.ref a] _ _ hr e0 (hbind s₁ (.ref a)) (.cons rfl .nil) (kB H hO hS)) fun r s' h=>?_
    cases r with
    |error e=>exact(vz H e s' h).elim
    | ok fl =>
      cases fl with
      |next=>exact False.elim h
      |brk=>exact False.elim h
      |cont=>exact False.elim h
      | ret u =>
        obtain⟨v,H',os,bare,un,LG,r',q⟩:=h
        have q':v= .bl true:=q
        subst q'
        obtain rfl:u=Value.bool true:=r'
        refine⟨rfl,OldK.of_keep fun b o e=>?_,os,bare⟩
        cases q:H b with
        |none=>exact un.keep b o e q (by intro z;exact absurd (show b∈([]:List Addr) from z) (by simp)) (by simp)
        | some u =>
          rcases hO b with z|⟨ob,xs,z⟩
          · rw[q] at z;cases z
          · have z2:=un.jl b ob _ z
            obtain⟨e1,_⟩:=hok b _ z
            obtain⟨e2,_⟩:=LG b _ z2
            rw[e] at e1;cases e1
            exact e2
  cases hk:K.lookup a with
  | some o =>
    have e:=KX a o hk
    rw[ha] at e
    cases e
    refine core (fun _=>none) (fun _=> .inl rfl) (.inr ⟨_,vs.toArray,_,hk,rfl,rfl,rfl,by rw[cY,Q8];exact hl,by simpa using rv⟩) (fun b u z=>by have z':(none:Option HO)=some u:=z;cases z') (fun b z=>absurd rfl z) fun z=>absurd rfl z
  | none =>
    refine core (fun b=>if b=a then some (.bL {cls:= .type "list",data:= .seq vs.toArray} (.lst (ns.map V.int))) else none) (fun b=>?_) (.inl (.inr ⟨{cls:= .type "list",data:= .seq vs.toArray},if_pos rfl⟩)) (fun b u z=>?_) (fun b z=>?_) fun _=>hk
    · by_cases hb:b=a
      · exact .inr ⟨_,_,if_pos hb⟩
      · exact .inl (if_neg hb)
    · by_cases hb:b=a
      · have z':=(if_pos hb).symm.trans z
        cases z'
        subst hb
        exact⟨ha,by rw[aj];exact hl,vs,_,rv,ha⟩
      · have z':=(if_neg hb).symm.trans z
        cases z'
    · by_cases hb:b=a
      · exact hb
      · exact absurd (if_neg hb) z
theorem M4{l:PySem.W.OpenLaw}{n k:Nat}{q:Program}{loose:List Str}{XP:(Str->Option Value)->Heap->Prop}{YP:World->Heap->Prop}{d:DefRec}{K:Params->PySem.W.Frag}{CX:World->jF}{sp:World->Sp}{x:Str}
  (hn:l.most=some n) (hn2:n<=sizeLine) (hdf:d.params.defaults=[]) (hr:fS k callerA)
  (hY:∀(w:World) (h:Heap),YP w h->(K w.params).In h)
  (F : ∀ (w : World) (mg : Str -> Option Value) (fa : Addr) (h : Heap), (K w.params).In h -> h.Ns mainGlobals mg -> mg d.name = some (.ref fa) ->
   ∃fd:FuncData,(∀(s:Shared) (u:Value),BindsTo s fd ⟨[u],[]⟩ [(x,u)])/\
    ∀base:Heap,(K w.params).In base->base.Ns mainGlobals mg->bH l.prog w (K w.params) mg base (CX w) k fa fd [x] (sp w))
  (kB:∀(w:World) (H:Hp) (a:Addr) (ns:List Int),ns.length<=n->wQ H->aS (K w.params) H a (ns.map V.int)->sp w [.ref a] H (fun v _=>v= .bl true) fun _ _ _=>False)
  (vz:∀(w:World) (H:Hp) (s:Shared) (e:Value) (s':Shared),CX w [] H s (fun _ _ _=>False) e s'->False):
  PySem.W.WalkO q loose XP YP l.row.toRowW d [] (fun f vs=>PySem.call f vs):=by
 refine Att.IM hn hdf fun w s₀ s₁ mg mb fa o pm cd doc a vs ns G Y ho hd hcd hmg hobj hints hlen hg=>?_
 have KX:=hY w _ Y
 obtain⟨fd,hb,hF⟩:=F w mg fa _ KX G.T.g hmg
 exact Sb KX G.T.g G.T.b G.T.builtins G.T.nolimit hg hobj hints (dH hlen hn2) hr hF hb (fun H hO hS=>kB w H a ns hlen hO hS) fun H e s'=>vz w H s₁ e s'
end L2
/-THE LAST THEOREM (shape;LID,My.*are yours):
   My.Adr:a structure of the addresses that your layer names (classes,functions);My.Txt K t:a structure (Prop) of the equations over K;
   My.txt_mk:{K} {implicit addresses ..} (e1:nsIn K mainGlobals "law"=some (some (.ref f))) (e2:K.lookup f=some ⟨oc,od, .func (fnOf "law" "law" params body scope dV kV doc pm an cdv ct),sl⟩) (e3:codeIn K cdv "law"=true) .. :∃t,My.Txt K t
set_option maxRecDepth 100000 in
set_option maxHeartbeats 0 in
(the tactic k_is has no namespace:write k_is)-/
namespace L2
open PySem PySem.Spec PyProof.Rows
def mQ(s:Stmt):Arguments:=match s with
 | .FunctionDef _ a _ _ _ _ _ _ _ _=>a
 |_=>{posonlyargs:=[],args:=[],vararg:=none,kwonlyargs:=[],kw_defaults:=[],kwarg:=none,defaults:=[]}
def lB(s:Stmt):List Stmt:=match s with
 | .FunctionDef _ _ b _ _ _ _ _ _ _=>b
 |_=>[]
def aR(s:Stmt):Scope:=match s with
 | .FunctionDef _ _ _ _ _ _ sc _ _ _=>sc
 |_=>{kind:= .function,names:=[],isGenerator:=false,isCoroutine:=false}
abbrev bM:jF:=fun _ _ _ _ _ _=>False
abbrev E0:XK:=fun _ _ _=>False
theorem NS{X:Cx}:Passes bM X E0:=fun _ _ _ _ _ _ _ h=>h.elim
structure bO(K:PySem.W.Frag)(x qual:Str)(st:Stmt)(f:Addr)(fd:FuncData):Prop where
 ex:∃(oc:Value) (od:Option Addr) (kV doc pm:Value) (an:Option Addr) (cdv ct:Value) (osl:Array (Option Value)),
  fd=PySem.W.fnOf x qual (mQ st) (lB st) (aR st) .none kV doc pm an cdv ct/\K.lookup f=some ⟨oc,od, .func fd,osl⟩/\PySem.W.codeIn K cdv qual=true
 kp:PySem.W.keepIn K (.ref f)=true
section
variable{P:Program}{w:World}{K:PySem.W.Frag}{mg:Str->Option Value}{base:Heap}
theorem bO.ok{x qual:Str}{st:Stmt}{f:Addr}{fd:FuncData}{N ps:List Str}{k:Nat}{sp:Sp}(F:bO K x qual st f fd)(S:ck N ps (aR st))(len:∀vs H Q E,sp vs H Q E->vs.length=ps.length)
  (hbody : ∀ (cdv : Value) (A : Around) (outer : List Env) (s : Shared) (H : Hp) (vs : List V) (Q : VK) (E : XK), fS k (A.deeper (envOfC qual (aR st) s.heap.objs.size f cdv)) -> sp vs H Q E ->
   ∃t,iD (nv bM P w K mg base N qual (aR st) f cdv A outer s H E).tM (lB st) t/\t {nx:=fun _ H'=>Q .aM H',rt:=Q} (start N vs) H):bH P w K mg base bM (k+1) f fd ps sp:=by
 obtain⟨oc,od,kV,doc,pm,an,cdv,ct,osl,rfl,lk,hcd⟩:=F.ex
 refine LI lk hcd S len fun A outer s H vs Q E hr kB=>?_
 obtain⟨t,h,q⟩:=hbody cdv A outer s H vs Q E hr kB
 exact⟨t,h.tM,q⟩
theorem bO.binds{x qual:Str}{st:Stmt}{f:Addr}{fd:FuncData}{ps:List Str}(F:bO K x qual st f fd)
  (h:∀(kV doc pm:Value) (an:Option Addr) (cdv ct:Value) (us:List Value),us.length=ps.length->bindArgs (PySem.W.fnOf x qual (mQ st) (lB st) (aR st) .none kV doc pm an cdv ct) ⟨us,[]⟩=pure (ps.zip us)):Binds K fd ps []:=by
 obtain⟨oc,od,kV,doc,pm,an,cdv,ct,osl,rfl,lk,hcd⟩:=F.ex
 exact .all (h kV doc pm an cdv ct)
theorem GY{x qual:Str}{st:Stmt}{f:Addr}{oc:Value}{od an:Option Addr}{osl:Array (Option Value)}{kV doc pm cdv ct:Value}(l:K.lookup f=some ⟨oc,od, .func (PySem.W.fnOf x qual (mQ st) (lB st) (aR st) .none kV doc pm an cdv ct),osl⟩)
  (c:PySem.W.codeIn K cdv qual=true) (k:PySem.W.keepIn K (.ref f)=true):bO K x qual st f (PySem.W.fnOf x qual (mQ st) (lB st) (aR st) .none kV doc pm an cdv ct):=⟨⟨oc,od,kV,doc,pm,an,cdv,ct,osl,rfl,l,c⟩,k⟩
end
theorem HA{n:Nat}(h:n<=1000):n<sizeLine:=zX h (by decide)
section
variable{X:Cx}
theorem pv(i:Nat){x:Str}{pos:Pos}(hN:X.N[i]?=some x:=by rfl)(hv:AJ X.env.scope x:=by first|exact Or.inl rfl|exact Or.inr (Or.inl rfl)|exact Or.inr (Or.inr rfl))(hd:(x==("__debug__":Str))=false:=by decide)
  (hcd:(x==("__classdict__":Str))=false:=by decide):PE X (.Name x pos) (eU i):=SD hN hv hd hcd
end
theorem GQ{A B:Prop}(h:B):if false=true then A else B:=by
 rw[if_neg c8]
 exact h
theorem ue{A B:Prop}(h:A):if true=true then A else B:=by
 rw[if_pos rfl]
 exact h
theorem nP{c A B:Prop}[Decidable c](h1:c->A)(h2:¬c->B):if c then A else B:=by
 by_cases h:c
 ·rw[if_pos h]
  exact h1 h
 ·rw[if_neg h]
  exact h2 h
def dh(H H':Hp):Prop:=∀b o,H b=some o->H' b=some o
theorem dh.refl(H:Hp):dh H H:=fun _ _ h=>h
theorem dh.trans{H H1 H2:Hp}(a:dh H H1)(b:dh H1 H2):dh H H2:=fun c o h=>b c o (a c o h)
theorem dh.free{H H':Hp}(e:dh H H'){l:Addr}(h:H' l=Option.none):H l=Option.none:=by
  cases q:H l with
  |none=>rfl
  | some o =>
    rw[e l o q] at h
    cases h
theorem dh.seq{K:PySem.W.Frag}{H H':Hp}{a:Addr}{xs:List V}(e:dh H H')(h:aS K H a xs):aS K H' a xs:=by
 rcases h with (h|⟨o,h⟩)|h
 ·exact .inl (.inl (e _ _ h))
 ·exact .inl (.inr ⟨o,e _ _ h⟩)
 ·exact .inr h
end L2
set_option maxHeartbeats 1000000
namespace L2
open PySem PySem.Spec PyProof.Rows
def iO(cells:List (Str×Addr)):List (Str×NameKind)->List (Str×Addr)->List (Str×Addr)
 |[],acc=>acc
 |(n,k)::r,acc=>iO cells r (if k==NameKind.free then(match cells.lookup n with|some a=>(n,a)::acc|none=>acc) else acc)
theorem zy{env:Env}{f:Str×NameKind->List (Str×Addr)->Sem (ForInStep (List (Str×Addr)))}
    (hf:∀x acc,f x acc=if(x.2==NameKind.free)=true then(do let a<-cellOf env x.1;pure (ForInStep.yield ((x.1,a)::acc))) else pure (ForInStep.yield acc)):
    ∀(l:List (Str×NameKind)) (acc:List (Str×Addr)),(∀x∈l,x.2= .free->∃a,env.cells.lookup x.1=some a)->(forIn l acc f:Sem (List (Str×Addr)))=pure (iO env.cells l acc)
  |[],acc,_=>by rw[List.forIn_nil];rfl
  | (n, k) :: r, acc, h => by
    have hr:=fun x hx=>h x (cA _ hx)
    rw[List.forIn_cons,hf]
    by_cases hk:(k==NameKind.free)=true
    · have hk':k=NameKind.free:=by simpa using hk
      obtain⟨a,ha⟩:=h (n,k) bG hk'
      have hc:cellOf env n=pure a:=by unfold cellOf;rw[ha]
      rw[if_pos hk,hc]
      show(forIn r ((n,a)::acc) f:Sem (List (Str×Addr)))=pure (iO env.cells r _)
      rw[zy hf r _ hr,if_pos hk,ha]
    · rw[if_neg hk]
      show(forIn r acc f:Sem (List (Str×Addr)))=pure (iO env.cells r _)
      rw[zy hf r _ hr,if_neg hk]
theorem Jw{scope:Scope}{env:Env}(h:∀x∈scope.names,x.2= .free->∃a,env.cells.lookup x.1=some a):closureFor scope env=pure (iO env.cells scope.names []):=by
 simp only[closureFor]
 rw[zy (env:=env) (fun⟨n,k⟩ acc=>by dsimp only) scope.names [] h]
 rfl
theorem AZ{cells:List (Str×Addr)}:∀{l:List (Str×NameKind)} {acc:List (Str×Addr)} {x:Str} {c:Addr},(∀y d,acc.lookup y=some d->cells.lookup y=some d)->(iO cells l acc).lookup x=some c->cells.lookup x=some c
  |[],_,_,_,ha,h=>ha _ _ h
  | (n, k) :: r, acc, x, c, ha, h => by
    refine AZ (l:=r) ?_ h
    intro y d hd
    by_cases hk:(k==NameKind.free)=true
    · rw[if_pos hk] at hd
      cases q:cells.lookup n with
      |none=>rw[q] at hd;exact ha _ _ hd
      | some a =>
        rw[q] at hd
        by_cases hy:(y==n)=true
        · have hy':y=n:=by simpa using hy
          subst hy'
          simp[gD] at hd
          rw[q,hd]
        · have hy':(y==n)=false:=by simpa using hy
          simp only[gD,hy'] at hd
          exact ha _ _ hd
    · rw[if_neg hk] at hd;exact ha _ _ hd
theorem Ca{cells:List (Str×Addr)}:∀{l:List (Str×NameKind)} {acc:List (Str×Addr)} {x:Str},(acc.lookup x).isSome=true->((iO cells l acc).lookup x).isSome=true
  |[],_,_,h=>h
  | (n, k) :: r, acc, x, h => by
    refine Ca (l:=r) ?_
    by_cases hk:(k==NameKind.free)=true
    · rw[if_pos hk]
      cases q:cells.lookup n with
      |none=>exact h
      | some a =>
        by_cases hy:(x==n)=true
        · simp[gD,hy]
        · have hy':(x==n)=false:=by simpa using hy
          simp only[gD,hy']
          exact h
    · rw[if_neg hk];exact h
theorem B6{cells:List (Str×Addr)}:∀{l:List (Str×NameKind)} {acc:List (Str×Addr)} {x:Str} {a:Addr},(x,NameKind.free)∈l->cells.lookup x=some a->((iO cells l acc).lookup x).isSome=true
  |[],_,_,_,h,_=>nomatch h
  | (n, k) :: r, acc, x, a, h, hc => by
    rcases aH.mp h with e|h
    · obtain⟨rfl,rfl⟩:=Prod.mk.inj e
      refine Ca (l:=r) ?_
      rw[if_pos (by decide),hc]
      simp[gD]
    · exact B6 (l:=r) h hc
theorem Hs{cells:List (Str×Addr)}{l:List (Str×NameKind)}{x:Str}{a:Addr}(h:(x,NameKind.free)∈l)(hc:cells.lookup x=some a):(iO cells l []).lookup x=some a:=by
 obtain⟨c,e⟩:=Eb.mp (B6 (acc:=[]) h hc)
 have:=AZ (fun y d (q:([]:List (Str×Addr)).lookup y=some d)=>by simp at q) e
 rw[hc] at this;cases this
 exact e
theorem z9{env:Env}:∀{l:List (Str×NameKind)} {x:Str} {k:NameKind},(∀y∈l,y.2≠ .cell)->
    (l.map fun(n,k)=>if(k==NameKind.free && env.scope.kind== .function && env.kindOf n==some .cell) then(n,NameKind.cell) else(n,k)).lookup x=some k->k= .cell\/k= .free->l.lookup x=some .free
  |[],_,_,_,h,_=>by simp at h
  | (n, q) :: r, x, k, hc, h, hk => by
    have hr:=fun y hy=>hc y (cA _ hy)
    have ih:=z9 (env:=env) (l:=r) (x:=x) (k:=k) hr
    rw[bF] at h
    dsimp only at h
    by_cases hx:(x==n)=true
    · simp only[gD,hx]
      by_cases hq:(q==NameKind.free && env.scope.kind== .function && env.kindOf n==some .cell)=true
      · have:q= .free:=by
          simp only[cK] at hq
          simpa using hq.1.1
        rw[this]
      · rw[if_neg hq] at h
        simp only[gD,hx] at h
        have CC:q=k:=fR h
        rcases hk with e|e
        · exact absurd (CC.trans e) (hc (n,q) bG)
        · rw[CC,e]
    · have hx':(x==n)=false:=by simpa using hx
      simp only[gD,hx']
      refine ih ?_ hk
      by_cases hq:(q==NameKind.free && env.scope.kind== .function && env.kindOf n==some .cell)=true
      · rw[if_pos hq] at h
        simp only[gD,hx'] at h
        exact h
      · rw[if_neg hq] at h
        simp only[gD,hx'] at h
        exact h
theorem Gb{env:Env}:∀{l:List (Str×NameKind)} {x:Str},l.lookup x=some .free->
    (l.map fun(n,k)=>if(k==NameKind.free && env.scope.kind== .function && env.kindOf n==some .cell) then(n,NameKind.cell) else(n,k)).lookup x=some .cell\/
    (l.map fun(n,k)=>if(k==NameKind.free && env.scope.kind== .function && env.kindOf n==some .cell) then(n,NameKind.cell) else(n,k)).lookup x=some .free
  |[],_,h=>by simp at h
  | (n, q) :: r, x, h => by
    have ih:=Gb (env:=env) (l:=r) (x:=x)
    rw[bF]
    dsimp only
    by_cases hx:(x==n)=true
    · simp only[gD,hx] at h
      by_cases hq:(q==NameKind.free && env.scope.kind== .function && env.kindOf n==some .cell)=true
      · rw[if_pos hq]
        left
        simp only[gD,hx]
      · rw[if_neg hq]
        right
        simp only[gD,hx]
        exact h
    · have hx':(x==n)=false:=by simpa using hx
      simp only[gD,hx'] at h
      have:=ih h
      by_cases hq:(q==NameKind.free && env.scope.kind== .function && env.kindOf n==some .cell)=true
      · rw[if_pos hq]
        simp only[gD,hx']
        exact this
      · rw[if_neg hq]
        simp only[gD,hx']
        exact this
def dY(sx:Scope)(NX:List Str)(scope:Scope)(N:List Str)(mp:List (Option Nat)):Bool:=
 (scope.kind== .function) && scope.names.all (fun y=>y.2 != .cell) && scope.names.all (fun y=>y.2 != .local||scope.names.lookup y.1==some .local) &&
 scope.names.all (fun y=>y.2 != .free||sx.names.lookup y.1==some .cell||sx.names.lookup y.1==some .free) &&(mp.length==N.length) &&
 ((N.zip mp).all fun p=>match p.2 with|none=>true|some j=>NX[j]?==some p.1 && scope.names.lookup p.1==some .free)
structure dB(sx:Scope)(NX:List Str)(scope:Scope)(N:List Str)(mp:List (Option Nat)):Prop where
 kind:scope.kind= .function
 cell:∀y∈scope.names,y.2≠ .cell
 names:∀y∈scope.names,y.2= .local->scope.names.lookup y.1=some .local
 free:∀y∈scope.names,y.2= .free->sx.names.lookup y.1=some .cell\/sx.names.lookup y.1=some .free
 len:mp.length=N.length
 look:∀(i j:Nat) (x:Str),mp[i]?=some (some j)->N[i]?=some x->NX[j]?=some x/\scope.names.lookup x=some .free
theorem dB.of{sx:Scope}{NX:List Str}{scope:Scope}{N:List Str}{mp:List (Option Nat)}(h:dY sx NX scope N mp=true):dB sx NX scope N mp:=by
 unfold dY at h
 simp only[cK,rA] at h
 obtain⟨⟨⟨⟨⟨h1,h2⟩,h3⟩,h4⟩,h5⟩,h6⟩:=h
 refine⟨by simpa using h1,fun y hy=>by simpa using h2 y hy,fun y hy e=>?_,fun y hy e=>?_,by simpa using h5,fun i j x e1 e2=>?_⟩
 ·have:=h3 y hy
  simpa[e] using this
 ·have:=h4 y hy
  simpa[e] using this
 ·have hm:(x,some j)∈N.zip mp:=by
   have:(N.zip mp)[i]?=some (x,some j):=by
    rw[List.getElem?_zip_eq_some];exact⟨e2,e1⟩
   exact dN this
  have:=h6 _ hm
  simpa using this
def gF(mp:List (Option Nat))(σ:St):St:=mp.map fun o=>match o with|none=>none|some j=>match σ[j]? with|some v=>v|none=>none
def iK(X:Cx)(scope:Scope)(C:Addr)(N:List Str)(s₀:Shared)(H₀:Hp)(fp:List Addr):Cx:=
 {X with N:=N,s₀:=s₀,H₀:=H₀,env:=compEnvC scope (iO X.env.cells scope.names []) C X.env,outer:=X.stack,ex:=fp,fn:=fun _=>false,pn:=[],xe:=fun _ _=>False}
def o7(X:Cx)(ifs:List Expr)(t:TT):Prop:=
 ∀(pins:List (Addr×Obj)) (s:Shared) (σ:St) (H:Hp) (Q:Bool->Hp->Prop),Inv X pins σ H s->t σ H Q->
  wpAny (model X.prog X.w) X.A (forIn ifs true fun c r=>if r=true then do let ok<-isTrue c X.env (eval c X.env);pure (ForInStep.yield ok) else pure (ForInStep.yield r)) (TP X pins σ Q) X.xe s
def nR:TT:=fun _ H Q=>Q true H
theorem fL{X:Cx}:o7 X [] nR:=fun pins s σ H Q I h=>wpAny_tests_nil ⟨H,I,h⟩
theorem tF{X:Cx}{c:Expr}{t:TT}(h:PT X c t):o7 X [c] t:=fun pins s σ H Q I q=>wpAny_tests_one (h pins s σ H Q I q)
def pA(J:It)(g:TG)(tc:TT)(te:TE)(acc:Addr)(Qe:Hp->Prop)(σ:St)(H:Hp):Prop:=∃W:Nat->Nat->St->Hp->Prop,(∃m,W 0 m σ H)/\∀i m σ H,W i m σ H->
 (J.stop i H /\ Qe H) \/ (J.go i H /\ ∃ Nx : St -> Hp -> Prop, (∀ σ' H', Nx σ' H' -> ∃ m', m' < m /\ W (i + 1) m' σ' H') /\ ∀ x H', J.kL i H x H' -> g x σ H' fun σ2 H2 => tc σ2 H2 fun b H3 =>
  if b=true then te σ2 H3 fun v H4=>∃ys,H4 acc=some (.lst ys)/\ys.length<sizeLine/\Nx σ2 (upd H4 acc (.lst (ys++[v]))) else Nx σ2 H3)
def l9(wi:TI)(g:TG)(tc:TT)(te:TE)(mp:List (Option Nat)):TE:=fun σ H Q=>wi σ H fun J H1=>∀acc,H1 acc=none->pA J g tc te acc (fun H'=>Q (.ref acc) H') (gF mp σ) (upd H1 acc (.lst []))
section
variable{prog:Program}{w:World}{A:Around}{R:Result->Shared->Prop}{s:Shared}
theorem OB{elt target iter:Expr}{ifs:List Expr}{scope:Scope}{pos:Pos}{it acc:Value}{env:Env}(I:Nat->Shared->Prop)
    (turn:∀n s,I n s->wpAny (model prog w) A (pyNext it) (fun r s₁=>match r with
      |none=>R (.ok .next) s₁
      |some v=>wpAny (model prog w) A (letOwnedTupleGo target it v) (fun _ s₀=>wpAny (model prog w) A (assign target env v) (fun _ s₂=>
          wpAny (model prog w) A (forIn ifs true fun c r=>if r=true then do let ok<-isTrue c env (eval c env);pure (ForInStep.yield ok) else pure (ForInStep.yield r)) (fun ok s₃=>
            if ok=true then wpAny (model prog w) A (eval elt env) (fun x s₄=>
              wpAny (model prog w) A (call (.builtin "list.append") [acc,x]) (fun _ s₅=>∃m,m<n/\I m s₅) (fun _ _=>False) s₄) (fun _ _=>False) s₃
            else∃m,m<n/\I m s₃) (fun _ _=>False) s₂) (fun _ _=>False) s₀) (fun _ _=>False) s₁) (fun _ _=>False) s)
    (n:Nat) (h:I n s):
    codeAny (model prog w) A (.compLoop (.ListComp elt [⟨target,iter,ifs,0⟩] scope pos) 0 it acc env) R s:=by
  refine codeAny_loop rfl I (fun n s hI=>?_) n h
  show wpAny _ A ((compTurn (.ListComp elt [⟨target,iter,ifs,0⟩] scope pos) 0 it acc env).onRaise (fun x=>do noteFrame x env;theTreesLotGoes x)) _ _ s
  refine wpAny_noted ?_
  rw[compTurn_list]
  refine wpAny_bind (wpAny_standAt (wpAny_bind (wpAny_mono (turn n s hI) (fun r s₁ h₁=>?_) fun _ _ h'=>h'.elim)))
  cases r with
  |none=>exact wpAny_pure h₁
  | some v =>
    refine wpAny_bind (wpAny_mono h₁ (fun _ s₀ h₀=>?_) fun _ _ h'=>h'.elim)
    refine wpAny_bind (wpAny_mono h₀ (fun _ s₂ h₂=>wpAny_bind (wpAny_mono h₂ (fun ok s₃ h₃=>?_) fun _ _ h'=>h'.elim)) fun _ _ h'=>h'.elim)
    cases ok with
    |false=>exact wpAny_pure ⟨rfl,h₃⟩
    | true =>
      exact wpAny_bind (wpAny_bind (wpAny_mono h₃ (fun x s₄ h₄=>wpAny_bind (wpAny_mono h₄ (fun _ s₅ h₅=>wpAny_pure (wpAny_pure ⟨rfl,h₅⟩)) fun _ _ h'=>h'.elim)) fun _ _ h'=>h'.elim))
end
section
variable{X:Cx}
theorem GK{elt iter tg:Expr}{ifs:List Expr}{scope:Scope}{pos pos':Pos}{N:List Str}{mp:List (Option Nat)}{wi:TI}{g:TG}{tc:TT}{te:TE}{use:Option (Value->Sem Unit)}
    {pins:List (Addr×Obj)} {s:Shared} {σ:St} {H:Hp} {Q:VK} {QQ:Value->Shared->Prop}
    (ok:dB X.env.scope X.N scope N mp) (hc:X.calm=true) (hi:PI X tg iter wi)
    (hb:∀C s₀ H₀ fp,PG (iK X scope C N s₀ H₀ fp) tg g/\o7 (iK X scope C N s₀ H₀ fp) ifs tc/\PE (iK X scope C N s₀ H₀ fp) elt te)
    (hs:∀x,foldedSetIterable iter X.env x=pure x) (I:Inv X pins σ H s) (h:l9 wi g tc te mp σ H Q)
    (fin:∀acc C H' s' m,Inv X pins σ H' s'->iu X pins H' C->s'.heap.Ns C m->Q (.ref acc) H'->compPost (model X.prog X.w) X.A X.xe use QQ (.ref acc) C (.ok .next) s'):
    wpAny (model X.prog X.w) X.A (comprehension (.ListComp elt [⟨tg,iter,ifs,0⟩] scope pos) scope X.env pos' (newList []) false (eval iter X.env) use) QQ X.xe s:=by
  have hfree:∀x∈scope.names,x.2= .free->∃a,X.env.cells.lookup x.1=some a:=fun x hx e=>I.ok.has x.1 (ok.free x hx e)
  refine wpAny_comprehension_free (use:=use) rfl hs (Jw hfree) ok.kind ok.names (aP (hi pins s σ H _ I h) fun v s1 h1=>aP h1 fun itv s2 h2=>?_)
  obtain⟨it,fp,tn,J,H2,e,I2,T,st2,f2,hW⟩:=h2
  subst e
  refine wpAny_newObj_type (wpAny_newFunctionEnv ok.cell (by intro y hy;simp at hy) (fun h₁ vm AM=>?_) ok.kind)
  dsimp only at vm AM⊢
  have I3:=I2.Bm (its:=[]) (ys:=[]) (t':=s2.toks) .nil (fF _)
  have hW:=hW s2.heap.objs.size I2.fresh
  obtain⟨W,⟨m0,w0⟩,turn⟩:=hW
  generalize wK:s2.heap.push {cls:= .type "list",dict:=none,data:= .seq ([]:List Value).toArray}=HP at vm AM⊢
  have I3:Inv X pins σ (upd H2 s2.heap.objs.size (.lst [])) {s2 with heap:=HP}:=by rw[<-wK];exact I3
  generalize Mt:upd H2 s2.heap.objs.size (.lst [])=H3 at I3 w0
  have hC:HP.objs.size=s2.heap.objs.size+1:=by rw[<-wK,lg]
  have old:∀b o,HP.get? b=some o->h₁.get? b=some o:=fun b o e=>AM.extBut b o (bK (aW e)) (bw _ e)
  have j9:∀b∈fp,b<s2.heap.objs.size:=fun b hb=>by
    obtain⟨o,e,_⟩:=T.obj 0 _ st2 b hb
    exact aW e
  have Of:∀b∈fp,H3 b=none:=fun b hb=>by
    rw[<-Mt,aq (bK (j9 b hb))]
    exact(f2 b hb).1
  have oO:∀{x:Str} {c:Addr},(iO X.env.cells scope.names []).lookup x=some c->X.env.cells.lookup x=some c:=fun{x c} e=>AZ (fun y d q=>by simp at q) e
  have tP:(iK X scope HP.objs.size N {s2 with heap:=HP} H3 fp).Ok:=by
    refine⟨I2.ok.mod,ok.kind,I2.ok.glob,I2.ok.blt,aK _,fun x y c e1 e2=>I2.ok.inj x y c (oO e1) (oO e2),fun x hx=>?_,(fun x c e=>absurd (show false=true from e) (by decide)),I2.ok.hd,I2.ok.frames, .inl rfl,fun b hb=>?_,I3.bs,dH I3.ok.mJ I3.sz,fun b o e hb=>?_,fun b hb hz=>?_,I3.stack,I3.Fi⟩
    · have hx':scope.names.lookup x=some .free:=by
        rcases hx with hx|hx
        · exact z9 ok.cell hx (.inl rfl)
        · exact z9 ok.cell hx (.inr rfl)
      have hm:=lE hx'
      obtain⟨a,ha⟩:=hfree _ hm rfl
      exact⟨a,Hs hm ha⟩
    · refine⟨fun z=>?_,fun x c e=>(f2 b hb).2.2.2.2.1 x c (oO e)⟩
      have z':b=HP.objs.size:=z
      have q:=j9 b hb
      rw[z',hC] at q
      exact absurd q (Nat.not_lt.mpr (jc _))
    · rcases(f2 b hb).2.2.2.1 with z|z
      · exact I2.ok.o5 b o e z
      · exact absurd (dI (aW (I2.ok.bs b o e).1) z) (iV _)
    · rcases aH.mp (I2.xG b hz) with z|z
      · exact(f2 b hb).2.1 z
      · exact(f2 b hb).2.2.1 z
  have IY:Inv (iK X scope HP.objs.size N {s2 with heap:=HP} H3 fp) [] (gF mp σ) H3 {s2 with heap:=h₁,toks:=s2.toks+([]:List (Str×Value)).length}:=by
    refine⟨tP,rfl,I2.bare,Un.kept old,⟨_,vm,fun i x v e1 e2 e3=>?_⟩,fun x c e=>?_,I3.hok.fresh (aK _),fun x c e=>I3.iJ x c (oO e),fun p hp=>absurd (show p∈([]:List (Addr×Obj)) from hp) (by simp),I3.hok.kept old,?_⟩
    · have hj:∃j,mp[i]?=some (some j)/\σ[j]?=some (some v):=by
        unfold gF at e2
        rw[aI] at e2
        cases q:mp[i]? with
        |none=>rw[q] at e2;cases e2
        | some o =>
          rw[q] at e2
          cases o with
          |none=>cases e2
          | some j =>
            refine⟨j,rfl,?_⟩
            have e2:(match σ[j]? with|some v=>v|none=>none)=some v:=fR e2
            cases r:σ[j]? with
            |none=>rw[r] at e2;cases e2
            | some u =>
              rw[r] at e2
              have e2:u=some v:=e2
              rw[e2]
      obtain⟨j,hj1,hj2⟩:=hj
      obtain⟨l1,l2⟩:=ok.look i j x hj1 e1
      have hm:=lE l2
      have kx:=ok.free _ hm rfl
      obtain⟨mm,_,hl⟩:=I3.loc
      obtain⟨u,ru,lk⟩:=hl j x v l1 hj2 (kx.elim (fun z=> .inr (.inl z)) fun z=> .inr (.inr z))
      refine⟨u,ru, .inr ⟨Gb l2,?_⟩⟩
      rcases lk with ⟨k,_⟩|⟨_,c,e,z⟩
      · exfalso
        have k':X.env.scope.names.lookup x=some .local:=k
        rcases kx with kx|kx
        · rw[k'] at kx;cases kx
        · rw[k'] at kx;cases kx
      · refine⟨c,Hs hm e,?_⟩
        obtain⟨o,ho,hd⟩:=z
        exact⟨o,old c o ho,hd⟩
    · obtain⟨v,o,ho,hd⟩:=I3.cell x c (oO e)
      exact⟨v,o,old c o ho,hd⟩
    · show(gF mp σ).length=N.length
      unfold gF
      rw[aj,ok.len]
  have kE:∀{H':Hp},(∀b∈fp,H' b=none)->∀b∈fp,iu (iK X scope HP.objs.size N {s2 with heap:=HP} H3 fp) [] H' b:=fun{H'} hn b hb=>
    ⟨hn b hb,(tP.sW b hb).1,tP.qF b hb, .inl hb,(tP.sW b hb).2,fun p hp=>absurd (show p∈([]:List (Addr×Obj)) from hp) (by simp)⟩
  have Hr:tn 0 h₁:=T.keep 0 _ _ st2 fun b hb o e=>old b o (by rw[<-wK];exact bw _ e)
  have loop:codeAny (model X.prog X.w) X.A (.compLoop (.ListComp elt [⟨tg,iter,ifs,0⟩] scope pos) 0 (.ref it) (.ref s2.heap.objs.size) (compEnvC scope (iO X.env.cells scope.names []) HP.objs.size X.env))
      (compPost (model X.prog X.w) X.A X.xe use QQ (.ref s2.heap.objs.size) HP.objs.size) {s2 with heap:=h₁,toks:=s2.toks+([]:List (Str×Value)).length}:=by
    obtain⟨hg,ht,he⟩:=hb HP.objs.size {s2 with heap:=HP} H3 fp
    generalize hY:iK X scope HP.objs.size N {s2 with heap:=HP} H3 fp=Y at hg ht he IY kE
    have yp:Y.prog=X.prog:=by rw[<-hY];rfl
    have yw:Y.w=X.w:=by rw[<-hY];rfl
    have yK:Y.K=X.K:=by rw[<-hY];rfl
    have yA:Y.A=X.A:=by rw[<-hY];rfl
    have yc:Y.calm=true:=by rw[<-hY];exact hc
    have yx:Y.xe=fun _ _=>False:=by rw[<-hY];rfl
    have EW:Y.env=compEnvC scope (iO X.env.cells scope.names []) HP.objs.size X.env:=by rw[<-hY];rfl
    rw[<-EW]
    refine OB (fun n s'=>∃i σ' H',Inv Y [] σ' H' s'/\tn i s'.heap/\(∀b∈fp,H' b=none)/\W i n σ' H') ?_ m0 ⟨0,_,H3,IY,Hr,Of,w0⟩
    rintro n s3 ⟨i,σ3,H4,I4,st3,fr3,w3⟩
    rcases turn i n σ3 H4 w3 with ⟨stop,qn⟩|⟨go,Nx,hN,step⟩
    · have q0:=T.done Y yp yw yK yc i [] s3 σ3 H4 (fun _ _=>False) I4 (kE fr3) st3 stop
      rw[yA] at q0
      refine aP q0 fun r s4 ⟨hr,I5⟩=>?_
      subst hr
      show compPost (model X.prog X.w) X.A X.xe use QQ (.ref s2.heap.objs.size) HP.objs.size (.ok .next) s4
      obtain⟨m,hm,_⟩:=id I5.loc
      have yl:Y.env.locals=HP.objs.size:=by rw[EW];rfl
      rw[yl] at hm
      have fC:H4 HP.objs.size=none:=by have:=I5.free;rw[yl] at this;exact this
      have ub:=I5.base
      have ub':Un (frs X.stack) fp H3 H4 HP s4.heap:=by rw[<-hY] at ub;exact ub
      have hos:s4.os=s2.os:=by have:=I5.os;rw[<-hY] at this;exact this
      have M5:cW X.prog X.w H4 s4.heap:=by have:=I5.hok;rw[yp,yw] at this;exact this
      have IX:Inv X pins σ H4 s4:=I3.SR (ch:=fp) hos ub' M5 I5.bare fun b hb=>⟨(f2 b hb).2.2.2.1,(f2 b hb).2.1,(f2 b hb).2.2.2.2.1,(f2 b hb).2.2.2.2.2⟩
      exact fin _ _ H4 s4 m IX (I3.oF (aK _) fC) hm qn
    · have q0:=T.item Y yp yw yK yc i [] s3 σ3 H4 (fun _ _=>False) I4 (kE fr3) st3 go
      rw[yA] at q0
      refine aP q0 fun r s4 ⟨u,hr,h4⟩=>?_
      subst hr
      refine aP h4 fun _ s5 ⟨x,H5,I5,r5,y5,mF,u7⟩=>?_
      have wj:=I5.pinned (kE u7) (T.obj _ _ mF)
      rw[<-yx,<-yp,<-yw,<-yA]
      refine aP (hg _ s5 σ3 H5 x u _ wj r5 (step x H5 y5)) fun _ s6 ⟨pB,H6,I6,q6⟩=>?_
      refine aP (ht _ s6 pB H6 _ I6 q6) fun b s7 ⟨H7,I7,q7⟩=>?_
      have again:∀{oR:St} {H8:Hp} {s8:Shared},Inv Y ([]++o9 fp s5.heap) oR H8 s8->Nx oR H8->∃m,m<n/\∃i σ' H',Inv Y [] σ' H' s8/\tn i s8.heap/\(∀b∈fp,H' b=none)/\W i m σ' H':=fun{oR H8 s8} I8 n8=>by
        obtain⟨m',hm,w8⟩:=hN oR H8 n8
        refine⟨m',hm,i+1,oR,H8,I8.uf,T.keep _ _ _ mF fun b hb o e=>(I8.pin (b,o) (jT _ (jT _ (sZ hb e)))).1,fun b hb=>?_,w8⟩
        obtain⟨o,e,d⟩:=T.obj _ _ mF b hb
        exact(I8.pin (b,o) (jT _ (jT _ (sZ hb e)))).2.1
      cases b with
      | false =>
        rw[if_neg c8]
        rw[if_neg c8] at q7
        exact again I7 q7
      | true =>
        rw[if_pos rfl]
        rw[if_pos rfl] at q7
        refine aP (he _ s7 pB H7 _ I7 q7) fun v s8 ⟨y,H8,I8,r8,ys,e8,z8,n8⟩=>?_
        refine aP (lI _ s8 pB H8 (.ref s2.heap.objs.size) [y] (.ref s2.heap.objs.size) [v] (fun _ H9=>H9=upd H8 s2.heap.objs.size (.lst (ys++[y]))) I8 rfl (.cons r8 .nil) ⟨_,ys,y,rfl,rfl,e8,z8,rfl⟩) fun v9 s9 ⟨y9,H9,I9,r9,e9⟩=>?_
        subst e9
        exact again I9 n8
  refine codeAny_compStart_list loop (T.self _ _ _ _ _ Hr loop)
theorem iu.turned{pins:List (Addr×Obj)}{s:Shared}{σ:St}{H:Hp}{C:Addr}{h':Heap}(I:Inv X pins σ H s)(f:iu X pins H C)(hs:Heap.SameBut C s.heap h'):Inv X pins σ H {s with heap:=h'}:=
 I.turned (t':=s.toks) (fun b o hb e=>(hs.2 b hb).trans e) f.1 f.2.1 f.2.2.2.1 f.2.2.2.2.1 f.2.2.2.2.2
theorem fh{elt iter tg:Expr}{ifs:List Expr}{scope:Scope}{pos:Pos}{N:List Str}{mp:List (Option Nat)}{wi:TI}{g:TG}{tc:TT}{te:TE}
  (ok:dB X.env.scope X.N scope N mp) (hi:PI X tg iter wi)
  (hb:∀C s₀ H₀ fp,PG (iK X scope C N s₀ H₀ fp) tg g/\o7 (iK X scope C N s₀ H₀ fp) ifs tc/\PE (iK X scope C N s₀ H₀ fp) elt te) (hc:X.calm=true:=by rfl)
  (hs:∀x,foldedSetIterable iter X.env x=pure x:=by intro _;rfl):PE X (.ListComp elt [⟨tg,iter,ifs,0⟩] scope pos) (l9 wi g tc te mp):=by
 intro pins s σ H Q I h
 rw[eval_ListComp]
 refine GK (use:=none) ok hc hi hb hs I h fun acc C H' s' m I' f hn q=>?_
 exact⟨m,hn,fun h' hs'=>⟨.ref acc,H',f.turned I' hs',rfl,q⟩⟩
def B4(i:Nat)(t:TE):TS:=fun D σ H=>t σ H fun v H'=>D.nx (σ.set i (some v)) H'
theorem DB{elt iter tg:Expr}{ifs:List Expr}{scope:Scope}{pos spos py:Pos}{N:List Str}{mp:List (Option Nat)}{wi:TI}{g:TG}{tc:TT}{te:TE}{i:Nat}{y:Str}
  (hN:X.N.Nodup) (hy:X.N[i]?=some y) (hk:X.env.kindOf y=some .local)
  (ok:dB X.env.scope X.N scope N mp) (hi:PI X tg iter wi)
  (hb:∀C s₀ H₀ fp,PG (iK X scope C N s₀ H₀ fp) tg g/\o7 (iK X scope C N s₀ H₀ fp) ifs tc/\PE (iK X scope C N s₀ H₀ fp) elt te) (hc:X.calm=true:=by rfl)
  (hsw:swapsWith (.ListComp elt [⟨tg,iter,ifs,0⟩] scope pos) (some (.Name y py)) spos.line X.env=pure true:=by rfl)
  (hs:∀x,foldedSetIterable iter X.env x=pure x:=by intro _;rfl):PS X (.Assign [.Name y py] (.ListComp elt [⟨tg,iter,ifs,0⟩] scope pos) spos) (B4 i (l9 wi g tc te mp)):=by
 intro pins s σ H D I h
 rw[exec_Assign_Name_used _ _ _ _ hsw]
 refine wpAny_bind (wpAny_standAt (wpAny_bind ?_))
 show wpAny _ X.A (do let _<-comprehension (.ListComp elt [⟨tg,iter,ifs,0⟩] scope pos) scope X.env _ (newList []) false (eval iter X.env) (some (assign (.Name y py) X.env))) _ _ s
 refine wpAny_bind (wpAny_mono (GK (use:=some (assign (.Name y py) X.env)) (QQ:=fun _ s'=>SP X pins D .next s') ok hc hi hb hs I h fun acc C H' s' m I' f hn q=>?_) (fun _ s' hq=>wpAny_pure (wpAny_pure hq)) fun _ _ e=>e)
 refine wpAny_assign_Name (Bx (v:= .ref acc) I' hN hy (.inl hk) rfl (fun s2 I2 ⟨a,sb,ha⟩=>?_) (.inr hk))
 have hne:C≠a:=by
  rcases ha with z|z
  ·rw[z];exact f.2.1
  ·exact fun e=>f.2.2.2.2.1 y a z e.symm
 exact⟨m,hn.sameBut sb hne,fun h' hs'=>⟨_,H',f.turned I2 hs',q⟩⟩
end
def Sm(i:Int):Prop:= -(2^300)<i/\i<2^300
theorem wR{i:Int}(h:Sm i):Builtin.Int.intBits i<=2^20:=by
 obtain⟨h1,h2⟩:=h
 unfold Builtin.Int.intBits
 split
 ·exact fF _
 ·rename_i h0
  have hn:i.natAbs≠0:=by
   intro e
   apply h0
   simp
   omega
  have h3:i.natAbs<2^300:=by omega
  have h4:i.natAbs.log2<300:=(yL hn).mpr h3
  have:(2:Nat)^20=1048576:=by decide
  omega
theorem SQ{x y:Int}(h:Sm y):Builtin.divisionGoesByPylong x y=false:=by
 refine PyProof.noPylong_of_log2 ?_
 obtain⟨h1,h2⟩:=h
 by_cases h0:y.natAbs=0
 ·rw[h0];decide+kernel
 ·have h3:y.natAbs<2^300:=by omega
  have h4:y.natAbs.log2<300:=(yL h0).mpr h3
  omega
section
variable{X:Cx}
theorem nQ:dX X (binaryOp .FloorDiv) (rI (fun _ j=>0<j/\Sm j) fun i j=> .int (i/j)):=ur fun i j _ _ _ _ _ hc q=>
 floordiv_int (by omega) (by rw[Int.fdiv_eq_ediv_of_nonneg _ (by omega)];exact q) (.inl (SQ hc.2))
theorem Oz:nu X "int.bit_length" (fun x xs H Q=>∃i,x= .int i/\xs=[]/\Q (.int (Builtin.Int.intBits i)) H):=by
 intro pins s σ H x xs v us Q I rx rv h
 obtain⟨i,rfl,rfl,q⟩:=h
 obtain⟨t,rfl⟩:=rx
 cases rv
 exact call_int_bit_length ⟨.int _,H,I.tok _,⟨_,rfl⟩,q⟩
def jP(K:PySem.W.Frag):List V->Hp->VK->Prop:=fun xs H Q=>∃x T t b,xs=[x, .ty T]/\gP K H x t/\PySem.W.kitOne K t (.type T)=some b/\Q (.bl b) H
theorem kK:eE X (.builtin "isinstance") (jP X.K):=by
 intro pins s σ H xs us Q I rv h
 obtain⟨x,T,t,b,rfl,ty,e,q⟩:=h
 obtain⟨u,v,rfl,ru,rv⟩:=rv.two
 cases (show v=Value.type T from rv)
 exact Pw I ru ty e fun tk=>⟨.bl b,H,I.tok tk,rfl,q⟩
def Iu:PyData->Key->Prop
 | .int i,k=>k= .inl i
 | .str x,k=>k= .inr x
 |_,_=>False
mutual
def ai(nb:Addr->Prop)(H:Hp):PyData->V->Prop
 | .none,v=>v= .aM
 | .bool b,v=>v= .bl b
 | .int i,v=>v= .int i
 | .str x,v=>v= .str x
 | .list ds,v=>∃a xs,v= .ref a/\¬nb a/\H a=some (.lst xs)/\af nb H ds xs
 | .tuple ds,v=>∃a xs,v= .ref a/\¬nb a/\H a=some (.tup xs)/\af nb H ds xs
 | .dict kvs,v=>∃a ps,v= .ref a/\¬nb a/\Rd H a (.dK ps)/\ay nb H kvs ps
termination_by structural d=>d
def af(nb:Addr->Prop)(H:Hp):List PyData->List V->Prop
 |[],xs=>xs=[]
 |d::ds,xs=>∃y ys,xs=y::ys/\ai nb H d y/\af nb H ds ys
termination_by structural d=>d
def ay(nb:Addr->Prop)(H:Hp):List (PyData×PyData)->List (Key×V)->Prop
 |[],xs=>xs=[]
 |d::ds,xs=>∃p ys,xs=p::ys/\cG nb H d p/\ay nb H ds ys
termination_by structural d=>d
def cG(nb:Addr->Prop)(H:Hp):PyData×PyData->Key×V->Prop
 |(k,d),p=>Iu k p.1/\ai nb H d p.2
termination_by structural d=>d
end
def aU(nb:Addr->Prop)(H H':Hp):Prop:=∀a o,¬nb a->H a=some o->H' a=some o
def Nb(b:Addr):Addr->Prop:=fun a=>a=b
section
variable{nb cy:Addr->Prop}{H H1 H2 H':Hp}{a b c p:Addr}{o:HO}{xs:List V}
theorem aU.refl(nb:Addr->Prop)(H:Hp):aU nb H H:=fun _ _ _ h=>h
theorem aU.trans(x:aU nb H H1)(y:aU nb H1 H2):aU nb H H2:=fun a o n h=>y a o n (x a o n h)
theorem aU.of(x:dh H H'):aU nb H H':=fun a o _ h=>x a o h
theorem aU.set(h:nb p):aU nb H (upd H p o):=fun a u n q=>by rw[aq (fun e=>n (by rw[e];exact h))];exact q
theorem aU.rd{u:HO}(x:aU nb H H')(n:¬nb a)(h:Rd H a u):Rd H' a u:=by
 rcases h with h|⟨o,h⟩
 ·exact .inl (x _ _ n h)
 ·exact .inr ⟨o,x _ _ n h⟩
end
mutual
theorem ai.keep{nb:Addr->Prop}{H H':Hp}(x:aU nb H H'):∀{d:PyData} {v:V},ai nb H d v->ai nb H' d v
 | .none,_,h=>by unfold ai at h⊢;exact h
 | .bool _,_,h=>by unfold ai at h⊢;exact h
 | .int _,_,h=>by unfold ai at h⊢;exact h
 | .str _,_,h=>by unfold ai at h⊢;exact h
 | .list ds,_,h=>by unfold ai at h⊢;obtain⟨a,xs,e,n,s,r⟩:=h;exact⟨a,xs,e,n,x _ _ n s,af.keep x r⟩
 | .tuple ds,_,h=>by unfold ai at h⊢;obtain⟨a,xs,e,n,s,r⟩:=h;exact⟨a,xs,e,n,x _ _ n s,af.keep x r⟩
 | .dict kvs,_,h=>by unfold ai at h⊢;obtain⟨a,xs,e,n,s,r⟩:=h;exact⟨a,xs,e,n,x.rd n s,ay.keep x r⟩
theorem af.keep{nb:Addr->Prop}{H H':Hp}(x:aU nb H H'):∀{ds:List PyData} {vs:List V},af nb H ds vs->af nb H' ds vs
 |[],_,h=>by unfold af at h⊢;exact h
 |d::ds,_,h=>by unfold af at h⊢;obtain⟨y,ys,e,h1,h2⟩:=h;exact⟨y,ys,e,ai.keep x h1,af.keep x h2⟩
theorem ay.keep{nb:Addr->Prop}{H H':Hp}(x:aU nb H H'):∀{ds:List (PyData×PyData)} {vs:List (Key×V)},ay nb H ds vs->ay nb H' ds vs
 |[],_,h=>by unfold ay at h⊢;exact h
 |d::ds,_,h=>by unfold ay at h⊢;obtain⟨y,ys,e,h1,h2⟩:=h;exact⟨y,ys,e,cG.keep x h1,ay.keep x h2⟩
theorem cG.keep{nb:Addr->Prop}{H H':Hp}(x:aU nb H H'):∀{d:PyData×PyData} {v:Key×V},cG nb H d v->cG nb H' d v
 |(k,d),_,h=>by unfold cG at h⊢;exact⟨h.1,ai.keep x h.2⟩
end
mutual
theorem ai.av{nb cy:Addr->Prop}{H:Hp}(x:∀a,cy a->nb a):∀{d:PyData} {v:V},ai nb H d v->ai cy H d v
 | .none,_,h=>by unfold ai at h⊢;exact h
 | .bool _,_,h=>by unfold ai at h⊢;exact h
 | .int _,_,h=>by unfold ai at h⊢;exact h
 | .str _,_,h=>by unfold ai at h⊢;exact h
 | .list ds,_,h=>by unfold ai at h⊢;obtain⟨a,xs,e,n,s,r⟩:=h;exact⟨a,xs,e,fun z=>n (x a z),s,af.av x r⟩
 | .tuple ds,_,h=>by unfold ai at h⊢;obtain⟨a,xs,e,n,s,r⟩:=h;exact⟨a,xs,e,fun z=>n (x a z),s,af.av x r⟩
 | .dict kvs,_,h=>by unfold ai at h⊢;obtain⟨a,xs,e,n,s,r⟩:=h;exact⟨a,xs,e,fun z=>n (x a z),s,ay.av x r⟩
theorem af.av{nb cy:Addr->Prop}{H:Hp}(x:∀a,cy a->nb a):∀{ds:List PyData} {vs:List V},af nb H ds vs->af cy H ds vs
 |[],_,h=>by unfold af at h⊢;exact h
 |d::ds,_,h=>by unfold af at h⊢;obtain⟨y,ys,e,h1,h2⟩:=h;exact⟨y,ys,e,ai.av x h1,af.av x h2⟩
theorem ay.av{nb cy:Addr->Prop}{H:Hp}(x:∀a,cy a->nb a):∀{ds:List (PyData×PyData)} {vs:List (Key×V)},ay nb H ds vs->ay cy H ds vs
 |[],_,h=>by unfold ay at h⊢;exact h
 |d::ds,_,h=>by unfold ay at h⊢;obtain⟨y,ys,e,h1,h2⟩:=h;exact⟨y,ys,e,cG.av x h1,ay.av x h2⟩
theorem cG.av{nb cy:Addr->Prop}{H:Hp}(x:∀a,cy a->nb a):∀{d:PyData×PyData} {v:Key×V},cG nb H d v->cG cy H d v
 |(k,d),_,h=>by unfold cG at h⊢;exact⟨h.1,ai.av x h.2⟩
end
mutual
theorem ai.fresh{nb:Addr->Prop}{H:Hp}{p:Addr}(hp:H p=none):∀{d:PyData} {v:V},ai nb H d v->ai (fun a=>nb a\/a=p) H d v
 | .none,_,h=>by unfold ai at h⊢;exact h
 | .bool _,_,h=>by unfold ai at h⊢;exact h
 | .int _,_,h=>by unfold ai at h⊢;exact h
 | .str _,_,h=>by unfold ai at h⊢;exact h
 | .list ds,_,h=>by unfold ai at h⊢;obtain⟨a,xs,e,n,s,r⟩:=h;exact⟨a,xs,e,fun z=>z.elim n (ig s hp),s,af.fresh hp r⟩
 | .tuple ds,_,h=>by unfold ai at h⊢;obtain⟨a,xs,e,n,s,r⟩:=h;exact⟨a,xs,e,fun z=>z.elim n (ig s hp),s,af.fresh hp r⟩
 | .dict kvs,_,h=>by unfold ai at h⊢;obtain⟨a,xs,e,n,s,r⟩:=h;exact⟨a,xs,e,fun z=>z.elim n (s.elim (fun s=>ig s hp) fun⟨_,s⟩=>ig s hp),s,ay.fresh hp r⟩
theorem af.fresh{nb:Addr->Prop}{H:Hp}{p:Addr}(hp:H p=none):∀{ds:List PyData} {vs:List V},af nb H ds vs->af (fun a=>nb a\/a=p) H ds vs
 |[],_,h=>by unfold af at h⊢;exact h
 |d::ds,_,h=>by unfold af at h⊢;obtain⟨y,ys,e,h1,h2⟩:=h;exact⟨y,ys,e,ai.fresh hp h1,af.fresh hp h2⟩
theorem ay.fresh{nb:Addr->Prop}{H:Hp}{p:Addr}(hp:H p=none):∀{ds:List (PyData×PyData)} {vs:List (Key×V)},ay nb H ds vs->ay (fun a=>nb a\/a=p) H ds vs
 |[],_,h=>by unfold ay at h⊢;exact h
 |d::ds,_,h=>by unfold ay at h⊢;obtain⟨y,ys,e,h1,h2⟩:=h;exact⟨y,ys,e,cG.fresh hp h1,ay.fresh hp h2⟩
theorem cG.fresh{nb:Addr->Prop}{H:Hp}{p:Addr}(hp:H p=none):∀{d:PyData×PyData} {v:Key×V},cG nb H d v->cG (fun a=>nb a\/a=p) H d v
 |(k,d),_,h=>by unfold cG at h⊢;exact⟨h.1,ai.fresh hp h.2⟩
end
mutual
theorem ai.reads{pins:List (Addr×Obj)}{σ:St}{H:Hp}{s:Shared}{nb:Addr->Prop}(I:Inv X pins σ H s):∀{d:PyData} {v:V} {u:Value},ai nb H d v->RelV v u->d.canLay0=true->∃as,Reads s.heap u d as
  | .none,_,_,h,r,_=>by unfold ai at h;subst h;cases r;exact⟨_, .none⟩
  | .bool _,_,_,h,r,_=>by unfold ai at h;subst h;cases r;exact⟨_, .bool _⟩
  | .int _,_,_,h,r,_=>by unfold ai at h;subst h;obtain⟨t,rfl⟩:=r;exact⟨_, .int _ _⟩
  | .str _,_,_,h,r,_=>by unfold ai at h;subst h;obtain⟨t,rfl⟩:=r;exact⟨_, .str _ _⟩
  | .list ds, _, _, h, r, hc0 => by
    unfold ai at h
    obtain⟨a,xs,rfl,n,s,q⟩:=h
    cases r
    obtain⟨its,rv,p,hz⟩:=I.list (aS.of s)
    obtain⟨as,ra⟩:=af.reads I q rv (by simpa only[PyData.canLay0] using hc0)
    obtain⟨o,ho,hc,m,hd⟩:=p.isList
    exact⟨_, .list ho hc hd (by simpa using ra)⟩
  | .tuple ds, _, _, h, r, hc0 => by
    unfold ai at h
    obtain⟨a,xs,rfl,n,s,q⟩:=h
    cases r
    obtain⟨its,rv,p,hz⟩:=I.tuple (fy.of s)
    obtain⟨as,ra⟩:=af.reads I q rv (by simpa only[PyData.canLay0] using hc0)
    obtain⟨o,ho,hc,m,hd⟩:=p
    exact⟨_, .tuple ho hc hd (by simpa using ra)⟩
  | .dict _,_,_,h,r,hc0=>by simp[PyData.canLay0] at hc0
theorem af.reads{pins:List (Addr×Obj)}{σ:St}{H:Hp}{s:Shared}{nb:Addr->Prop}(I:Inv X pins σ H s):∀{ds:List PyData} {vs:List V} {us:List Value},af nb H ds vs->Vals vs us->PyData.canLayAll0 ds=true->∃as,ReadsAll s.heap us ds as
  |[],_,_,h,r,_=>by unfold af at h;subst h;cases r;exact⟨_, .nil⟩
  | d :: ds, _, _, h, r, hc0 => by
    rw[PyData.canLayAll0,cK] at hc0
    unfold af at h
    obtain⟨y,ys,rfl,h1,h2⟩:=h
    cases r with
    | cons r1 r2 =>
      obtain⟨as,q1⟩:=ai.reads I h1 r1 hc0.1
      obtain⟨bs,q2⟩:=af.reads I h2 r2 hc0.2
      exact⟨_, .cons q1 q2⟩
end
def FI(neg:Bool):R2:=fun x y H Q=>∃nb d e,ai nb H d x/\ai nb H e y/\SeqAt.shaped d=true/\SeqAt.shaped e=true/\Q (.bl (PyData.eqv d e !=neg)) H
theorem uI(hu:X.A.units+64<cLine):dX X (compareOp .Eq) (FI false):=by
 intro pins s σ H x y v u Q I rx ry h
 obtain⟨nb,d,e,h1,h2,h3,h4,q⟩:=h
 obtain⟨as,r1⟩:=h1.reads I rx (oK h3)
 obtain⟨bs,r2⟩:=h2.reads I ry (oK h4)
 exact eq_dataH r1 r2 h3 h4 hu ⟨.bl _,H,I,rfl,by simpa using q⟩
end
mutual
theorem eqv_refl:∀d:PyData,SeqAt.shaped d=true\/d.canLay0=true->PyData.eqv d d=true
  | .none,_=>by simp[PyData.eqv]
  | .bool _,_=>by simp[PyData.eqv]
  | .int _,_=>by simp[PyData.eqv]
  | .str _,_=>by simp[PyData.eqv]
  | .list ds, h => by
    have h':PyData.canLayAll0 ds=true:=by
      rcases h with h|h
      · have:=oK h;simpa[PyData.canLay0] using this
      · simpa[PyData.canLay0] using h
    simp only[PyData.eqv]
    exact eqvAll_refl ds h'
  | .tuple ds, h => by
    have h':PyData.canLayAll0 ds=true:=by
      rcases h with h|h
      · have:=oK h;simpa[PyData.canLay0] using this
      · simpa[PyData.canLay0] using h
    simp only[PyData.eqv]
    exact eqvAll_refl ds h'
  | .dict _, h => by
    rcases h with h|h
    · have:=oK h;simp[PyData.canLay0] at this
    · simp[PyData.canLay0] at h
theorem eqvAll_refl:∀ds:List PyData,PyData.canLayAll0 ds=true->PyData.eqvAll ds ds=true
  |[],_=>by simp[PyData.eqvAll]
  | d :: ds, h => by
    simp only[PyData.canLayAll0,cK] at h
    simp only[PyData.eqvAll,cK]
    exact⟨eqv_refl d (.inr h.1),eqvAll_refl ds h.2⟩
end
structure Callee(P:Program)(w:World)(K:PySem.W.Frag)(mg:Str->Option Value)(base:Heap)(x:Str)(k:Nat)(ps:List Str)(sp:Sp):Prop where
 ex:∃f fd,bH P w K mg base bM k f fd ps sp/\Binds K fd ps []/\PySem.W.keepIn K (.ref f)=true/\mg x=some (.ref f)
theorem aL{X:Cx}{x:Str}{k:Nat}{ps:List Str}{sp:Sp}{p pos:Pos}{e:Expr}{es:List Expr}{t:TA}(c:Callee X.prog X.w X.K X.mg X.base x k ps sp)(hr:fS k X.A)(ha:PA X (e::es) t)(hg:Gl X x:=by rfl)
  (hdb:(x==("__debug__":Str))=false:=by decide) (he:starEach (e::es) X.env=(false,eval e X.env)::starEach es X.env:=by rfl) (hpl:(backTo pos (starEach es X.env)).any (·.1)=false:=by rfl):
  PE X (.Call (.Name x p) (e::es) [] pos) (ju sp [] E0 t):=by
 obtain⟨f,fd,F,b,kp,m⟩:=c.ex
 exact MI F hr hg m kp b .nil NS ha hdb he hpl
theorem Callee.mk'{P:Program}{w:World}{K:PySem.W.Frag}{mg:Str->Option Value}{base:Heap}{x:Str}{st:Stmt}{k:Nat}{ps:List Str}{sp:Sp}{f:Addr}{fd:FuncData}(F:bO K x x st f fd)(ok:bH P w K mg base bM k f fd ps sp)(b:Binds K fd ps [])
  (m:mg x=some (.ref f)):Callee P w K mg base x k ps sp:=⟨f,fd,ok,b,F.kp,m⟩
def aQ(K:PySem.W.Frag)(x q:Str)(st:Stmt)(f:Addr):Prop:=PySem.W.nsIn K mainGlobals x=some (some (.ref f))/\∃fd,bO K x q st f fd
theorem aQ.mk{K:PySem.W.Frag}{x q:Str}{st:Stmt}{f:Addr}{oc:Value}{od an:Option Addr}{osl:Array (Option Value)}{kV doc pm cdv ct:Value}(a:PySem.W.nsIn K mainGlobals x=some (some (.ref f)))(l:K.lookup f=some ⟨oc,od, .func (PySem.W.fnOf x q (mQ st) (lB st) (aR st) .none kV doc pm an cdv ct),osl⟩)
  (c:PySem.W.codeIn K cdv q=true) (k:PySem.W.keepIn K (.ref f)=true):aQ K x q st f:=⟨a,_,GY l c k⟩
end L2
set_option maxRecDepth 100000
set_option maxHeartbeats 1000000
namespace L2
open PySem PySem.Spec PyProof.Rows
section
variable{X:Cx}
theorem gx:dX X (binaryOp .Mult) (rI (fun i j=>ud i j\/(Sm i/\Sm j)) fun i j=> .int (i*j)):=ur fun _ _ _ _ _ _ _ hc q=>mul_int q (by
 rcases hc with hc|hc
 ·exact hc.ok
 ·exact IntMulOk.of_bits (wR hc.1) (wR hc.2))
end
def cU(H:Hp)(b l:Addr):Prop:=∃(ns:List Int) (i c st n:Int),H b=some (.lst [.ref l, .int i, .int c, .int st, .int n])/\H l=some (.lst (ns.map V.int))/\
 (∀x∈ns,0<=x/\x<10^60)/\ns.length<=63/\0<=i/\0<=c/\c<10^60/\0<=st/\st<2147483647
theorem CB{H:Hp}{b l:Addr}{ns:List Int}{i c st n:V}(h:H b=some (.lst [.ref l,i,c,st,n]))(h':H l=some (.lst (ns.map V.int))):l≠b:=by
 intro e
 subst e
 rw[h] at h'
 have e:=HO.lst.inj (fR h')
 cases ns with
 |nil=>cases e
 |cons x r=>rw[bF] at e;cases (List.cons.inj e).1
theorem cU.put{H:Hp}{b l:Addr}{ns:List Int}{i c st n:Int}(hl:l≠b)(h':H l=some (.lst (ns.map V.int)))(h1:∀x∈ns,0<=x/\x<10^60)(h2:ns.length<=63)
  (h3:0<=i) (h4:0<=c) (h5:c<10^60) (h6:0<=st) (h7:st<2147483647):cU (upd H b (.lst [.ref l, .int i, .int c, .int st, .int n])) b l:=
 ⟨ns,i,c,st,n,aV,by rw[aq hl];exact h',h1,h2,h3,h4,h5,h6,h7⟩
theorem cU.put2{H:Hp}{b l p:Addr}{o:HO}(h:cU H b l)(hp:p≠b/\p≠l):cU (upd H p o) b l:=by
 obtain⟨ns,i,c,st,n,h1,h2,r⟩:=h
 exact⟨ns,i,c,st,n,by rw[aq (bB hp.1)];exact h1,by rw[aq (bB hp.2)];exact h2,r⟩
theorem cU.same{H H':Hp}{b l:Addr}(h:cU H b l)(s:dh H H'):cU H' b l:=by
 obtain⟨ns,i,c,st,n,h1,h2,r⟩:=h
 exact⟨ns,i,c,st,n,s _ _ h1,s _ _ h2,r⟩
def jx:Sp:=fun vs H Q _=>∃(b l:Addr) (many:Int),vs=[.ref b, .int many]/\cU H b l/\0<many/\Sm many/\∀(r:Int) (H':Hp),0<=r->r<many->aU (Nb b) H H'->cU H' b l->Q (.int r) H'
def EL(K:PySem.W.Frag):Sp:=fun vs H Q _=>∃(a:Addr) (ns:List Int),vs=[.ref a]/\aS K H a (ns.map V.int)/\ns.length<=63/\∀(b l:Addr) (H':Hp),dh H H'->H b=none->cU H' b l->Q (.ref b) H'
theorem gp{α:Type}{xs:List α}{i:Int}{v:α}(h0:0<=i)(h:xs[i.toNat]?=some v):bD xs i=some v:=by
 have e:i=((i.toNat:Nat):Int):=by omega
 rw[e]
 exact Kd h
theorem dg{H:Hp}{p:Addr}{o:HO}(h:H p=none):dh H (upd H p o):=fun b u q=>by rw[aq (ig q h)];exact q
section
variable{nb:Addr->Prop}{H H':Hp}
theorem af.length:∀{ds:List PyData} {xs:List V},af nb H ds xs->xs.length=ds.length
 |[],_,h=>by unfold af at h;subst h;rfl
 |d::ds,_,h=>by unfold af at h;obtain⟨y,ys,rfl,_,h2⟩:=h;simp[af.length h2]
theorem af.get:∀{ds:List PyData} {xs:List V} {i:Nat} {d:PyData},af nb H ds xs->ds[i]?=some d->∃x,xs[i]?=some x/\ai nb H d x
 |[],_,_,_,_,e=>by simp at e
 |d::ds,_,0,_,h,e=>by unfold af at h;obtain⟨y,ys,rfl,h1,h2⟩:=h;simp at e;subst e;exact⟨y,rfl,h1⟩
 |d::ds,_,i+1,_,h,e=>by unfold af at h;obtain⟨y,ys,rfl,h1,h2⟩:=h;simpa using af.get (i:=i) h2 (by simpa using e)
theorem af.snoc{d:PyData}{x:V}(hd:ai nb H d x):∀{ds:List PyData} {xs:List V},af nb H ds xs->af nb H (ds++[d]) (xs++[x])
 |[],_,h=>by unfold af at h;subst h;unfold af;exact⟨x,[],rfl,hd,by unfold af;rfl⟩
 |e::ds,_,h=>by unfold af at h;obtain⟨y,ys,rfl,h1,h2⟩:=h;show af nb H (e::(ds++[d])) _;unfold af;exact⟨y,ys++[x],rfl,h1,af.snoc hd h2⟩
theorem af.append:∀{ds es:List PyData} {xs ys:List V},af nb H ds xs->af nb H es ys->af nb H (ds++es) (xs++ys)
 |[],_,_,_,h,h'=>by unfold af at h;subst h;exact h'
 |e::ds,es,_,zs,h,h'=>by unfold af at h;obtain⟨y,ys,rfl,h1,h2⟩:=h;show af nb H (e::(ds++es)) _;unfold af;exact⟨y,ys++zs,rfl,h1,af.append h2 h'⟩
theorem af.take:∀{ds:List PyData} {xs:List V} (n:Nat),af nb H ds xs->af nb H (ds.take n) (xs.take n)
 |_,_,0,_=>by simp only[List.take_zero];unfold af;rfl
 |[],_,n+1,h=>by unfold af at h;subst h;simp only[List.take_nil];unfold af;rfl
 |d::ds,_,n+1,h=>by unfold af at h;obtain⟨y,ys,rfl,h1,h2⟩:=h;simp only[List.take_succ_cons];unfold af;exact⟨y,_,rfl,h1,af.take n h2⟩
theorem af.drop:∀{ds:List PyData} {xs:List V} (n:Nat),af nb H ds xs->af nb H (ds.drop n) (xs.drop n)
 |_,_,0,h=>h
 |[],_,n+1,h=>by unfold af at h;subst h;simp only[List.drop_nil];unfold af;rfl
 |d::ds,_,n+1,h=>by unfold af at h;obtain⟨y,ys,rfl,h1,h2⟩:=h;simp only[List.drop_succ_cons];exact af.drop n h2
theorem af.nil:af nb H [] []:=by unfold af;rfl
theorem af.cons{d:PyData}{x:V}{ds:List PyData}{xs:List V}(h1:ai nb H d x)(h2:af nb H ds xs):af nb H (d::ds) (x::xs):=by unfold af;exact⟨x,xs,rfl,h1,h2⟩
theorem ai.int(i:Int):ai nb H (.int i) (.int i):=by unfold ai;rfl
theorem ai.aM:ai nb H .none .aM:=by unfold ai;rfl
theorem ai.bl(b:Bool):ai nb H (.bool b) (.bl b):=by unfold ai;rfl
theorem ai.lst{a:Addr}{ds:List PyData}{xs:List V}(n:¬nb a)(h:H a=some (.lst xs))(hd:af nb H ds xs):ai nb H (.list ds) (.ref a):=by unfold ai;exact⟨a,xs,rfl,n,h,hd⟩
theorem ai.tup{a:Addr}{ds:List PyData}{xs:List V}(n:¬nb a)(h:H a=some (.tup xs))(hd:af nb H ds xs):ai nb H (.tuple ds) (.ref a):=by unfold ai;exact⟨a,xs,rfl,n,h,hd⟩
theorem ai.dJ{v:V}{ds:List PyData}(h:ai nb H (.list ds) v):∃a xs,v= .ref a/\¬nb a/\H a=some (.lst xs)/\af nb H ds xs:=by unfold ai at h;exact h
theorem ai.ofT{v:V}{ds:List PyData}(h:ai nb H (.tuple ds) v):∃a xs,v= .ref a/\¬nb a/\H a=some (.tup xs)/\af nb H ds xs:=by unfold ai at h;exact h
theorem ai.bX{v:V}{i:Int}(h:ai nb H (.int i) v):v= .int i:=by unfold ai at h;exact h
theorem ai.vN{v:V}(h:ai nb H .none v):v= .aM:=by unfold ai at h;exact h
end
def Ro:Sp:=fun vs H Q _=>∃i:Int,vs=[.int i]/\Q (.bl true) H
def sM(K:PySem.W.Frag):Sp:=fun vs H Q _=>∃(a:Addr) (ns:List Int),vs=[.ref a]/\aS K H a (ns.map V.int)/\ns.length<=63/\∀H',Q (.bl true) H'
end L2
set_option maxRecDepth 100000
set_option maxHeartbeats 1000000
namespace L2
open PySem PySem.Spec PyProof.Rows
def z4(Q:VK):List V->Hp->Prop:=fun xs H1=>xs.length<=sizeLine/\∀p,H1 p=none->Q (.ref p) (upd H1 p (.lst xs))
def k9(K:PySem.W.Frag):List V->Hp->VK->Prop:=fun xs H Q=>∃p ys,xs=[.ref p]/\(aS K H p ys\/fy K H p ys)/\∀l,H l=none->Q (.ref l) (upd H l (.lst ys))
theorem oM{X:Cx}:eE X (.type "list") (k9 X.K):=JQ
def CP:R2:=fun x y H Q=>y= .aM/\Q (.bl (decide (x= .aM))) H
def sL:R2:=fun x y H Q=>y= .aM/\Q (.bl (!decide (x= .aM))) H
theorem Pr{X:Cx}:dX X (compareOp .Is) CP:=Ud
theorem yG{X:Cx}:dX X (compareOp .IsNot) sL:=KO
def intOf:Expr->Option Int
 | .Constant (.int i) _ _=>some i
 |_=>none
theorem Ig{e:Expr}{i:Int}(h:intOf e=some i):∃k p,e= .Constant (.int i) k p:=by
 unfold intOf at h
 split at h
 ·cases h;exact⟨_,_,rfl⟩
 ·cases h
def nF:List Expr->Option (List Int)
 |[]=>some []
 |e::r=>(intOf e).bind fun i=>(nF r).map (i:: ·)
def tY(is:List Int):TA:=fun _ H Q=>Q (is.map V.int) H
theorem Hw{X:Cx}:∀{es:List Expr} {is:List Int},nF es=some is->PA X es (tY is):=by
  intro es
  induction es with
  | nil =>
    intro is h
    have e:is=[]:=by simpa[nF] using h.symm
    subst e
    exact ah
  | cons e r ih =>
    intro is h
    unfold nF at h
    cases hi:intOf e with
    |none=>rw[hi] at h;cases h
    | some i =>
      rw[hi] at h
      obtain⟨k,p,rfl⟩:=Ig hi
      obtain⟨js,hj,rfl⟩:=i9.mp (show(nF r).map (i:: ·)=some is from h)
      exact aa (te:=tC (.int i)) (t:=tY js) ak (ih hj)
theorem TX{X:Cx}{i:Nat}{x:Str}{es:List Expr}{is:List Int}{p1 p2 p3:Pos}(hN:X.N.Nodup)(hi:X.N[i]?=some x)(hx:Loc X.env.scope x)(h:nF es=some is)(hf:X.fn x=true\/X.env.scope.names.lookup x=some .local):
  PS X (.Assign [.Name x p1] (.List es p2) p3) (jb (lV (tY is)) (gG i)):=aN hN hi hx (eY (Hw h)) rfl hf
namespace R
section
variable{σ:St}{H:Hp}{Q:VK}{D:Ends}{ta tb te:TE}{K:PySem.W.Frag}
theorem seq{t u:TS}(h:t {D with nx:=u D} σ H):uF t u D σ H:=h
theorem asg{g:TG}(h:te σ H fun x H1=>g x σ H1 D.nx):jb te g D σ H:=h
theorem vB{c:TT}{t u:TS}(h:c σ H fun b H1=>if b=true then t D σ H1 else u D σ H1):vq c t u D σ H:=h
theorem ret(h:te σ H D.rt):qN te D σ H:=h
theorem next(h:D.nx σ H):zU D σ H:=h
theorem var{i:Nat}{v:V}(e:σ[i]?=some (some v))(h:Q v H):eU i σ H Q:=⟨v,e,h⟩
theorem c{v:V}(h:Q v H):tC v σ H Q:=h
theorem op{r:R2}(h:ta σ H fun x H1=>tb σ H1 fun y H2=>r x y H2 Q):dw r ta tb σ H Q:=h
theorem test{q:Bool->Hp->Prop}(h:te σ H fun x H'=>∃k,x= .bl k/\q k H'):Af te σ H q:=h
theorem bl{P:Bool->Prop}{b:Bool}(h:P b):∃k,V.bl b= .bl k/\P k:=⟨b,rfl,h⟩
theorem and{t u:TT}{q:Bool->Hp->Prop}(h:t σ H fun c H1=>if c=true then u σ H1 q else q false H1):Ak t u σ H q:=h
theorem cb{r:List V->Hp->VK->Prop}{t:TA}(h:t σ H fun vs H1=>r vs H1 Q):eS r t σ H Q:=h
theorem call{sp:Sp}{t:TA}(h:t σ H fun vs H1=>sp (vs++[]) H1 Q E0):ju sp [] E0 t σ H Q:=h
theorem nil{q:List V->Hp->Prop}(h:q [] H):bR σ H q:=h
theorem cons{t:TA}{q:List V->Hp->Prop}(h:ta σ H fun x H1=>t σ H1 fun xs H2=>q (x::xs) H2):bx ta t σ H q:=h
theorem lst{t:TA}(h:t σ H (z4 Q)):lV t σ H Q:=h
theorem sl{r:V->Option Int->Option Int->Hp->VK->Prop}{tl th:TO}(h:te σ H fun x H1=>tl σ H1 fun l H2=>th σ H2 fun u H3=>r x l u H3 Q):p5 r te tl th σ H Q:=h
theorem TY{q:Option Int->Hp->Prop}(h:q none H):wF σ H q:=h
theorem part{q:Option Int->Hp->Prop}(h:te σ H fun x H1=>∃i,x= .int i/\q (some i) H1):Ax te σ H q:=h
theorem Sw{P:Int->Prop}{i:Int}(h:P i):∃j,V.int i= .int j/\P j:=⟨i,rfl,h⟩
theorem R3{T:String}{r:V->List V->Hp->VK->Prop}(h:te σ H fun x H1=>qw K T x H1/\r x [] H1 Q):Gy K T r te σ H Q:=h
theorem Sn{i:Int}{A:Prop}(h:A):qw K "int" (.int i) H/\A:=⟨rfl,h⟩
theorem Co{i:Nat}{v:V}{q:St->Hp->Prop}(h:q (σ.set i (some v)) H):gG i v σ H q:=h
theorem SV{to ti:TE}{t:rz}{v:V}{q:St->Hp->Prop}(h:to σ H fun o H1=>ti σ H1 fun i H2=>t o i v H2 fun H3=>q σ H3):pS to ti t v σ H q:=h
theorem M8{t:TG}{u:gX}{v:V}{r:List V}{q:St->Hp->Prop}(h:t v σ H fun σ' H'=>u r σ' H' q):AW t u (v::r) σ H q:=⟨v,r,rfl,h⟩
theorem IW{q:St->Hp->Prop}(h:q σ H):zh [] σ H q:=⟨rfl,h⟩
theorem L3{n:Nat}{t:gX}{a:Addr}{xs:List V}{q:St->Hp->Prop}(hq:fy K H a xs)(hl:xs.length=n)(h:t xs σ H q):tE K n t (.ref a) σ H q:=⟨a,xs,rfl,hq,hl,h⟩
theorem qc{q:Bool->Hp->Prop}(h:q true H):nR σ H q:=h
theorem gU{g:Int->Int->V}{i j:Int}(h:Q (g i j) H):L2.gU g (.int i) (.int j) H Q:=⟨i,j,rfl,rfl,h⟩
theorem rI{C:Int->Int->Prop}{g:Int->Int->V}{i j:Int}(hc:C i j)(h:Q (g i j) H):L2.rI C g (.int i) (.int j) H Q:=⟨i,j,rfl,rfl,hc,h⟩
theorem zz{i j:Int}:decide (V.int i=V.int j)=decide (i=j):=by rw[kM];simp
theorem P7{i j:Int}(h:Q (.bl (decide (i=j))) H):vV (.int i) (.int j) H Q:=⟨rfl,by rw[zz];exact h⟩
theorem Qn{i j:Int}(h:Q (.bl (decide (i≠j))) H):vd (.int i) (.int j) H Q:=⟨rfl,by rw[zz,<-decide_not];exact h⟩
theorem Bl{i:Int}(h:Q (.bl true) H):sL (.int i) .aM H Q:=⟨rfl,by rw[decide_eq_false (fun e=>V.noConfusion e)];exact h⟩
theorem Bp(h:Q (.bl false) H):sL .aM .aM H Q:=⟨rfl,by rw[decide_eq_true rfl];exact h⟩
theorem qQ{p:Addr}{xs:List V}{i:Int}{v:V}(hp:H p=some (.lst xs))(e:bD xs i=some v)(h:Q v H):dM K (.ref p) (.int i) H Q:=⟨p,xs,i,v,rfl,rfl,aS.of hp,e,h⟩
theorem zK{p:Addr}{o:HO}{xs:List V}{i:Int}{v:V}(e:bD xs i=some v)(h:Q v (upd H p (.lst xs))):dM K (.ref p) (.int i) (upd H p (.lst xs)) Q:=⟨p,xs,i,v,rfl,rfl,aS.of aV,e,h⟩
theorem setM{p:Addr}{xs:List V}{k:Int}{j:Nat}{v:V}{q:Hp->Prop}(hp:H p=some (.lst xs))(e:gz xs.length k=some j)(h:q (upd H p (.lst (xs.set j v)))):um (.ref p) (.int k) v H q:=⟨p,xs,k,j,rfl,rfl,hp,e,h⟩
theorem PM{p:Addr}{xs:List V}{k:Int}{j:Nat}{v:V}{q:Hp->Prop}(e:gz xs.length k=some j)(h:q (upd H p (.lst (xs.set j v)))):um (.ref p) (.int k) v (upd H p (.lst xs)) q:=
 ⟨p,xs,k,j,rfl,rfl,aV,e,by rw[u5];exact h⟩
theorem Kf{p:Addr}{xs:List V}{P:List V->Prop}(hp:H p=some (.lst xs))(h:P xs):∃a ys,[V.ref p]=[.ref a]/\(aS K H a ys\/fy K H a ys)/\P ys:=⟨p,xs,rfl, .inl (aS.of hp),h⟩
theorem Gn{p:Addr}{xs:List V}{lo hi:Option Int}(hp:aS K H p xs)(h:∀a,H a=none->Q (.ref a) (upd H a (.lst (j7 xs lo hi)))):kc K (.ref p) lo hi H Q:=⟨p,xs,rfl,hp,h⟩
theorem Nl{a:Int}{P:Int->Prop}(h:P a):∃i,[V.int a]=[.int i]/\P i:=⟨a,rfl,h⟩
theorem bits{i:Int}{P:Int->Prop}(h:P i):∃j,V.int i= .int j/\([]:List V)=[]/\P j:=⟨i,rfl,rfl,h⟩
theorem P6{xs:List V}(h:xs.length<=10000)(q:∀p H',dh H H'->H p=none->H' p=some (.lst xs)->Q (.ref p) H'):z4 Q xs H:=
 ⟨dH h (by decide),fun p hp=>q p _ (dg hp) hp aV⟩
theorem BV{c A B:Prop}[Decidable c](h:c)(q:A):if c then A else B:=by rw[if_pos h];exact q
theorem CS{c A B:Prop}[Decidable c](h:¬c)(q:B):if c then A else B:=by rw[if_neg h];exact q
theorem dT{c:Prop}[Decidable c](h:c):decide c=true:=decide_eq_true h
theorem dF{c:Prop}[Decidable c](h:¬c):¬decide c=true:=by rw[decide_eq_false h];exact c8
theorem C1{c:Prop}[Decidable c](h:¬c):(!decide c)=true:=by rw[decide_eq_false h];rfl
theorem Er{c:Prop}[Decidable c](h:c):¬(!decide c)=true:=by rw[decide_eq_true h];decide
theorem Pu{t:TA}{R:It->Hp->Prop}(h:t σ H fun vs H1=>∃j:Int,vs=[.int j]/\ -(2^62)<=j/\j<2^62/\R (g8 0 j.toNat) H1):sA t σ H R:=h
theorem Lu{P:Int->Prop}{i:Int}(h1: -(2^62)<=i)(h2:i<2^62)(h:P i):∃j:Int,[V.int i]=[.int j]/\ -(2^62)<=j/\j<2^62/\P j:=⟨i,rfl,h1,h2,h⟩
theorem KC{t:TA}{R:It->Hp->Prop}(h:t σ H fun vs H1=>∃i j:Int,vs=[.int i, .int j]/\(-(2^62)<=i/\i<2^62/\ -(2^62)<=j/\j<2^62)/\R (g8 i (j-i).toNat) H1):HE t σ H R:=h
theorem HW{P:Int->Int->Prop}{a b:Int}(h1: -(2^62)<=a/\a<2^62/\ -(2^62)<=b/\b<2^62)(h:P a b):∃i j:Int,[V.int a,V.int b]=[.int i, .int j]/\(-(2^62)<=i/\i<2^62/\ -(2^62)<=j/\j<2^62)/\P i j:=⟨a,b,rfl,h1,h⟩
theorem iL{tl:TE}{R:It->Hp->Prop}(h:tl σ H fun x H1=>∃a,x= .ref a/\(∃xs,aS K H1 a xs)/\R (lO K a) H1):pX K tl σ H R:=h
theorem rX{P:Addr->Prop}{p:Addr}{xs:List V}(hp:aS K H p xs)(h:P p):∃a,V.ref p= .ref a/\(∃xs,aS K H a xs)/\P a:=⟨p,rfl,⟨xs,hp⟩,h⟩
theorem SG{wi:TI}{g:TG}{tb:TS}(h:wi σ H fun J H1=>∃W:Nat->Nat->St->Hp->Prop,(∃m,W 0 m σ H1)/\∀i m σ H,W i m σ H->
 (J.stop i H/\D.nx σ H)\/(J.go i H/\∃N:St->Hp->Prop,(∀σ' H',N σ' H'->∃m',m'<m/\W (i+1) m' σ' H')/\∀x H',J.kL i H x H'->g x σ H' fun σ2 H2=>tb {D with nx:=N,ct:=N,bk:=D.nx} σ2 H2)):mT wi g tb D σ H:=h
theorem comp{wi:TI}{g:TG}{tc:TT}{mp:List (Option Nat)}(h:wi σ H fun J H1=>∀acc,H1 acc=none->pA J g tc te acc (fun H'=>Q (.ref acc) H') (gF mp σ) (upd H1 acc (.lst []))):l9 wi g tc te mp σ H Q:=h
end
theorem HF{lo:Int}{n:Nat}{g:TG}{tc:TT}{te:TE}{acc:Addr}{Qe:Hp->Prop}{σ:St}{H:Hp}(Pv:Nat->St->Hp->Prop)(h0:Pv 0 σ H)
  (hs:∀i σ H,i<n->Pv i σ H->g (.int (lo+i)) σ H fun σ2 H2=>tc σ2 H2 fun b H3=>if b=true then te σ2 H3 fun v H4=>∃ys,H4 acc=some (.lst ys)/\ys.length<sizeLine/\Pv (i+1) σ2 (upd H4 acc (.lst (ys++[v]))) else Pv (i+1) σ2 H3)
  (hd:∀σ H,Pv n σ H->Qe H):pA (g8 lo n) g tc te acc Qe σ H:=by
 refine⟨fun i m σ H=>m=n-i/\i<=n/\Pv i σ H,⟨n,by simp,fF _,h0⟩,?_⟩
 rintro i m σ H ⟨rfl,hi,p⟩
 by_cases hlt:i<n
 ·refine .inr ⟨hlt,Pv (i+1),fun σ' H' p'=>⟨n-(i+1),by omega,rfl,hlt,p'⟩,fun x H' y=>?_⟩
  obtain⟨e,y⟩:=y
  subst e y
  exact hs i σ _ hlt p
 ·have e:i=n:=by omega
  subst e
  exact .inl ⟨aK _,hd σ H p⟩
theorem z5{K:PySem.W.Frag}{a:Addr}{xs:List V}{g:TG}{tc:TT}{te:TE}{acc:Addr}{Qe:Hp->Prop}{σ:St}{H:Hp}(Pv:Nat->St->Hp->Prop)(h0:Pv 0 σ H)(hl:∀i σ H,i<=xs.length->Pv i σ H->aS K H a xs)
  (hs:∀i x σ H,xs[i]?=some x->Pv i σ H->g x σ H fun σ2 H2=>tc σ2 H2 fun b H3=>if b=true then te σ2 H3 fun v H4=>∃ys,H4 acc=some (.lst ys)/\ys.length<sizeLine/\Pv (i+1) σ2 (upd H4 acc (.lst (ys++[v]))) else Pv (i+1) σ2 H3)
  (hd:∀σ H,Pv xs.length σ H->Qe H):pA (lO K a) g tc te acc Qe σ H:=by
 refine⟨fun i m σ H=>m=xs.length-i/\i<=xs.length/\Pv i σ H,⟨xs.length,by simp,fF _,h0⟩,?_⟩
 rintro i m σ H ⟨rfl,hi,p⟩
 have q:=hl i σ H hi p
 by_cases hlt:i<xs.length
 ·refine .inr ⟨⟨xs,xs[i],q,by simp[hlt]⟩,Pv (i+1),fun σ' H' p'=>⟨xs.length-(i+1),by omega,rfl,hlt,p'⟩,fun x H' y=>?_⟩
  obtain⟨e,y⟩:=y
  subst e
  exact hs i x σ _ (y xs q) p
 ·have e:i=xs.length:=by omega
  subst e
  exact .inl ⟨⟨xs,q,aK _⟩,hd σ H p⟩
end R
end L2
set_option maxRecDepth 100000
set_option maxHeartbeats 1000000
namespace L2
open PySem PySem.Spec PyProof.Rows
@[reducible] def pairD(pr:Int×Int):PyData:= .tuple [.int pr.1, .int pr.2]
def ie:Option Int->PyData
 |none=> .none
 |some i=> .int i
def r6:Option Int->V
 |none=> .aM
 |some i=> .int i
def fZ(wd:List (Option Int))(pr:Int×Int):Int:=match wd[pr.1.toNat]? with
 |some (some x)=>pr.2*x
 |_=>0
def bJ(prs:List (Int×Int))(wd:List (Option Int)):Int:=(prs.map (fZ wd)).sum
theorem BP{prs:List (Int×Int)}{wd:List (Option Int)}{i:Nat}(h:i<prs.length):bJ (prs.take (i+1)) wd=bJ (prs.take i) wd+fZ wd prs[i]:=by
 unfold bJ
 rw[wA,aB h,fP,List.sum_append]
 simp
theorem Qg{nb:Addr->Prop}{H:Hp}{o:Option Int}{v:V}(h:ai nb H (ie o) v):v=r6 o:=by
 cases o with
 |none=>exact h.vN
 |some i=>exact h.bX
theorem CL{nb:Addr->Prop}{H:Hp}:∀{wd:List (Option Int)} {xs:List V},af nb H (wd.map ie) xs->xs=wd.map r6
  |[],_,h=>by unfold List.map af at h;exact h
  | o :: wd, _, h => by
    rw[bF] at h
    unfold af at h
    obtain⟨y,ys,rfl,h1,h2⟩:=h
    rw[bF,Qg h1,CL h2]
theorem IE{nb:Addr->Prop}{H:Hp}{pr:Int×Int}{v:V}(h:ai nb H (pairD pr) v):∃t,v= .ref t/\¬nb t/\H t=some (.tup [.int pr.1, .int pr.2]):=by
 obtain⟨t,xs,rfl,n,ht,hd⟩:=h.ofT
 unfold af at hd
 obtain⟨y,ys,rfl,h1,h2⟩:=hd
 unfold af at h2
 obtain⟨z,zs,rfl,h3,h4⟩:=h2
 unfold af at h4
 subst h4
 rw[h1.bX,h3.bX] at ht
 exact⟨t,rfl,n,ht⟩
def wz:Sp:=fun vs H Q _=>∃(nb:Addr->Prop) (p:Int) (va vc:V) (prs:List (Int×Int)) (wd:List (Option Int)),vs=[.int p,va,vc]/\ai nb H (.list (prs.map pairD)) va/\ai nb H (.list (wd.map ie)) vc/\0<p/\
 (∀pr∈prs,0<=pr.1/\pr.1<wd.length/\Sm pr.2)/\(∀x,some x∈wd->Sm x)/\Q (.int (bJ prs wd%p)) H
theorem NN(prs:List (Int×Int)):SeqAt.shaped (.list (prs.map pairD))=true/\PyData.depthAll (prs.map pairD)<=1/\PyData.canLayAll0 (prs.map pairD)=true:=by
 have h:PyData.depthAll (prs.map pairD)<=1/\PyData.canLayAll0 (prs.map pairD)=true:=by
  induction prs with
  |nil=>simp[PyData.depthAll,PyData.canLayAll0]
  |cons a r ih=>simp[pairD,PyData.depthAll,PyData.depth,PyData.canLayAll0,PyData.canLay0,ih.2];have:=ih.1;omega
 refine⟨?_,h⟩
 unfold SeqAt.shaped
 simp[PyData.canLay0,PyData.depth,h.2]
 omega
def tB(r:Int):Prop:=∀d:Int,2<=d->d*d<=r->r%d≠0
def rH:List Int:=[2,3,5,7,2,11,101,10007,65537,1000003,998244353,1000000007,2147483647,1000000000039,1000000000000000003,18446744073709551557,2305843009213693951,618970019642690137449562111,162259276829213363391578010288127,170141183460469231731687303715884105727,1000000000000000000000000000000000000003,9999999999999999999999999999999999999983]
def CI(p:Int):Prop:=2<=p/\p<10^40/\(p∈rH\/tB p)
def zJ:Sp:=fun vs H Q _=>∃n:Int,vs=[.int n]/\2<=n/\n<=10002/\∀(r:Int) (H':Hp),dh H H'->2<=r->r<=10100->tB r->Q (.int r) H'
def PY:Sp:=fun vs H Q _=>∃(b l:Addr),vs=[.ref b]/\cU H b l/\∀(p:Int) (H':Hp),CI p->aU (Nb b) H H'->cU H' b l->Q (.int p) H'
theorem tO{nb:Addr->Prop}{H:Hp}:∀is:List Int,af nb H (is.map PyData.int) (is.map V.int)
 |[]=>af.nil
 |i::is=>af.cons (.int i) (tO is)
theorem ly{nb:Addr->Prop}{H:Hp}:∀{is:List Int} {xs:List V},af nb H (is.map PyData.int) xs->xs=is.map V.int
  |[],_,h=>by unfold List.map af at h;exact h
  | i :: is, _, h => by
    rw[bF] at h
    unfold af at h
    obtain⟨y,ys,rfl,h1,h2⟩:=h
    rw[bF,h1.bX,ly h2]
end L2
set_option maxRecDepth 100000
set_option maxHeartbeats 1000000
namespace L2
open PySem PySem.Spec PyProof.Rows
abbrev Bg:=Option (Addr×Addr)
def NB(B:Bg)(a:Addr):Prop:=∀b l,B=some (b,l)->a≠b
def jh(B:Bg)(H:Hp):Prop:=∀b l,B=some (b,l)->cU H b l
def j3(nb:Addr->Prop)(H:Hp):Prop:=∀a,nb a->H a≠none
structure Kp(S:Addr->Prop)(F:List Addr)(H H':Hp):Prop where
 own:∀a∈F,∀o,H a=some o->H' a=some o
 lst:∀a xs,¬S a->H a=some (.lst xs)->H' a=some (.lst xs)
 tup:∀a xs,¬S a->H a=some (.tup xs)->H' a=some (.tup xs)
 bI:∀a ps,¬S a->Rd H a (.dK ps)->Rd H' a (.dK ps)
theorem Kp.of{S:Addr->Prop}{F:List Addr}{H H':Hp}(h:∀a o,(¬S a\/a∈F)->H a=some o->H' a=some o):Kp S F H H':=
 ⟨fun a ha o e=>h a o (.inr ha) e,fun a xs n e=>h a _ (.inl n) e,fun a xs n e=>h a _ (.inl n) e,fun a ps n e=>e.elim (fun e=> .inl (h a _ (.inl n) e)) fun⟨o,e⟩=> .inr ⟨o,h a _ (.inl n) e⟩⟩
mutual
theorem ai.kp{S:Addr->Prop}{F:List Addr}{H H':Hp}(m:Kp S F H H'):∀{d:PyData} {v:V},ai S H d v->ai S H' d v
 | .none,_,h=>by unfold ai at h⊢;exact h
 | .bool _,_,h=>by unfold ai at h⊢;exact h
 | .int _,_,h=>by unfold ai at h⊢;exact h
 | .str _,_,h=>by unfold ai at h⊢;exact h
 | .list ds,_,h=>by unfold ai at h⊢;obtain⟨a,xs,e,n,s,r⟩:=h;exact⟨a,xs,e,n,m.lst _ _ n s,af.kp m r⟩
 | .tuple ds,_,h=>by unfold ai at h⊢;obtain⟨a,xs,e,n,s,r⟩:=h;exact⟨a,xs,e,n,m.tup _ _ n s,af.kp m r⟩
 | .dict kvs,_,h=>by unfold ai at h⊢;obtain⟨a,xs,e,n,s,r⟩:=h;exact⟨a,xs,e,n,m.bI _ _ n s,ay.kp m r⟩
theorem af.kp{S:Addr->Prop}{F:List Addr}{H H':Hp}(m:Kp S F H H'):∀{ds:List PyData} {vs:List V},af S H ds vs->af S H' ds vs
 |[],_,h=>by unfold af at h⊢;exact h
 |d::ds,_,h=>by unfold af at h⊢;obtain⟨y,ys,e,h1,h2⟩:=h;exact⟨y,ys,e,ai.kp m h1,af.kp m h2⟩
theorem ay.kp{S:Addr->Prop}{F:List Addr}{H H':Hp}(m:Kp S F H H'):∀{ds:List (PyData×PyData)} {vs:List (Key×V)},ay S H ds vs->ay S H' ds vs
 |[],_,h=>by unfold ay at h⊢;exact h
 |d::ds,_,h=>by unfold ay at h⊢;obtain⟨y,ys,e,h1,h2⟩:=h;exact⟨y,ys,e,cG.kp m h1,ay.kp m h2⟩
theorem cG.kp{S:Addr->Prop}{F:List Addr}{H H':Hp}(m:Kp S F H H'):∀{d:PyData×PyData} {v:Key×V},cG S H d v->cG S H' d v
 |(k,d),_,h=>by unfold cG at h⊢;exact⟨h.1,ai.kp m h.2⟩
end
structure Cu where
 v:V
 F:List Addr
 f:Bool
 P:(Addr->Prop)->Hp->Prop
 keep:∀{S:Addr->Prop} {H H':Hp},Kp S F H H'->P S H->P S H'
 av:∀{S S':Addr->Prop} {H:Hp},(∀a,S' a->S a)->P S H->P S' H
 fresh:∀{S:Addr->Prop} {H:Hp} {p:Addr},H p=none->P S H->P (fun a=>S a\/a=p) H
inductive HD where
 |d (x:PyData)|fz (o:Obj) (ps:List (Key×V))|th (c:Cu)
def fW(S:Addr->Prop)(H:Hp):HD->V->Prop
 | .d x,v=>ai S H x v
 | .fz o ps,v=>∃a,v= .ref a/\¬S a/\H a=some (.bL o (.dK ps))
 | .th c,v=>v=c.v/\(∀a∈c.F,¬S a/\H a≠none)/\c.P S H
theorem fW.keep{S:Addr->Prop}{H H':Hp}{x:HD}{v:V}(h:fW S H x v)(b:aU S H H'):fW S H' x v:=by
  cases x with
  |d x=>exact ai.keep b h
  |fz o ps=>obtain⟨a,e,n,q⟩:=h;exact⟨a,e,n,b _ _ n q⟩
  | th c =>
    obtain⟨e,n,q⟩:=h
    refine⟨e,fun a m=>⟨(n a m).1,?_⟩,c.keep (.of fun a o m q=>b a o (m.elim id fun m=>(n a m).1) q) q⟩
    cases z:H a with
    |none=>exact absurd z (n a m).2
    |some o=>rw[b a o (n a m).1 z];exact jm _
theorem fW.av{S S':Addr->Prop}{H:Hp}{x:HD}{v:V}(h:fW S H x v)(b:∀a,S' a->S a):fW S' H x v:=by
 cases x with
 |d x=>exact ai.av b h
 |fz o ps=>obtain⟨a,e,n,q⟩:=h;exact⟨a,e,fun z=>n (b a z),q⟩
 |th c=>obtain⟨e,n,q⟩:=h;exact⟨e,fun a m=>⟨fun z=>(n a m).1 (b a z),(n a m).2⟩,c.av b q⟩
theorem fW.fresh{S:Addr->Prop}{H:Hp}{x:HD}{v:V}{p:Addr}(h:fW S H x v)(hp:H p=none):fW (fun a=>S a\/a=p) H x v:=by
 cases x with
 |d x=>exact ai.fresh hp h
 |fz o ps=>obtain⟨a,e,n,q⟩:=h;exact⟨a,e,fun z=>z.elim n (ig q hp),q⟩
 |th c=>obtain⟨e,n,q⟩:=h;exact⟨e,fun a m=>⟨fun z=>z.elim (n a m).1 fun y=>(n a m).2 (by rw[y];exact hp),(n a m).2⟩,c.fresh hp q⟩
structure Gx where
 B:Bg
 H0:Hp
 A:Addr->Prop
 hold:List (Bool×HD×V):=[]
inductive Sl where
 |no|d (f:Bool) (d:PyData)|own (a:Addr) (f:Bool) (ds:List PyData)|az|raw (v:V)|bI (a:Addr) (f:Bool) (ks:List (Int×PyData))|cu (c:Cu)
def Sl.adr:Sl->List Addr
 | .own a _ _=>[a]
 | .bI a _ _=>[a]
 | .cu c=>c.F
 |_=>[]
@[reducible] def cE(p:Int×PyData):PyData×PyData:=(.int p.1,p.2)
abbrev Rh:=List Sl
def Gx.S(G:Gx)(nb:Addr->Prop)(f:Bool):Addr->Prop:=fun a=>nb a\/G.A a\/¬NB G.B a\/(f=true/\G.H0 a≠none)
def mq(G:Gx)(nb:Addr->Prop)(H:Hp)(x:Option V):Sl->Prop
 | .no=>True
 | .d f d=>∃v,x=some v/\ai (G.S nb f) H d v
 | .own a f ds=>x=some (.ref a)/\nb a/\NB G.B a/\∃xs,H a=some (.lst xs)/\af (G.S nb f) H ds xs
 | .az=>∃b l,G.B=some (b,l)/\x=some (.ref b)
 | .raw v=>x=some v
 | .bI a f ks=>x=some (.ref a)/\nb a/\NB G.B a/\∃ps,H a=some (.dK ps)/\ay (G.S nb f) H (ks.map cE) ps
 | .cu c=>x=some c.v/\(∀a∈c.F,nb a/\NB G.B a)/\c.P (G.S nb c.f) H
structure Wd(G:Gx)(nb:Addr->Prop)(ρ:Rh)(σ:St)(H:Hp):Prop where
 az:jh G.B H
 live:j3 nb H
 old:∀a o,NB G.B a->G.H0 a=some o->H a=some o
 cM:∀a,nb a->NB G.B a->G.H0 a=none
 gA:j3 G.A G.H0
 len:σ.length=ρ.length
 gB:jh G.B G.H0
 dW:∀h∈G.hold,fW (G.S nb h.1) H h.2.1 h.2.2
 ok:∀(i:Nat) (s:Sl),ρ[i]?=some s->∃x,σ[i]?=some x/\mq G nb H x s
 apart:∀(i j:Nat) a f as c g cs,i≠j->ρ[i]?=some (.own a f as)->ρ[j]?=some (.own c g cs)->a≠c
 eg:∀(i j:Nat) a f as c g cs,i≠j->ρ[i]?=some (.bI a f as)->ρ[j]?=some (.bI c g cs)->a≠c
 cP:∀(i j:Nat) c s,i≠j->ρ[i]?=some (.cu c)->ρ[j]?=some s->∀a∈c.F,a∉s.adr
def Step(B:Bg)(H H':Hp):Prop:=(∀a o,NB B a->H a=some o->H' a=some o)/\jh B H'
section
variable{G:Gx}{B:Bg}{nb:Addr->Prop}{ρ:Rh}{σ:St}{H H1 H2 H':Hp}{f g:Bool}{d:PyData}{ds:List PyData}{v:V}{xs:List V}{a p:Addr}
theorem Step.refl(h:jh B H):Step B H H:=⟨fun _ _ _ e=>e,h⟩
theorem Step.trans(x:Step B H H1)(y:Step B H1 H2):Step B H H2:=⟨fun a o n e=>y.1 a o n (x.1 a o n e),y.2⟩
theorem jh.same(h:jh B H)(s:dh H H'):jh B H':=fun b l e=>(h b l e).same s
theorem Step.same(h:jh B H)(s:dh H H'):Step B H H':=⟨fun a o _ e=>s a o e,h.same s⟩
theorem Step.but{cy:Addr->Prop}(s:Step B H H')(h:∀a,¬NB B a->cy a):aU cy H H':=fun a o n e=>s.1 a o (iI fun z=>n (h a z)) e
theorem Step.dz(s:Step G.B H H'):aU (G.S nb f) H H':=s.but fun a h=> .inr (.inr (.inl h))
theorem bz(h:g=true->f=true){cy:Addr->Prop}(hn:∀a,nb a->cy a):∀a,G.S nb g a->G.S cy f a:=by
 intro a z
 rcases z with z|z|z|⟨z,q⟩
 ·exact .inl (hn a z)
 ·exact .inr (.inl z)
 ·exact .inr (.inr (.inl z))
 ·exact .inr (.inr (.inr ⟨h z,q⟩))
theorem NB.lK(h:jh B H)(n:¬NB B a):H a≠none:=by
 intro e
 apply n
 intro b l hb z
 subst z
 obtain⟨_,_,_,_,_,h1,_⟩:=h _ _ hb
 rw[h1] at e;cases e
theorem Wd.qD(W:Wd G nb ρ σ H):j3 (G.S nb f) H:=by
 intro a z
 rcases z with z|z|z|⟨_,z⟩
 ·exact W.live a z
 ·by_cases n:NB G.B a
  ·cases e:G.H0 a with
   |none=>exact absurd e (W.gA a z)
   |some o=>rw[W.old a o n e];exact jm _
  ·exact NB.lK W.az n
 ·exact NB.lK W.az z
 ·by_cases n:NB G.B a
  ·cases e:G.H0 a with
   |none=>exact absurd e z
   |some o=>rw[W.old a o n e];exact jm _
  ·exact NB.lK W.az n
theorem Wd.fresh(W:Wd G nb ρ σ H)(hp:H p=none):¬G.S nb f p:=fun z=>W.qD p z hp
theorem mq.step{x:Option V}{s:Sl}(st:Step G.B H H')(h:mq G nb H x s):mq G nb H' x s:=by
  cases s with
  |no=>trivial
  |d f d=>obtain⟨v,e,h⟩:=h;exact⟨v,e,h.keep st.dz⟩
  |own a f ds=>obtain⟨e,n,q,xs,hx,hd⟩:=h;exact⟨e,n,q,xs,st.1 _ _ q hx,hd.keep st.dz⟩
  |az=>exact h
  |raw v=>exact h
  |bI a f ks=>obtain⟨e,n,q,xs,hx,hd⟩:=h;exact⟨e,n,q,xs,st.1 _ _ q hx,hd.keep st.dz⟩
  | cu c =>
    obtain⟨e,n,p⟩:=h
    refine⟨e,n,c.keep (.of fun a o ha e=>st.1 a o ?_ e) p⟩
    rcases ha with ha|ha
    · exact iI fun z=>ha (.inr (.inr (.inl z)))
    · exact(n a ha).2
theorem OP(n:NB B a)(st:Step B H H')(h:H a≠none):H' a≠none:=by
 cases e:H a with
 |none=>exact absurd e h
 |some o=>rw[st.1 a o n e];exact jm _
theorem Wd.step(W:Wd G nb ρ σ H)(st:Step G.B H H'):Wd G nb ρ σ H' where
 az:=st.2
 live:=fun a n=>by
  by_cases q:NB G.B a
  ·exact OP q st (W.live a n)
  ·exact NB.lK st.2 q
 old:=fun a o n e=>st.1 a o n (W.old a o n e)
 cM:=W.cM
 gA:=W.gA
 len:=W.len
 gB:=W.gB
 dW:=fun h m=>(W.dW h m).keep st.dz
 ok:=fun i s e=>by
  obtain⟨x,e1,h⟩:=W.ok i s e
  exact⟨x,e1,h.step st⟩
 apart:=W.apart
 eg:=W.eg
 cP:=W.cP
theorem Wd.set{i:Nat}{s:Sl}{x:Option V}(W:Wd G nb ρ σ H)(h:mq G nb H x s)(hs:∀a f ds,s= .own a f ds->∀j c g cs,j≠i->ρ[j]?=some (.own c g cs)->a≠c)(hd:∀a f ds,s= .bI a f ds->∀j c g cs,j≠i->ρ[j]?=some (.bI c g cs)->a≠c:=by intro _ _ _ z;cases z)(hcu:∀a∈s.adr,∀j t,j≠i->ρ[j]?=some t->(∃c,s= .cu c)\/(∃c,t= .cu c)->a∉t.adr:=by intro _ z;cases z):Wd G nb (ρ.set i s) (σ.set i x) H where
 az:=W.az
 live:=W.live
 old:=W.old
 cM:=W.cM
 gA:=W.gA
 len:=by rw[gv,gv];exact W.len
 gB:=W.gB
 dW:=W.dW
 ok:=fun j t e=>by
  by_cases hij:i=j
  ·subst hij
   have hl:i<ρ.length:=by have:=(bh.mp e).1;rwa[gv] at this
   rw[cN hl] at e
   cases e
   exact⟨x,cN (by rw[W.len];exact hl),h⟩
  ·rw[bE hij] at e⊢
   exact W.ok j t e
 apart:=fun j k a f as c g cs hjk e1 e2=>by
  by_cases hj:i=j
  ·subst hj
   have hl:i<ρ.length:=by have:=(bh.mp e1).1;rwa[gv] at this
   rw[cN hl] at e1
   cases e1
   rw[bE hjk] at e2
   exact hs a f as rfl k c g cs (bB hjk) e2
  ·by_cases hk:i=k
   ·subst hk
    have hl:i<ρ.length:=by have:=(bh.mp e2).1;rwa[gv] at this
    rw[cN hl] at e2
    cases e2
    rw[bE hj] at e1
    exact(hs c g cs rfl j a f as hjk e1).symm
   ·rw[bE hj] at e1
    rw[bE hk] at e2
    exact W.apart j k a f as c g cs hjk e1 e2
 eg:=fun j k a f as c g cs hjk e1 e2=>by
  by_cases hj:i=j
  ·subst hj
   have hl:i<ρ.length:=by have:=(bh.mp e1).1;rwa[gv] at this
   rw[cN hl] at e1
   cases e1
   rw[bE hjk] at e2
   exact hd a f as rfl k c g cs (bB hjk) e2
  ·by_cases hk:i=k
   ·subst hk
    have hl:i<ρ.length:=by have:=(bh.mp e2).1;rwa[gv] at this
    rw[cN hl] at e2
    cases e2
    rw[bE hj] at e1
    exact(hd c g cs rfl j a f as hjk e1).symm
   ·rw[bE hj] at e1
    rw[bE hk] at e2
    exact W.eg j k a f as c g cs hjk e1 e2
 cP:=fun j k c t hjk e1 e2 a ha=>by
  by_cases hj:i=j
  ·subst hj
   have hl:i<ρ.length:=by have:=(bh.mp e1).1;rwa[gv] at this
   rw[cN hl] at e1
   cases e1
   rw[bE hjk] at e2
   exact hcu a ha k t (bB hjk) e2 (.inl ⟨c,rfl⟩)
  ·by_cases hk:i=k
   ·subst hk
    have hl:i<ρ.length:=by have:=(bh.mp e2).1;rwa[gv] at this
    rw[cN hl] at e2
    cases e2
    rw[bE hj] at e1
    exact fun z=>hcu a z j (.cu c) hjk e1 (.inr ⟨c,rfl⟩) ha
   ·rw[bE hj] at e1
    rw[bE hk] at e2
    exact W.cP j k c t hjk e1 e2 a ha
theorem Wd.mD{i:Nat}(W:Wd G nb ρ σ H)(h:ai (G.S nb f) H d v):Wd G nb (ρ.set i (.d f d)) (σ.set i (some v)) H:=W.set ⟨v,rfl,h⟩ fun _ _ _ e=>by cases e
inductive Wk:Rh->Rh->Prop
 |nil:Wk [] []
 |no {s:Sl} {r r':Rh} (h:Wk r r'):Wk (.no::r) (s::r')
 |eq {s:Sl} {r r':Rh} (h:Wk r r'):Wk (s::r) (s::r')
theorem Wk.at:∀{r r':Rh} {i:Nat} {s:Sl},Wk r r'->r[i]?=some s->s= .no/\(∃t,r'[i]?=some t)\/r'[i]?=some s
 |_,_,_,_, .nil,e=>by simp at e
 |_,_,0,_, .no h,e=>by simp at e;subst e;exact .inl ⟨rfl,_,rfl⟩
 |_,_,0,_, .eq h,e=>by simp at e;subst e;exact .inr rfl
 |_,_,i+1,_, .no h,e=>by simpa using Wk.at (i:=i) h (by simpa using e)
 |_,_,i+1,_, .eq h,e=>by simpa using Wk.at (i:=i) h (by simpa using e)
theorem Wk.len{r r':Rh}(h:Wk r r'):r.length=r'.length:=by
 induction h with
 |nil=>rfl
 |no _ ih=>simp[ih]
 |eq _ ih=>simp[ih]
theorem Wd.wk{ρ':Rh}(W:Wd G nb ρ' σ H)(h:Wk ρ ρ'):Wd G nb ρ σ H where
 az:=W.az
 live:=W.live
 old:=W.old
 cM:=W.cM
 gA:=W.gA
 len:=by rw[h.len];exact W.len
 gB:=W.gB
 dW:=W.dW
 ok:=fun i s e=>by
  rcases h.at e with ⟨rfl,t,e'⟩|e'
  ·obtain⟨x,e1,_⟩:=W.ok i t e';exact⟨x,e1,trivial⟩
  ·exact W.ok i s e'
 apart:=fun i j a f as c g cs hij e1 e2=>by
  rcases h.at e1 with ⟨z,_⟩|iE
  ·cases z
  rcases h.at e2 with ⟨z,_⟩|e2'
  ·cases z
  exact W.apart i j a f as c g cs hij iE e2'
 eg:=fun i j a f as c g cs hij e1 e2=>by
  rcases h.at e1 with ⟨z,_⟩|iE
  ·cases z
  rcases h.at e2 with ⟨z,_⟩|e2'
  ·cases z
  exact W.eg i j a f as c g cs hij iE e2'
 cP:=fun i j c s hij e1 e2 a ha=>by
  rcases h.at e1 with ⟨z,_⟩|iE
  ·cases z
  rcases h.at e2 with ⟨z,_⟩|e2'
  ·subst z;exact fun z=>by cases z
  exact W.cP i j c s hij iE e2' a ha
theorem Wd.more(W:Wd G nb ρ σ H)(hp:H p=none){o:HO}:Wd G (fun a=>nb a\/a=p) ρ σ (upd H p o):=by
 have hS:dh H (upd H p o):=dg hp
 have hN:NB G.B p:=fun b l e z=>by
  subst z
  obtain⟨_,_,_,_,_,h1,_⟩:=W.az _ _ e
  rw[h1] at hp;cases hp
 have W':=W.step (Step.same W.az hS)
 have hA:∀f a,G.S (fun a=>nb a\/a=p) f a->(G.S nb f a\/a=p):=fun f a z=>by
  rcases z with (z|z)|z|z|z
  ·exact .inl (.inl z)
  ·exact .inr z
  ·exact .inl (.inr (.inl z))
  ·exact .inl (.inr (.inr (.inl z)))
  ·exact .inl (.inr (.inr (.inr z)))
 refine⟨W'.az,fun a n=>?_,W'.old,fun a n q=>?_,W.gA,W.len,W.gB,fun h m=>(((W.dW h m).fresh hp).av (hA h.1)).keep (aU.of hS),fun i s e=>?_,W.apart,W.eg,W.cP⟩
 ·rcases n with n|n
  ·exact W'.live a n
  ·subst n;rw[aV];exact jm _
 ·rcases n with n|n
  ·exact W.cM a n q
  ·subst n
   cases e:G.H0 a with
   |none=>rfl
   |some o=>rw[W.old a o q e] at hp;cases hp
 ·obtain⟨x,e1,h⟩:=W.ok i s e
  refine⟨x,e1,?_⟩
  cases s with
  |no=>trivial
  |d f d=>obtain⟨v,e,h⟩:=h;exact⟨v,e,((h.fresh hp).av (hA f)).keep (aU.of hS)⟩
  |own a f ds=>obtain⟨e,n,q,xs,hx,hd⟩:=h;exact⟨e, .inl n,q,xs,hS _ _ hx,((hd.fresh hp).av (hA f)).keep (aU.of hS)⟩
  |az=>exact h
  |raw v=>exact h
  |bI a f ds=>obtain⟨e,n,q,xs,hx,hd⟩:=h;exact⟨e, .inl n,q,xs,hS _ _ hx,((hd.fresh hp).av (hA f)).keep (aU.of hS)⟩
  |cu c=>obtain⟨e,n,q⟩:=h;exact⟨e,fun a ha=>⟨.inl (n a ha).1,(n a ha).2⟩,c.keep (.of fun a o _ e=>hS a o e) (c.av (hA c.f) (c.fresh hp q))⟩
theorem Wd.write(W:Wd G nb ρ σ H){o:HO}(hp:nb p)(hN:NB G.B p)(ho:∀(i:Nat) a f ds,ρ[i]?=some (.own a f ds)->a≠p)(hod:∀(i:Nat) a f ds,ρ[i]?=some (.bI a f ds)->a≠p)(hoc:∀(i:Nat) c,ρ[i]?=some (.cu c)->p∉c.F):Wd G nb ρ σ (upd H p o):=by
  have hl:∀b l,G.B=some (b,l)->p≠l:=fun b l e z=>by
    obtain⟨_,_,_,_,_,_,h2,_⟩:=W.gB b l e
    rw[<-z,W.cM p hp hN] at h2;cases h2
  have hB:jh G.B (upd H p o):=fun b l e=>(W.az b l e).put2 ⟨hN b l e,hl b l e⟩
  have bt:∀f,aU (G.S nb f) H (upd H p o):=fun f=>aU.set (.inl hp)
  refine⟨hB,fun a n=>?_,fun a o' n e=>?_,W.cM,W.gA,W.len,W.gB,fun h m=>(W.dW h m).keep (bt h.1),fun i s e=>?_,W.apart,W.eg,W.cP⟩
  · by_cases z:a=p
    · subst z;rw[aV];exact jm _
    · rw[aq z];exact W.live a n
  · have z:a≠p:=fun z=>by subst z;rw[W.cM a hp n] at e;cases e
    rw[aq z];exact W.old a o' n e
  · obtain⟨x,e1,h⟩:=W.ok i s e
    refine⟨x,e1,?_⟩
    cases s with
    |no=>trivial
    |d f d=>obtain⟨v,e,h⟩:=h;exact⟨v,e,h.keep (bt f)⟩
    |own a f ds=>obtain⟨e',n,q,xs,hx,hd⟩:=h;exact⟨e',n,q,xs,by rw[aq (ho i a f ds e)];exact hx,hd.keep (bt f)⟩
    |az=>exact h
    |raw v=>exact h
    |bI a f ds=>obtain⟨e',n,q,xs,hx,hd⟩:=h;exact⟨e',n,q,xs,by rw[aq (hod i a f ds e)];exact hx,hd.keep (bt f)⟩
    | cu c =>
      obtain⟨e',n,q⟩:=h
      refine⟨e',n,c.keep (.of fun a o' ha e''=>?_) q⟩
      rw[aq]
      · exact e''
      · rintro rfl
        rcases ha with ha|ha
        · exact ha (.inl hp)
        · exact hoc i c e ha
end
end L2
set_option maxRecDepth 100000
set_option maxHeartbeats 1000000
namespace L2
open PySem PySem.Spec PyProof.Rows
abbrev Pd:=Bool->PyData->Prop
def Ev(G:Gx)(ρ:Rh)(te:TE)(Φ:Pd):Prop:=∀nb σ H (Q:VK),Wd G nb ρ σ H->(∀f v H' d,Φ f d->Step G.B H H'->ai (G.S nb f) H' d v->Q v H')->te σ H Q
def aA(G:Gx)(ρ:Rh)(te:TE)(Φ:Bool->List PyData->Prop):Prop:=∀nb σ H (Q:VK),Wd G nb ρ σ H->
 (∀f a xs H' ds,Φ f ds->Step G.B H H'->H a=none->H' a=some (.lst xs)->af (fun x=>G.S nb f x\/x=a) H' ds xs->Q (.ref a) H')->te σ H Q
def Tv(G:Gx)(ρ:Rh)(tt:TT)(Φ:Bool->Prop):Prop:=∀nb σ H (Q:Bool->Hp->Prop),Wd G nb ρ σ H->(∀b H',Φ b->Step G.B H H'->Q b H')->tt σ H Q
def Ov(G:Gx)(ρ:Rh)(to:TO)(Φ:Option Int->Prop):Prop:=∀nb σ H (Q:Option Int->Hp->Prop),Wd G nb ρ σ H->(∀o H',Φ o->Step G.B H H'->Q o H')->to σ H Q
abbrev Fd:=Bool×PyData
def jR(G:Gx)(nb:Addr->Prop)(H:Hp):List Fd->List V->Prop
 |[],vs=>vs=[]
 |e::es,vs=>∃v ws,vs=v::ws/\ai (G.S nb e.1) H e.2 v/\jR G nb H es ws
def Av(G:Gx)(ρ:Rh)(ta:TA)(Φ:List Fd->Prop):Prop:=∀nb σ H (Q:List V->Hp->Prop),Wd G nb ρ σ H->(∀es vs H',Φ es->Step G.B H H'->jR G nb H' es vs->Q vs H')->ta σ H Q
def Gv(G:Gx)(ρ:Rh)(g:TG)(f:Bool)(d:PyData)(Φ:Rh->Prop):Prop:=∀nb σ H v (Q:St->Hp->Prop),Wd G nb ρ σ H->ai (G.S nb f) H d v->(∀σ' ρ',Φ ρ'->Wd G nb ρ' σ' H->Q σ' H)->g v σ H Q
def kU(G:Gx)(ρ:Rh)(g:gX)(f:Bool)(ds:List PyData)(Φ:Rh->Prop):Prop:=∀nb σ H vs (Q:St->Hp->Prop),Wd G nb ρ σ H->af (G.S nb f) H ds vs->(∀σ' ρ',Φ ρ'->Wd G nb ρ' σ' H->Q σ' H)->g vs σ H Q
structure DE where
 nx:Rh->Prop
 rt:Pd
 bk:Rh->Prop:=fun _=>False
 ct:Rh->Prop:=fun _=>False
 rw:(Addr->Prop)->Rh->V->Hp->Prop:=fun _ _ _ _=>False
structure uu(G:Gx)(E:DE)(D:Ends):Prop where
 nx:∀nb ρ σ H,E.nx ρ->Wd G nb ρ σ H->D.nx σ H
 bk:∀nb ρ σ H,E.bk ρ->Wd G nb ρ σ H->D.bk σ H
 ct:∀nb ρ σ H,E.ct ρ->Wd G nb ρ σ H->D.ct σ H
 rt:∀nb ρ σ f v H d,E.rt f d->Wd G nb ρ σ H->ai (G.S (fun _=>False) f) H d v->D.rt v H
 rw:∀nb ρ σ v H,E.rw nb ρ v H->Wd G nb ρ σ H->D.rt v H
def Sv(G:Gx)(ρ:Rh)(ts:TS)(E:DE):Prop:=∀nb σ H D,Wd G nb ρ σ H->uu G E D->ts D σ H
def jo:PyData->Bool
 | .none=>true| .bool _=>true| .int _=>true| .str _=>true|_=>false
def toV:PyData->V
 | .bool b=> .bl b| .int i=> .int i| .str x=> .str x|_=> .aM
section
variable{nb cy:Addr->Prop}{H H':Hp}{d e:PyData}{v:V}
theorem ai.sc(h:jo d=true):ai nb H d (toV d):=by
 cases d<;>first|(cases h;done)|(unfold ai;rfl)
theorem ai.LS(h:jo d=true)(q:ai nb H d v):v=toV d:=by
 cases d<;>first|(cases h;done)|(unfold ai at q;exact q)
theorem ai.kN(h:jo d=true)(q:ai nb H d v):ai cy H' d v:=by
 rw[q.LS h];exact .sc h
theorem af.kN:∀{ds:List PyData} {xs:List V},ds.all jo=true->af nb H ds xs->af cy H' ds xs
  |[],_,_,q=>by unfold af at q⊢;exact q
  | d :: ds, _, h, q => by
    rw[nK,cK] at h
    unfold af at q⊢
    obtain⟨y,ys,e,h1,h2⟩:=q
    exact⟨y,ys,e,h1.kN h.1,af.kN h.2 h2⟩
end
section
variable{G:Gx}{ρ:Rh}{Φ Ψ:Pd}{ta tb te:TE}{t:TA}{i:Nat}{f g:Bool}{d e:PyData}{ds es:List PyData}{K:PySem.W.Frag}
theorem Ev.mono(h:Ev G ρ te Ψ)(q:∀f d,Ψ f d->Φ f d):Ev G ρ te Φ:=fun nb σ H Q W z=>h nb σ H Q W fun f v H' d p=>z f v H' d (q f d p)
theorem aA.ev(h:aA G ρ te fun f ds=>Φ f (.list ds)):Ev G ρ te Φ:=fun nb σ H Q W z=>h nb σ H Q W fun f a xs H' ds p st n e hd=>
 z f _ H' _ p st (.lst (W.fresh n) e (hd.av fun _ x=> .inl x))
namespace Ev
theorem var(e:ρ[i]?=some (.d f d))(h:Φ f d):Ev G ρ (eU i) Φ:=fun nb σ H Q W z=>by
 obtain⟨x,e1,v,rfl,hd⟩:=W.ok i _ e
 exact⟨v,e1,z f v H d h (.refl W.az) hd⟩
theorem int{n:Int}(h:Φ true (.int n)):Ev G ρ (tC (.int n)) Φ:=fun nb σ H Q W z=>z true _ H _ h (.refl W.az) (.int n)
theorem bl{b:Bool}(h:Φ true (.bool b)):Ev G ρ (tC (.bl b)) Φ:=fun nb σ H Q W z=>z true _ H _ h (.refl W.az) (.bl b)
theorem aM(h:Φ true .none):Ev G ρ (tC .aM) Φ:=fun nb σ H Q W z=>z true _ H _ h (.refl W.az) .aM
theorem i7{r:R2}(h:Ev G ρ ta fun f x=>Ev G ρ tb fun g y=>∀nb σ H u v (Q:VK),Wd G nb ρ σ H->ai (G.S nb f) H x u->ai (G.S nb g) H y v->(∀f w H' d,Φ f d->Step G.B H H'->ai (G.S nb f) H' d w->Q w H')->r u v H Q):Ev G ρ (dw r ta tb) Φ:=fun nb σ H Q W z=>
 h nb σ H _ W fun f v1 H1 d1 p1 s1 q1=>p1 nb σ H1 _ (W.step s1) fun g v2 H2 d2 p2 s2 q2=>p2 nb σ H2 _ _ _ ((W.step s1).step s2) (q1.keep s2.dz) q2 fun f w H' d p st q=>z f w H' d p (s1.trans (s2.trans st)) q
theorem rI{C:Int->Int->Prop}{k:Int->Int->Int}(h:Ev G ρ ta fun _ x=>∃i,x= .int i/\Ev G ρ tb fun _ y=>∃j,y= .int j/\C i j/\Φ true (.int (k i j))):Ev G ρ (dw (L2.rI C fun i j=> .int (k i j)) ta tb) Φ:=
 i7 (h.mono fun f x ⟨i,ex,q⟩=>q.mono fun g y ⟨j,ey,hc,p⟩ nb σ H u v Q W hu hv z=>by
  subst ex ey;exact⟨i,j,hu.bX,hv.bX,hc,z true _ H _ p (.refl W.az) (.int _)⟩)
theorem gU{k:Int->Int->Int}(h:Ev G ρ ta fun _ x=>∃i,x= .int i/\Ev G ρ tb fun _ y=>∃j,y= .int j/\Φ true (.int (k i j))):Ev G ρ (dw (L2.gU fun i j=> .int (k i j)) ta tb) Φ:=
 i7 (h.mono fun f x ⟨i,ex,q⟩=>q.mono fun g y ⟨j,ey,p⟩ nb σ H u v Q W hu hv z=>by
  subst ex ey;exact⟨i,j,hu.bX,hv.bX,z true _ H _ p (.refl W.az) (.int _)⟩)
theorem OI{k:Int->Int->Bool}(h:Ev G ρ ta fun _ x=>∃i,x= .int i/\Ev G ρ tb fun _ y=>∃j,y= .int j/\Φ true (.bool (k i j))):Ev G ρ (dw (L2.gU fun i j=> .bl (k i j)) ta tb) Φ:=
 i7 (h.mono fun f x ⟨i,ex,q⟩=>q.mono fun g y ⟨j,ey,p⟩ nb σ H u v Q W hu hv z=>by
  subst ex ey;exact⟨i,j,hu.bX,hv.bX,z true _ H _ p (.refl W.az) (.bl _)⟩)
theorem un{r:V->Hp->VK->Prop}(h:Ev G ρ ta fun f x=>∀nb σ H u (Q:VK),Wd G nb ρ σ H->ai (G.S nb f) H x u->(∀f w H' d,Φ f d->Step G.B H H'->ai (G.S nb f) H' d w->Q w H')->r u H Q):Ev G ρ (zV r ta) Φ:=fun nb σ H Q W z=>
 h nb σ H _ W fun f v1 H1 d1 p1 s1 q1=>p1 nb σ H1 _ _ (W.step s1) q1 fun f w H' d p st q=>z f w H' d p (s1.trans st) q
theorem rU{k:Int->Int}(h:Ev G ρ ta fun _ x=>∃i,x= .int i/\Φ true (.int (k i))):Ev G ρ (zV (L2.rU fun i=> .int (k i)) ta) Φ:=
 un (h.mono fun f x ⟨i,ex,p⟩ nb σ H u Q W hu z=>by subst ex;exact⟨i,hu.bX,z true _ H _ p (.refl W.az) (.int _)⟩)
end Ev
inductive gh:PyData->PyData->Bool->Prop
 |ii (i j:Int):gh (.int i) (.int j) (decide (i=j))
 |ni (i:Int):gh .none (.int i) false
 |US (i:Int):gh (.int i) .none false
 |nn:gh .none .none true
 |bb (a b:Bool):gh (.bool a) (.bool b) (a==b)
 |ss (x:Str):gh (.str x) (.str x) true
 |sd (x y:Str):gh (.str x) (.str y) (decide (x=y))
theorem gh.v{nb cy:Addr->Prop}{H:Hp}{x y:PyData}{b:Bool}{u v:V}(h:gh x y b)(hu:ai nb H x u)(hv:ai cy H y v):AE u v=true/\decide (u=v)=b:=by
 cases h<;>(unfold ai at hu hv;subst hu hv;refine⟨rfl,?_⟩)
 ·exact R.zz
 ·rfl
 ·rfl
 ·rfl
 ·rename_i a b;cases a<;>cases b<;>rfl
 ·exact decide_eq_true rfl
 ·rename_i x y
  by_cases c:x=y
  ·subst c;rw[decide_eq_true rfl,decide_eq_true rfl]
  ·rw[decide_eq_false c,decide_eq_false (fun z=>c (V.str.inj z))]
theorem gh.self{d:PyData}(h:jo d=true):gh d d true:=by
 cases d<;>first|(cases h;done)|skip
 ·exact .nn
 ·rename_i b;have:=gh.bb b b;rwa[beq_self_eq_true] at this
 ·rename_i i;have:=gh.ii i i;rwa[decide_eq_true rfl] at this
 ·exact .ss _
namespace Ev
theorem eq(h:Ev G ρ ta fun _ x=>Ev G ρ tb fun _ y=>∃b,gh x y b/\Φ true (.bool b)):Ev G ρ (dw vV ta tb) Φ:=
 i7 (h.mono fun f x q=>q.mono fun g y ⟨b,e,p⟩ nb σ H u v Q W hu hv z=>by
  obtain⟨h1,h2⟩:=e.v hu hv
  exact⟨h1,by rw[h2];exact z true _ H _ p (.refl W.az) (.bl _)⟩)
theorem ne(h:Ev G ρ ta fun _ x=>Ev G ρ tb fun _ y=>∃b,gh x y b/\Φ true (.bool !b)):Ev G ρ (dw vd ta tb) Φ:=
 i7 (h.mono fun f x q=>q.mono fun g y ⟨b,e,p⟩ nb σ H u v Q W hu hv z=>by
  obtain⟨h1,h2⟩:=e.v hu hv
  exact⟨h1,by rw[h2];exact z true _ H _ p (.refl W.az) (.bl _)⟩)
theorem P5{ng:Bool}(h:Ev G ρ ta fun _ x=>Ev G ρ tb fun _ y=>SeqAt.shaped x=true/\SeqAt.shaped y=true/\Φ true (.bool (PyData.eqv x y !=ng))):Ev G ρ (dw (FI ng) ta tb) Φ:=
 i7 (h.mono fun f x q=>q.mono fun g y ⟨h1,h2,p⟩ nb σ H u v Q W hu hv z=>
  ⟨G.S nb false,x,y,hu.av (bz (fun z=>by cases z) fun _ z=>z),hv.av (bz (fun z=>by cases z) fun _ z=>z),h1,h2,z true _ H _ p (.refl W.az) (.bl _)⟩)
end Ev
def qf:PyData->Bool
 | .none=>true
 |_=>false
theorem FA{nb:Addr->Prop}{H:Hp}{d:PyData}{v:V}(h:ai nb H d v):decide (v= .aM)=qf d:=by
 cases d<;>unfold ai at h
 all_goals first
  |(subst h;rfl)
  |(obtain⟨a,xs,rfl,_⟩:=h;rfl)
  |exact h.elim
namespace Ev
theorem is(h:Ev G ρ ta fun _ x=>Φ true (.bool (qf x))):Ev G ρ (dw CP ta (tC .aM)) Φ:=
 i7 (h.mono fun f x p=>Ev.aM fun nb σ H u v Q W hu hv z=>⟨hv.vN,by rw[FA hu];exact z true _ H _ p (.refl W.az) (.bl _)⟩)
theorem MD(h:Ev G ρ ta fun _ x=>Φ true (.bool !qf x)):Ev G ρ (dw sL ta (tC .aM)) Φ:=
 i7 (h.mono fun f x p=>Ev.aM fun nb σ H u v Q W hu hv z=>⟨hv.vN,by rw[FA hu];exact z true _ H _ p (.refl W.az) (.bl _)⟩)
end Ev
theorem af.bD{nb:Addr->Prop}{H:Hp}{ds:List PyData}{xs:List V}{k:Int}{e:PyData}(h:af nb H ds xs)(q:L2.bD ds k=some e):∃v,L2.bD xs k=some v/\ai nb H e v:=by
 unfold L2.bD at q⊢
 rw[h.length]
 cases z:gz ds.length k with
 |none=>rw[z] at q;cases q
 |some j=>rw[z] at q;exact h.get q
namespace Ev
theorem Bo(h:Ev G ρ ta fun f x=>∃ds,x= .list ds/\Ev G ρ tb fun _ y=>∃k,y= .int k/\∃e,bD ds k=some e/\Φ f e):Ev G ρ (dw (dM K) ta tb) Φ:=
 i7 (h.mono fun f x ⟨ds,ex,q⟩=>q.mono fun g y ⟨k,ey,e,he,p⟩ nb σ H u v Q W hu hv z=>by
  subst ex ey
  obtain⟨a,xs,rfl,n,hx,hd⟩:=hu.dJ
  obtain⟨w,hw,hD⟩:=hd.bD he
  exact⟨a,xs,k,w,rfl,hv.bX, .of hx,hw,z f _ H _ p (.refl W.az) hD⟩)
theorem TZ(h:Ev G ρ ta fun f x=>∃ds,x= .tuple ds/\Ev G ρ tb fun _ y=>∃k,y= .int k/\∃e,bD ds k=some e/\Φ f e):Ev G ρ (dw (cz K) ta tb) Φ:=
 i7 (h.mono fun f x ⟨ds,ex,q⟩=>q.mono fun g y ⟨k,ey,e,he,p⟩ nb σ H u v Q W hu hv z=>by
  subst ex ey
  obtain⟨a,xs,rfl,n,hx,hd⟩:=hu.ofT
  obtain⟨w,hw,hD⟩:=hd.bD he
  exact⟨a,xs,k,w,rfl,hv.bX, .of hx,hw,z f _ H _ p (.refl W.az) hD⟩)
theorem S3(h:Ev G ρ ta fun _ x=>∃b,x= .bool b/\if b=true then Ev G ρ tb Φ else Φ true (.bool false)):Ev G ρ (DH ta tb) Φ:=fun nb σ H Q W z=>
 h nb σ H _ W fun f v H1 d ⟨b,e,q⟩ s1 hv=>by
  subst e
  refine⟨b,by unfold ai at hv;exact hv,?_⟩
  cases b with
  |true=>rw[if_pos rfl] at q⊢;exact q nb σ H1 _ (W.step s1) fun f v H' d p st=>z f v H' d p (s1.trans st)
  |false=>rw[if_neg c8] at q⊢;exact z true _ H1 _ q s1 (.bl false)
theorem OR{c:TT}(h:Tv G ρ c fun b=>if b=true then Ev G ρ ta Φ else Ev G ρ tb Φ):Ev G ρ (Dr c ta tb) Φ:=fun nb σ H Q W z=>
 h nb σ H _ W fun b H1 q s1=>by
  cases b with
  |true=>rw[if_pos rfl] at q⊢;exact q nb σ H1 _ (W.step s1) fun f v H' d p st=>z f v H' d p (s1.trans st)
  |false=>rw[if_neg c8] at q⊢;exact q nb σ H1 _ (W.step s1) fun f v H' d p st=>z f v H' d p (s1.trans st)
end Ev
namespace Tv
variable{Θ:Bool->Prop}{t u:TT}
theorem test(h:Ev G ρ te fun _ x=>∃b,x= .bool b/\Θ b):Tv G ρ (Af te) Θ:=fun nb σ H Q W z=>
 h nb σ H _ W fun f v H1 d ⟨b,e,q⟩ s1 hv=>by subst e;exact⟨b,by unfold ai at hv;exact hv,z b H1 q s1⟩
theorem and(h:Tv G ρ t fun b=>if b=true then Tv G ρ u Θ else Θ false):Tv G ρ (Ak t u) Θ:=fun nb σ H Q W z=>
 h nb σ H _ W fun b H1 q s1=>by
  cases b with
  |true=>rw[if_pos rfl] at q⊢;exact q nb σ H1 _ (W.step s1) fun b H' p st=>z b H' p (s1.trans st)
  |false=>rw[if_neg c8] at q⊢;exact z false H1 q s1
theorem or(h:Tv G ρ t fun b=>if b=true then Θ true else Tv G ρ u Θ):Tv G ρ (BC t u) Θ:=fun nb σ H Q W z=>
 h nb σ H _ W fun b H1 q s1=>by
  cases b with
  |false=>rw[if_neg c8] at q⊢;exact q nb σ H1 _ (W.step s1) fun b H' p st=>z b H' p (s1.trans st)
  |true=>rw[if_pos rfl] at q⊢;exact z true H1 q s1
theorem not(h:Tv G ρ t fun b=>Θ (!b)):Tv G ρ (Di t) Θ:=fun nb σ H Q W z=>h nb σ H _ W fun b H1 q s1=>z _ H1 q s1
theorem qc(h:Θ true):Tv G ρ nR Θ:=fun nb σ H Q W z=>z true H h (.refl W.az)
end Tv
def Ct(K:PySem.W.Frag)(ta:TE):TT:=fun σ H Q=>ta σ H fun x H1=>∃k,AG K x H1 k/\Q k H1
theorem Tv.Sd{Θ:Bool->Prop}(h:Ev G ρ te fun _ x=>∃b,x= .bool b/\Θ b):Tv G ρ (Ct K te) Θ:=fun nb σ H Q W z=>
 h nb σ H _ W fun f v H1 d ⟨b,e,q⟩ s1 hv=>by subst e;exact⟨b,by unfold ai at hv;subst hv;rfl,z b H1 q s1⟩
namespace Av
variable{Θ:List Fd->Prop}
theorem nil(h:Θ []):Av G ρ bR Θ:=fun nb σ H Q W z=>z [] [] H h (.refl W.az) rfl
theorem cons(h:Ev G ρ te fun f d=>Av G ρ t fun es=>Θ ((f,d)::es)):Av G ρ (bx te t) Θ:=fun nb σ H Q W z=>
 h nb σ H _ W fun f v H1 d p1 s1 q1=>p1 nb σ H1 _ (W.step s1) fun es vs H2 p2 s2 q2=>z _ _ H2 p2 (s1.trans s2) ⟨v,vs,rfl,q1.keep s2.dz,q2⟩
theorem JF{is:List Int}(h:Θ (is.map fun i=>(true, .int i))):Av G ρ (tY is) Θ:=fun nb σ H Q W z=>z _ _ H h (.refl W.az) (by
 clear h
 induction is with
 |nil=>rfl
 |cons i r ih=>exact⟨_,_,rfl, .int i,ih⟩)
end Av
def jJ(es:List Fd):Bool:=es.all (·.1)
theorem jR.all{nb:Addr->Prop}{H:Hp}:∀{es:List Fd} {vs:List V} {f:Bool},jR G nb H es vs->(f=true->jJ es=true)->af (G.S nb f) H (es.map (·.2)) vs
  |[],_,_,h,_=>by unfold jR at h;subst h;exact .nil
  | e :: es, _, f, h, hf => by
    obtain⟨v,ws,rfl,h1,h2⟩:=h
    refine .cons (h1.av (bz (fun z=>?_) fun _ z=>z)) (h2.all fun z=>?_)
    · have:=hf z;simp only[jJ,nK,cK] at this;exact this.1
    · have:=hf z;simp only[jJ,nK,cK] at this;exact this.2
theorem jR.len{nb:Addr->Prop}{H:Hp}{es:List Fd}{vs:List V}(h:jR G nb H es vs):vs.length=es.length:=by
 have:=(h.all (f:=false) (fun z=>by cases z)).length
 simpa using this
theorem aA.lst{Φ:Bool->List PyData->Prop}(h:Av G ρ t fun es=>es.length<=10000/\Φ (jJ es) (es.map (·.2))):aA G ρ (lV t) Φ:=fun nb σ H Q W z=>
  h nb σ H _ W fun es vs H1 ⟨hl,p⟩ s1 q1=>⟨dH (by rw[q1.len];exact hl) (by decide),fun a ha=>by
    have W1:=W.step s1
    refine z _ a vs _ _ p (s1.trans (.same W1.az (dg ha))) ?_ aV (((q1.all fun z=>z).fresh ha).keep (aU.of (dg ha)))
    cases e:H a with
    |none=>rfl
    | some o =>
      by_cases n:NB G.B a
      · rw[s1.1 a o n e] at ha;cases ha
      · exact absurd ha (NB.lK s1.2 n)⟩
theorem Ev.lst(h:Av G ρ t fun es=>es.length<=10000/\Φ (jJ es) (.list (es.map (·.2)))):Ev G ρ (lV t) Φ:=(aA.lst (Φ:=fun f ds=>Φ f (.list ds)) h).ev
end
end L2
set_option maxRecDepth 100000
set_option maxHeartbeats 1000000
namespace L2
open PySem PySem.Spec PyProof.Rows
def gn(K:PySem.W.Frag):List V->Hp->VK->Prop:=fun xs H Q=>∃p ys,xs=[.ref p]/\(aS K H p ys\/fy K H p ys)/\Q (.int ys.length) H
theorem iM{X:Cx}:eE X (.builtin "len") (gn X.K):=Cf
def CK:List V->Hp->VK->Prop:=fun xs H Q=>∃i j,xs=[.int i, .int j]/\Q (.int (if j<i then j else i)) H
def EF:List V->Hp->VK->Prop:=fun xs H Q=>(∃i,xs=[.int i]/\Q (.int i) H)\/∃k,xs=[.bl k]/\Q (.int (if k then 1 else 0)) H
theorem Pj{X:Cx}(hc:X.calm=true):eE X (.builtin "min") CK:=MO hc
theorem T3{X:Cx}:eE X (.type "int") EF:=KI
def eG{α:Type}(xs:List α)(lo hi:Option Int):List α:=(xs.drop (HT.dO xs.length 0 lo)).take (HT.dO xs.length xs.length hi-HT.dO xs.length 0 lo)
theorem af.cut{nb:Addr->Prop}{H:Hp}{ds:List PyData}{xs:List V}{lo hi:Option Int}(h:af nb H ds xs):af nb H (eG ds lo hi) (j7 xs lo hi):=by
 unfold eG j7
 rw[h.length]
 exact(h.drop _).take _
def fM(ds:List PyData):Bool:=ds.all jo
section
variable{G:Gx}{ρ:Rh}{Φ Ψ:Pd}{ta tb te:TE}{t:TA}{i:Nat}{f g:Bool}{d e:PyData}{ds es:List PyData}{K:PySem.W.Frag}
theorem Wd.none_of{nb:Addr->Prop}{σ:St}{H H1:Hp}{a:Addr}(W:Wd G nb ρ σ H)(s1:Step G.B H H1)(ha:H1 a=none):H a=none:=by
  cases e:H a with
  |none=>rfl
  | some o =>
    by_cases n:NB G.B a
    · rw[s1.1 a o n e] at ha;cases ha
    · exact absurd ha (NB.lK s1.2 n)
theorem aA.fin{nb:Addr->Prop}{σ:St}{H H1:Hp}{Q:VK}{Φ:Bool->List PyData->Prop}{a:Addr}{xs:List V}(W:Wd G nb ρ σ H)(s1:Step G.B H H1)(ha:H1 a=none)(hd:af (G.S nb f) H1 ds xs)(p:Φ (f||fM ds) ds)
  (z:∀f a xs H' ds,Φ f ds->Step G.B H H'->H a=none->H' a=some (.lst xs)->af (fun x=>G.S nb f x\/x=a) H' ds xs->Q (.ref a) H'):Q (.ref a) (upd H1 a (.lst xs)):=by
 refine z _ a xs _ ds p (s1.trans (.same s1.2 (dg ha))) (W.none_of s1 ha) aV ?_
 cases hs:fM ds with
 |true=>exact af.kN hs hd
 |false=>rw[l5];exact(hd.fresh ha).keep (aU.of (dg ha))
namespace Ov
variable{Θ:Option Int->Prop}
theorem none(h:Θ none):Ov G ρ wF Θ:=fun nb σ H Q W z=>z _ H h (.refl W.az)
theorem some(h:Ev G ρ te fun _ x=>∃k,x= .int k/\Θ (some k)):Ov G ρ (Ax te) Θ:=fun nb σ H Q W z=>
 h nb σ H _ W fun f v H1 d ⟨k,e,q⟩ s1 hv=>by subst e;exact⟨k,hv.bX,z _ H1 q s1⟩
end Ov
namespace aA
variable{Θ:Bool->List PyData->Prop}
theorem sl{tl th:TO}(h:Ev G ρ te fun f x=>∃ds,x= .list ds/\Ov G ρ tl fun lo=>Ov G ρ th fun hi=>Θ (f||fM (eG ds lo hi)) (eG ds lo hi)):aA G ρ (p5 (kc K) te tl th) Θ:=fun nb σ H Q W z=>
 h nb σ H _ W fun f v H1 d ⟨ds,e,q⟩ s1 hv=>q nb σ H1 _ (W.step s1) fun lo H2 q2 s2=>q2 nb σ H2 _ ((W.step s1).step s2) fun hi H3 q3 s3=>by
  subst e
  obtain⟨a,xs,rfl,n,hx,hd⟩:=((hv.keep s2.dz).keep s3.dz).dJ
  exact⟨a,xs,rfl, .of hx,fun p hp=>aA.fin W (s1.trans (s2.trans s3)) hp hd.cut q3 z⟩
theorem listOf(h:Ev G ρ te fun f x=>∃ds,(x= .list ds\/x= .tuple ds)/\Θ (f||fM ds) ds):aA G ρ (eS (k9 K) (bx te bR)) Θ:=fun nb σ H Q W z=>
 h nb σ H _ W fun f v H1 d ⟨ds,e,q⟩ s1 hv=>by
  rcases e with e|e
  ·subst e
   obtain⟨a,xs,rfl,n,hx,hd⟩:=hv.dJ
   exact⟨a,xs,rfl, .inl (.of hx),fun p hp=>aA.fin W s1 hp hd q z⟩
  ·subst e
   obtain⟨a,xs,rfl,n,hx,hd⟩:=hv.ofT
   exact⟨a,xs,rfl, .inr (.of hx),fun p hp=>aA.fin W s1 hp hd q z⟩
theorem cat(h:Ev G ρ ta fun f x=>∃ds,x= .list ds/\Ev G ρ tb fun g y=>∃es,y= .list es/\ds.length+es.length<=10000/\Θ ((f && g)||fM (ds++es)) (ds++es)):aA G ρ (dw xW ta tb) Θ:=fun nb σ H Q W z=>
 h nb σ H _ W fun f v H1 d ⟨ds,e,q⟩ s1 hv=>q nb σ H1 _ (W.step s1) fun g u H2 d2 ⟨es,e2,hl,p⟩ s2 hu=>by
  subst e e2
  obtain⟨a,xs,rfl,n,hx,hd⟩:=(hv.keep s2.dz).dJ
  obtain⟨c,ys,rfl,m,hy,hc⟩:=hu.dJ
  refine⟨a,c,xs,ys,rfl,rfl,hx,hy,dH (by rw[hd.length,hc.length];exact hl) (by decide),fun p' hp=>aA.fin (f:=f && g) W (s1.trans s2) hp ?_ p z⟩
  exact af.append (hd.av (bz (fun z=>(cK _ _▸z).1) fun _ z=>z)) (hc.av (bz (fun z=>(cK _ _▸z).2) fun _ z=>z))
end aA
namespace Ev
theorem sl{tl th:TO}(h:Ev G ρ te fun f x=>∃ds,x= .list ds/\Ov G ρ tl fun lo=>Ov G ρ th fun hi=>Φ (f||fM (eG ds lo hi)) (.list (eG ds lo hi))):Ev G ρ (p5 (kc K) te tl th) Φ:=(aA.sl (Θ:=fun f ds=>Φ f (.list ds)) h).ev
theorem listOf(h:Ev G ρ te fun f x=>∃ds,(x= .list ds\/x= .tuple ds)/\Φ (f||fM ds) (.list ds)):Ev G ρ (eS (k9 K) (bx te bR)) Φ:=(aA.listOf (Θ:=fun f ds=>Φ f (.list ds)) h).ev
theorem cat(h:Ev G ρ ta fun f x=>∃ds,x= .list ds/\Ev G ρ tb fun g y=>∃es,y= .list es/\ds.length+es.length<=10000/\Φ ((f && g)||fM (ds++es)) (.list (ds++es))):Ev G ρ (dw xW ta tb) Φ:=(aA.cat (Θ:=fun f ds=>Φ f (.list ds)) h).ev
theorem KU{a:Addr}(e:ρ[i]?=some (.own a f ds))(h:Φ true (.int ds.length)):Ev G ρ (eS (gn K) (bx (eU i) bR)) Φ:=fun nb σ H Q W z=>by
 obtain⟨x,e1,h1,h2,h3,xs,hx,hd⟩:=W.ok i _ e
 subst h1
 exact⟨.ref a,e1,a,xs,rfl, .inl (.of hx),by rw[hd.length];exact z true _ H _ h (.refl W.az) (.int _)⟩
theorem min2(h:Ev G ρ ta fun _ x=>∃i,x= .int i/\Ev G ρ tb fun _ y=>∃j,y= .int j/\Φ true (.int (if j<i then j else i))):Ev G ρ (eS CK (bx ta (bx tb bR))) Φ:=fun nb σ H Q W z=>
 h nb σ H _ W fun f v H1 d ⟨i,e,q⟩ s1 hv=>q nb σ H1 _ (W.step s1) fun g u H2 d2 ⟨j,e2,p⟩ s2 hu=>by
  subst e e2
  exact⟨i,j,by rw[hv.bX,hu.bX],z true _ H2 _ p (s1.trans s2) (.int _)⟩
theorem QW(h:Ev G ρ ta fun _ x=>∃b,x= .bool b/\Φ true (.int (if b then 1 else 0))):Ev G ρ (eS EF (bx ta bR)) Φ:=fun nb σ H Q W z=>
 h nb σ H _ W fun f v H1 d ⟨b,e,q⟩ s1 hv=>by subst e;unfold ai at hv;subst hv;exact .inr ⟨b,rfl,z true _ H1 _ q s1 (.int _)⟩
end Ev
abbrev DF:=List PyData->Pd->Prop
def aY(n:Nat)(F:DF):Sp:=fun vs H Q _=>vs.length=n/\∃(nb:Addr->Prop) (ds:List PyData),j3 nb H/\af nb H ds vs/\F ds fun f d=>∀v H',dh H H'->ai (fun a=>nb a\/(f=true/\H a≠none)) H' d v->Q v H'
def fX(n:Nat)(F:DF):Sp:=fun vs H Q _=>vs.length=n/\∃(b l:Addr) (ws:List V) (nb:Addr->Prop) (ds:List PyData),vs= .ref b::ws/\cU H b l/\j3 nb H/\nb b/\af nb H ds ws/\
 F ds fun f d=>∀v H',aU (Nb b) H H'->cU H' b l->ai (fun a=>nb a\/(f=true/\H a≠none)) H' d v->Q v H'
def dj(F:DF):Prop:=∀ds (Φ Ψ:Pd),F ds Φ->(∀f d,Φ f d->Ψ f d)->F ds Ψ
theorem Ev.bZ{n:Nat}{F:DF}(hm:dj F)(h:Av G ρ t fun es=>es.length=n/\F (es.map (·.2)) fun f d=>Φ (f||jJ es) d):Ev G ρ (ju (aY n F) [] E0 t) Φ:=fun nb σ H Q W z=>
 h nb σ H _ W fun es vs H1 ⟨hl,p⟩ s1 q1=>by
  have W1:=W.step s1
  rw[iS]
  refine⟨by rw[q1.len,hl],G.S nb (jJ es),es.map (·.2),W1.qD,q1.all fun z=>z,hm _ _ _ p fun f d hp v H' sm hd=>z _ v H' d hp (s1.trans (.same W1.az sm)) (hd.av fun a q=>?_)⟩
  cases f with
  |false=>rw[pC] at q;exact .inl q
  |true=>exact .inr ⟨rfl,W1.qD a q⟩
theorem Step.yS{b l:Addr}{H H':Hp}(hB:G.B=some (b,l))(bt:aU (Nb b) H H')(B':cU H' b l):Step G.B H H':=
 ⟨fun a o n e=>bt a o (n b l hB) e,fun b' l' e=>by rw[hB] at e;cases e;exact B'⟩
theorem Wd.uE{nb:Addr->Prop}{σ:St}{H:Hp}(W:Wd G nb ρ σ H)(e:ρ[i]?=some .az):∃b l,G.B=some (b,l)/\σ[i]?=some (some (.ref b))/\cU H b l:=by
 obtain⟨x,e1,b,l,hB,rfl⟩:=W.ok i _ e
 exact⟨b,l,hB,e1,W.az b l hB⟩
theorem Ev.kW{n:Nat}{F:DF}(hm:dj F)(e:ρ[i]?=some .az)(h:Av G ρ t fun es=>es.length+1=n/\F (es.map (·.2)) fun f d=>Φ (f||jJ es) d):Ev G ρ (ju (fX n F) [] E0 (bx (eU i) t)) Φ:=fun nb σ H Q W z=>by
 obtain⟨b,l,hB,e1,B⟩:=W.uE e
 refine⟨.ref b,e1,h nb σ H _ W fun es vs H1 ⟨hl,p⟩ s1 q1=>?_⟩
 have W1:=W.step s1
 show fX n F ((V.ref b::vs)++[]) H1 Q E0
 rw[iS]
 have hb:∀f,G.S nb f b:=fun f=> .inr (.inr (.inl fun n=>n b l hB rfl))
 refine⟨by rw[ko,q1.len,hl],b,l,vs,G.S nb (jJ es),es.map (·.2),rfl,W1.az b l hB,W1.qD,hb _,q1.all fun z=>z,hm _ _ _ p fun f d hp v H' bt B' hd=>z _ v H' d hp (s1.trans (.yS hB bt B')) (hd.av fun a q=>?_)⟩
 cases f with
 |false=>rw[pC] at q;exact .inl q
 |true=>exact .inr ⟨rfl,W1.qD a q⟩
theorem Ev.draw(e:ρ[i]?=some .az)(h:Ev G ρ te fun _ x=>∃m:Int,x= .int m/\0<m/\Sm m/\∀r:Int,0<=r->r<m->Φ true (.int r)):Ev G ρ (ju jx [] E0 (bx (eU i) (bx te bR))) Φ:=fun nb σ H Q W z=>by
 obtain⟨b,l,hB,e1,B⟩:=W.uE e
 refine⟨.ref b,e1,h nb σ H _ W fun f v H1 d ⟨m,ed,h1,h2,p⟩ s1 hv=>?_⟩
 subst ed
 exact⟨b,l,m,by rw[hv.bX];rfl,s1.2 b l hB,h1,h2,fun r H' r1 r2 bt B'=>z true _ H' _ (p r r1 r2) (s1.trans (.yS hB bt B')) (.int r)⟩
theorem Ev.prime(e:ρ[i]?=some .az)(h:∀p:Int,CI p->Φ true (.int p)):Ev G ρ (ju PY [] E0 (bx (eU i) bR)) Φ:=fun nb σ H Q W z=>by
 obtain⟨b,l,hB,e1,B⟩:=W.uE e
 exact⟨.ref b,e1,b,l,rfl,B,fun p H' hp bt B'=>z true _ H' _ (h p hp) (.yS hB bt B') (.int p)⟩
theorem Ev.total(h:Av G ρ t fun es=>∃(p:Int) (prs:List (Int×Int)) (wd:List (Option Int)),es.map (·.2)=[.int p, .list (prs.map pairD), .list (wd.map ie)]/\0<p/\(∀pr∈prs,0<=pr.1/\pr.1<wd.length/\Sm pr.2)/\(∀x,some x∈wd->Sm x)/\Φ true (.int (bJ prs wd%p))):
  Ev G ρ (ju wz [] E0 t) Φ:=fun nb σ H Q W z=>
 h nb σ H _ W fun es vs H1 ⟨p,prs,wd,e,h1,h2,h3,q⟩ s1 q1=>by
  have hd:=q1.all (f:=false) (fun z=>by cases z)
  rw[e] at hd
  unfold af at hd
  obtain⟨y,ys,rfl,d1,hd⟩:=hd
  unfold af at hd
  obtain⟨y2,ys,rfl,d2,hd⟩:=hd
  unfold af at hd
  obtain⟨y3,ys,rfl,d3,hd⟩:=hd
  unfold af at hd
  subst hd
  exact⟨G.S nb false,p,y2,y3,prs,wd,by rw[d1.bX];rfl,d2,d3,h1,h2,h3,z true _ H1 _ q s1 (.int _)⟩
theorem Ev.whole(h:Ev G ρ te fun _ x=>∃n,x= .int n/\Φ true (.bool true)):Ev G ρ (ju Ro [] E0 (bx te bR)) Φ:=fun nb σ H Q W z=>
 h nb σ H _ W fun f v H1 d ⟨n,e,q⟩ s1 hv=>by subst e;exact⟨n,by rw[hv.bX];rfl,z true _ H1 _ q s1 (.bl _)⟩
namespace Gv
variable{Θ:Rh->Prop}
theorem name(h:Θ (ρ.set i (.d f d))):Gv G ρ (gG i) f d Θ:=fun nb σ H v Q W hv z=>z _ _ h (W.mD hv)
theorem Jr(h:Θ (ρ.set i (.d true d))):Gv G ρ (gG i) true d Θ:=name h
theorem kY(h:Θ (ρ.set i (.d false d))):Gv G ρ (gG i) f d Θ:=fun nb σ H v Q W hv z=>z _ _ h (W.mD (hv.av (bz (fun z=>by cases z) fun _ z=>z)))
theorem TQ(hs:jo d=true)(h:Θ (ρ.set i (.d true d))):Gv G ρ (gG i) f d Θ:=fun nb σ H v Q W hv z=>z _ _ h (W.mD (hv.kN hs))
theorem pT{n:Int}(h:Θ (ρ.set i (.d true (.int n)))):Gv G ρ (gG i) f (.int n) Θ:=TQ rfl h
theorem tup{n:Nat}{u:gX}(hl:ds.length=n)(h:kU G ρ u f ds Θ):Gv G ρ (tE K n u) f (.tuple ds) Θ:=fun nb σ H v Q W hv z=>by
 obtain⟨a,xs,rfl,m,hx,hd⟩:=hv.ofT
 exact⟨a,xs,rfl, .of hx,by rw[hd.length];exact hl,h nb σ H xs Q W hd z⟩
theorem KR(h:Θ ρ):kU G ρ zh f [] Θ:=fun nb σ H vs Q W hv z=>by unfold af at hv;exact⟨hv,z _ _ h W⟩
theorem SE{u:TG}{us:gX}(h:Gv G ρ u f d fun fO=>kU G fO us f ds Θ):kU G ρ (AW u us) f (d::ds) Θ:=fun nb σ H vs Q W hv z=>by
 unfold af at hv
 obtain⟨y,ys,rfl,h1,h2⟩:=hv
 exact⟨y,ys,rfl,h nb σ H y _ W h1 fun σ' ρ' q W'=>q nb σ' H ys Q W' h2 z⟩
end Gv
namespace Sv
variable{E:DE}{s u:TS}
theorem seq(h:Sv G ρ s {E with nx:=fun fO=>Sv G fO u E}):Sv G ρ (uF s u) E:=fun nb σ H D W K=>h nb σ H _ W ⟨fun cy ρ' σ' H' q W'=>q cy σ' H' D W' K,K.bk,K.ct,K.rt,K.rw⟩
theorem next(h:E.nx ρ):Sv G ρ zU E:=fun nb σ H D W K=>K.nx nb ρ σ H h W
theorem cont(h:E.ct ρ):Sv G ρ Rq E:=fun nb σ H D W K=>K.ct nb ρ σ H h W
theorem asg{g:TG}(h:Ev G ρ te fun f d=>Gv G ρ g f d E.nx):Sv G ρ (jb te g) E:=fun nb σ H D W K=>h nb σ H _ W fun f v H1 d q s1 hv=>q nb σ H1 v _ (W.step s1) hv fun σ' ρ' p W'=>K.nx nb ρ' σ' H1 p W'
theorem KN(h:Ev G ρ te fun _ d=>E.nx (ρ.set i (.d false d))):Sv G ρ (B4 i te) E:=fun nb σ H D W K=>h nb σ H _ W fun f v H1 d q s1 hv=>K.nx nb _ _ H1 q ((W.step s1).mD (hv.av (bz (fun z=>by cases z) fun _ z=>z)))
theorem ret(h:Ev G ρ te E.rt):Sv G ρ (qN te) E:=fun nb σ H D W K=>h nb σ H _ W fun f v H1 d q s1 hv=>K.rt nb ρ σ f v H1 d q (W.step s1) (hv.av (bz (fun z=>z) fun _ z=>z.elim))
theorem C4{a:Addr}(e:ρ[i]?=some (.own a f ds))(h:E.rt f (.list ds)):Sv G ρ (qN (eU i)) E:=fun nb σ H D W K=>by
 obtain⟨x,e1,h1,h2,h3,xs,hx,hd⟩:=W.ok i _ e
 subst h1
 refine⟨.ref a,e1,K.rt nb ρ σ f _ H _ h W (.lst (fun z=>?_) hx (hd.av (bz (fun z=>z) fun _ z=>z.elim)))⟩
 rcases z with z|z|z|z
 ·exact z
 ·exact W.gA a z (W.cM a h2 h3)
 ·exact z h3
 ·exact z.2 (W.cM a h2 h3)
theorem vB{c:TT}(h:Tv G ρ c fun b=>if b=true then Sv G ρ s E else Sv G ρ u E):Sv G ρ (vq c s u) E:=fun nb σ H D W K=>h nb σ H _ W fun b H1 q s1=>by
 cases b with
 |true=>rw[if_pos rfl] at q⊢;exact q nb σ H1 D (W.step s1) K
 |false=>rw[if_neg c8] at q⊢;exact q nb σ H1 D (W.step s1) K
theorem Tr{nb:Addr->Prop}{σ:St}{H H1:Hp}{a:Addr}{xs:List V}(W:Wd G nb ρ σ H)(s1:Step G.B H H1)(ha:H a=none)(e:H1 a=some (.lst xs))(hd:af (fun x=>G.S nb f x\/x=a) H1 ds xs):
    Wd G (fun x=>nb x\/x=a) (ρ.set i (.own a f ds)) (σ.set i (some (.ref a))) H1:=by
  have hN:NB G.B a:=fun b l e z=>by
    subst z
    obtain⟨_,_,_,_,_,h1,_⟩:=W.az _ _ e
    rw[h1] at ha;cases ha
  have hA:∀f x,G.S (fun x=>nb x\/x=a) f x->(G.S nb f x\/x=a):=fun f x z=>by
    rcases z with (z|z)|z|z|z
    · exact .inl (.inl z)
    · exact .inr z
    · exact .inl (.inr (.inl z))
    · exact .inl (.inr (.inr (.inl z)))
    · exact .inl (.inr (.inr (.inr z)))
  have W1:=W.step s1
  have W2:Wd G (fun x=>nb x\/x=a) ρ σ H1:=by
    refine⟨W1.az,fun x n=>?_,W1.old,fun x n q=>?_,W.gA,W.len,W.gB,fun h m=>(((W.dW h m).fresh ha).keep (s1.but fun x z=> .inl (.inr (.inr (.inl z))))).av (hA h.1),fun j s e'=>?_,W.apart,W.eg,W.cP⟩
    · rcases n with n|n
      · exact W1.live x n
      · subst n;rw[e];exact jm _
    · rcases n with n|n
      · exact W.cM x n q
      · subst n
        cases z:G.H0 x with
        |none=>rfl
        |some o=>rw[W.old x o q z] at ha;cases ha
    · obtain⟨x,e1,h⟩:=W.ok j s e'
      refine⟨x,e1,?_⟩
      cases s with
      |no=>trivial
      |d f d=>obtain⟨v,e,h⟩:=h;exact⟨v,e,((h.fresh ha).keep (s1.but fun x z=> .inl (.inr (.inr (.inl z))))).av (hA f)⟩
      |own c f es=>obtain⟨e,n,q,xs,hx,hd⟩:=h;exact⟨e, .inl n,q,xs,s1.1 _ _ q hx,((hd.fresh ha).keep (s1.but fun x z=> .inl (.inr (.inr (.inl z))))).av (hA f)⟩
      |az=>exact h
      |raw v=>exact h
      |bI c f es=>obtain⟨e,n,q,xs,hx,hd⟩:=h;exact⟨e, .inl n,q,xs,s1.1 _ _ q hx,((hd.fresh ha).keep (s1.but fun x z=> .inl (.inr (.inr (.inl z))))).av (hA f)⟩
      | cu c =>
        obtain⟨e,n,q⟩:=h
        refine⟨e,fun a ha=>⟨.inl (n a ha).1,(n a ha).2⟩,c.av (hA c.f) (c.keep (.of fun x o hx e=>s1.1 x o ?_ e) (c.fresh ha q))⟩
        rcases hx with hx|hx
        · exact iI fun z=>hx (.inl (.inr (.inr (.inl z))))
        · exact(n x hx).2
  refine W2.set ⟨rfl, .inr rfl,hN,xs,e,hd.av (hA f)⟩ ?_ (fun _ _ _ z=>by cases z) (fun x hx j t hj ht hc=>?_)
  rotate_left
  · have hx:x=a:=bS.mp hx
    subst hx
    rcases hc with ⟨c,z⟩|⟨c,rfl⟩
    · cases z
    · exact fun z=>W.live x ((W.ok j _ ht).choose_spec.2.2.1 x z).1 ha
  rintro a' f' ds' ⟨rfl,rfl,rfl⟩ j c g cs hj hc z
  subst z
  obtain⟨x,e1,h1,h2,h3,ys,hy,_⟩:=W.ok j _ hc
  rw[hy] at ha;cases ha
theorem wH(h:aA G ρ te fun f ds=>∀a,E.nx (ρ.set i (.own a f ds))):Sv G ρ (jb te (gG i)) E:=fun nb σ H D W K=>h nb σ H _ W fun f a xs H1 ds q s1 ha e hd=>K.nx _ _ _ H1 (q a) (Tr W s1 ha e hd)
theorem uv{nb:Addr->Prop}{σ:St}{H:Hp}{a:Addr}{xs:List V}(W:Wd G nb ρ σ H)(e:ρ[i]?=some (.own a f ds))(hd:af (G.S nb g) H es xs):Wd G nb (ρ.set i (.own a g es)) σ (upd H a (.lst xs)):=by
  obtain⟨x,e1,h1,h2,h3,ys,hy,_⟩:=W.ok i _ e
  subst h1
  have hil:i<ρ.length:=(bh.mp e).1
  have W0:Wd G nb (ρ.set i .no) (σ.set i (some (.ref a))) H:=W.set trivial fun _ _ _ z=>by cases z
  have W1:Wd G nb (ρ.set i .no) (σ.set i (some (.ref a))) (upd H a (.lst xs)):=W0.write h2 h3 (fun j c f' cs hc=>by
    by_cases hij:i=j
    · subst hij;rw[cN hil] at hc;cases hc
    · rw[bE hij] at hc
      exact(W.apart i j _ _ _ _ _ _ hij e hc).symm
   ) (fun j c f' cs hc z => by
      subst z
      have hij:i≠j:=fun z=>by subst z;rw[cN hil] at hc;cases hc
      rw[bE hij] at hc
      obtain⟨_,_,_,_,_,ps,hp,_⟩:=W.ok j _ hc
      rw[hy] at hp;cases hp) (fun j c hc z=>by
      have hij:i≠j:=fun z=>by subst z;rw[cN hil] at hc;cases hc
      rw[bE hij] at hc
      exact W.cP j i c _ (bB hij) hc e a z (bS.mpr rfl))
  have W2:=W1.set (i:=i) (s:= .own a g es) (x:=some (.ref a)) ⟨rfl,h2,h3,xs,aV,hd.keep (aU.set (.inl h2))⟩ (by
    rintro a' f' ds' ⟨rfl,rfl,rfl⟩ j c g' cs hj hc
    rw[bE (bB hj)] at hc
    exact W.apart i j _ _ _ _ _ _ (bB hj) e hc) (fun _ _ _ z=>by cases z) (fun x hx j t hj ht hc z=>by
    rw[bE (bB hj)] at ht
    have hx:x=a:=bS.mp hx
    subst hx
    rcases hc with ⟨c,q⟩|⟨c,rfl⟩
    · cases q
    · exact W.cP j i c _ hj ht e x z (bS.mpr rfl))
  rw[iZ,iZ] at W2
  have:σ.set i (some (.ref a))=σ:=by
    apply eH
    intro j
    by_cases hij:i=j
    · subst hij;rw[cN (by rw[W.len];exact hil),e1]
    · rw[bE hij]
  rwa[this] at W2
theorem append{a:Addr}(e:ρ[i]?=some (.own a f ds))(h:Ev G ρ te fun g d=>ds.length<10000/\E.nx (ρ.set i (.own a (f && g) (ds++[d])))):Sv G ρ (ua (kj K "list" qZ (eU i) (bx te bR))) E:=fun nb σ H D W KK=>by
 obtain⟨x,e1,h1,h2,h3,xs,hx,hd⟩:=W.ok i _ e
 subst h1
 refine⟨.ref a,e1, .inl ⟨rfl,_,aS.of hx⟩,h nb σ H _ W fun g v H1 d ⟨hl,q⟩ s1 hv=>?_⟩
 have W1:=W.step s1
 have zu:=s1.1 _ _ h3 hx
 refine⟨a,xs,v,rfl,rfl,zu,dI (by rw[hd.length];exact hl) (by decide),KK.nx nb _ _ _ q (uv W1 e ?_)⟩
 exact af.snoc (hv.av (bz (fun z=>(cK _ _▸z).2) fun _ z=>z)) ((hd.keep s1.dz).av (bz (fun z=>(cK _ _▸z).1) fun _ z=>z))
theorem af.set'{nb:Addr->Prop}{H:Hp}{x:V}(hd:ai nb H d x):∀{ds:List PyData} {xs:List V} (j:Nat),af nb H ds xs->af nb H (ds.set j d) (xs.set j x)
 |[],_,j,h=>by unfold af at h;subst h;exact .nil
 |e::ds,_,0,h=>by unfold af at h;obtain⟨y,ys,rfl,h1,h2⟩:=h;exact .cons hd h2
 |e::ds,_,j+1,h=>by unfold af at h;obtain⟨y,ys,rfl,h1,h2⟩:=h;exact .cons h1 (af.set' hd j h2)
theorem Dw{a:Addr}(e:ρ[i]?=some (.own a f ds))(h:Ev G ρ te fun g d=>Ev G ρ tb fun _ y=>∃k j,y= .int k/\gz ds.length k=some j/\E.nx (ρ.set i (.own a (f && g) (ds.set j d)))):Sv G ρ (jb te (pS (eU i) tb um)) E:=fun nb σ H D W KK=>
 h nb σ H _ W fun g v H1 d q s1 hv=>by
  obtain⟨x,e1,h1,h2,h3,xs,hx,hd⟩:=(W.step s1).ok i _ e
  subst h1
  refine⟨.ref a,e1,q nb σ H1 _ (W.step s1) fun g' u H2 y ⟨k,j,ey,hj,p⟩ s2 hu=>?_⟩
  subst ey
  have W2:=(W.step s1).step s2
  refine⟨a,xs,k,j,rfl,hu.bX,s2.1 _ _ h3 hx,by rw[hd.length];exact hj,KK.nx nb _ _ _ p (uv W2 e ?_)⟩
  exact af.set' ((hv.keep s2.dz).av (bz (fun z=>(cK _ _▸z).2) fun _ z=>z)) j ((hd.keep s2.dz).av (bz (fun z=>(cK _ _▸z).1) fun _ z=>z))
theorem share{nb:Addr->Prop}{σ:St}{H:Hp}{a:Addr}(W:Wd G nb ρ σ H)(e:ρ[i]?=some (.own a f ds)):Wd G (fun x=>nb x/\x≠a) (ρ.set i (.d f (.list ds))) σ H:=by
  obtain⟨x,e1,h1,h2,h3,xs,hx,hd⟩:=W.ok i _ e
  subst h1
  have hil:i<ρ.length:=(bh.mp e).1
  have W0:Wd G nb (ρ.set i .no) (σ.set i (some (.ref a))) H:=W.set trivial fun _ _ _ z=>by cases z
  have W1:Wd G (fun x=>nb x/\x≠a) (ρ.set i .no) (σ.set i (some (.ref a))) H:=by
    refine⟨W0.az,fun x n=>W0.live x n.1,W0.old,fun x n=>W0.cM x n.1,W0.gA,W0.len,W0.gB,fun h m=>(W0.dW h m).av (bz (fun z=>z) fun _ z=>z.1),fun j s e'=>?_,W0.apart,W0.eg,W0.cP⟩
    obtain⟨x,iE,h⟩:=W0.ok j s e'
    refine⟨x,iE,?_⟩
    have hij:s≠ .no->i≠j:=fun n z=>by subst z;rw[cN hil] at e';cases e';exact n rfl
    cases s with
    |no=>trivial
    |d f d=>obtain⟨v,e,h⟩:=h;exact⟨v,e,h.av (bz (fun z=>z) fun _ z=>z.1)⟩
    | own c f es =>
      obtain⟨e2,n,q,xs,hx,hd⟩:=h
      have hij:=hij (by intro z;cases z)
      rw[bE hij] at e'
      exact⟨e2,⟨n,(W.apart i j _ _ _ _ _ _ hij e e').symm⟩,q,xs,hx,hd.av (bz (fun z=>z) fun _ z=>z.1)⟩
    |az=>exact h
    |raw v=>exact h
    | bI c f es =>
      obtain⟨e2,n,q,ps,hp,hd⟩:=h
      have hca:c≠a:=fun z=>by subst z;rw[hx] at hp;cases hp
      exact⟨e2,⟨n,hca⟩,q,ps,hp,hd.av (bz (fun z=>z) fun _ z=>z.1)⟩
    | cu c =>
      obtain⟨e2,n,q⟩:=h
      have hij:=hij (by intro z;cases z)
      rw[bE hij] at e'
      exact⟨e2,fun x hx=>⟨⟨(n x hx).1,fun z=>W.cP j i c _ (bB hij) e' e x hx (by rw[z];exact bS.mpr rfl)⟩,(n x hx).2⟩,c.av (bz (fun z=>z) fun _ z=>z.1) q⟩
  have W2:=W1.mD (i:=i) (f:=f) (d:= .list ds) (v:= .ref a) (.lst (fun z=>by
    rcases z with z|z|z|z
    · exact z.2 rfl
    · exact W.gA a z (W.cM a h2 h3)
    · exact z h3
    · exact z.2 (W.cM a h2 h3)) hx (hd.av (bz (fun z=>z) fun _ z=>z.1)))
  rw[iZ,iZ] at W2
  have:σ.set i (some (.ref a))=σ:=by
    apply eH
    intro j
    by_cases hij:i=j
    · subst hij;rw[cN (by rw[W.len];exact hil),e1]
    · rw[bE hij]
  rwa[this] at W2
theorem oH{a:Addr}(i:Nat)(e:ρ[i]?=some (.own a f ds))(h:Sv G (ρ.set i (.d f (.list ds))) s E):Sv G ρ s E:=fun nb σ H D W K=>h _ σ H D (share W e) K
theorem wk{ρ':Rh}(w:Wk ρ' ρ)(h:Sv G ρ' s E):Sv G ρ s E:=fun nb σ H D W K=>h nb σ H D (W.wk w) K
end Sv
end
end L2
set_option maxRecDepth 100000
set_option maxHeartbeats 1000000
namespace L2
open PySem PySem.Spec PyProof.Rows
abbrev Gx.hd(G:Gx)(f:Bool)(d:PyData)(v:V):Gx:={G with hold:=(f, .d d,v)::G.hold}
section
variable{G:Gx}{ρ cV:Rh}{Φ Ψ:Pd}{ta tb te:TE}{t:TA}{i:Nat}{f g:Bool}{d e:PyData}{ds es:List PyData}{K:PySem.W.Frag}
theorem Wd.hd{nb:Addr->Prop}{σ:St}{H:Hp}{v:V}(W:Wd G nb ρ σ H)(h:ai (G.S nb f) H d v):Wd (G.hd f d v) nb ρ σ H:=
 ⟨W.az,W.live,W.old,W.cM,W.gA,W.len,W.gB,fun x m=>by
  rcases aH.mp m with e|m
  ·subst e;exact h
  ·exact W.dW x m,fun i s e=>by
   obtain⟨x,e1,h⟩:=W.ok i s e
   refine⟨x,e1,?_⟩
   cases s<;>exact h,W.apart,W.eg,W.cP⟩
theorem Wd.gy{nb:Addr->Prop}{σ:St}{H:Hp}{v:V}(W:Wd (G.hd f d v) nb ρ σ H):Wd G nb ρ σ H/\ai (G.S nb f) H d v:=
 ⟨⟨W.az,W.live,W.old,W.cM,W.gA,W.len,W.gB,fun x m=>W.dW x (cA _ m),fun i s e=>by
   obtain⟨x,e1,h⟩:=W.ok i s e
   refine⟨x,e1,?_⟩
   cases s<;>exact h,W.apart,W.eg,W.cP⟩,W.dW _ (bG ..)⟩
namespace Sv
variable{E:DE}{s:TS}{gt:TG}
def oz(G:Gx)(ρ:Rh)(n:Nat)(it:Nat->PyData->Prop)(fi:Bool)(gt:TG)(s:TS)(E:DE):Prop:=
 ∃I:Nat->Rh->Prop,I 0 ρ/\(∀i d ρ',it i d->I i ρ'->Gv G ρ' gt fi d fun fK=>Sv G fK s {nx:=I (i+1),rt:=E.rt,bk:=E.nx,ct:=I (i+1),rw:=E.rw})/\∀ρ',I n ρ'->E.nx ρ'
theorem TF{lo:Int}{n:Nat}{nb:Addr->Prop}{σ:St}{H:Hp}{D:Ends}(W:Wd G nb ρ σ H)(KK:uu G E D)(h:oz G ρ n (fun i d=>i<n/\d= .int (lo+i)) true gt s E):
  ∃W:Nat->Nat->St->Hp->Prop,(∃m,W 0 m σ H)/\∀i m σ H,W i m σ H->
   ((g8 lo n).stop i H/\D.nx σ H)\/((g8 lo n).go i H/\∃N:St->Hp->Prop,(∀σ' H',N σ' H'->∃m',m'<m/\W (i+1) m' σ' H')/\∀x H',(g8 lo n).kL i H x H'->gt x σ H' fun σ2 H2=>s {D with nx:=N,ct:=N,bk:=D.nx} σ2 H2):=by
 obtain⟨I,h0,ht,he⟩:=h
 refine uL (fun i σ H=>∃nb ρ',I i ρ'/\Wd G nb ρ' σ H) ⟨nb,ρ,h0,W⟩ ?_ ?_
 ·rintro i σ H hi ⟨nb,ρ',hI,W⟩
  refine ht i _ ρ' ⟨hi,rfl⟩ hI nb σ H _ _ W (.int _) fun σ2 fK q W2=>q nb σ2 H _ W2 ?_
  exact⟨fun nb ρ σ H q W=>⟨nb,ρ,q,W⟩,KK.nx,fun nb ρ σ H q W=>⟨nb,ρ,q,W⟩,KK.rt,KK.rw⟩
 ·rintro σ H ⟨nb,ρ',hI,W⟩
  exact KK.nx nb ρ' σ H (he ρ' hI) W
theorem pH(h:Ev G ρ te fun _ x=>∃n:Int,x= .int n/\ -(2^62)<=n/\n<2^62/\oz G ρ n.toNat (fun i d=>i<n.toNat/\d= .int (0+i)) true gt s E):Sv G ρ (mT (sA (bx te bR)) gt s) E:=fun nb σ H D W KK=>
 h nb σ H _ W fun f v H1 x ⟨n,ex,h1,h2,q⟩ s1 hv=>by
  subst ex
  rw[hv.bX]
  exact⟨n,rfl,h1,h2,TF (W.step s1) KK q⟩
theorem forL(h:Ev G ρ te fun f x=>∃ds,x= .list ds/\∀v,oz (G.hd f (.list ds) v) ρ ds.length (fun i d=>ds[i]?=some d) f gt s E):Sv G ρ (mT (pX K te) gt s) E:=fun nb σ H D W KK=>
 h nb σ H _ W fun f v H1 x ⟨ds,ex,q⟩ s1 hv=>by
  subst ex
  obtain⟨I,h0,ht,he⟩:=q v
  have W1:=(W.step s1).hd hv
  obtain⟨a,xs,rfl,n,hx,hd⟩:=hv.dJ
  have key:∀{nb ρ' σ H},Wd (G.hd f (.list ds) (.ref a)) nb ρ' σ H->∃xs,H a=some (.lst xs)/\af (G.S nb f) H ds xs:=fun W=>by
   obtain⟨a',xs',e',_,h',d'⟩:=W.gy.2.dJ
   cases e'
   exact⟨xs',h',d'⟩
  refine⟨a,rfl,⟨xs, .of hx⟩,?_⟩
  refine⟨fun i m σ H=>m=ds.length-i/\i<=ds.length/\∃nb ρ',I i ρ'/\Wd (G.hd f (.list ds) (.ref a)) nb ρ' σ H,⟨ds.length,by simp,fF _,nb,ρ,h0,W1⟩,?_⟩
  rintro i m σ H ⟨rfl,hi,nb,ρ',hI,W⟩
  obtain⟨ys,hy,hD⟩:=key W
  have hl:=hD.length
  by_cases hlt:i<ds.length
  ·refine .inr ⟨⟨ys,ys[i]'(by omega), .of hy,aB _⟩,fun σ H=>∃nb ρ',I (i+1) ρ'/\Wd (G.hd f (.list ds) (.ref a)) nb ρ' σ H,fun σ' H' q=>⟨ds.length-(i+1),by omega,rfl,hlt,q⟩,fun x H' y=>?_⟩
   obtain⟨e,y⟩:=y
   subst e
   have hx:=y ys (.of hy)
   obtain⟨x',hx',dx⟩:=hD.get (aB hlt)
   rw[hx] at hx';cases hx'
   refine ht i _ ρ' (aB hlt) hI nb σ _ _ _ W dx fun σ2 fK q W2=>q nb σ2 _ _ W2 ?_
   exact⟨fun nb ρ σ H q W=>⟨nb,ρ,q,W⟩,fun nb ρ σ H q W=>KK.nx nb ρ σ H q W.gy.1,fun nb ρ σ H q W=>⟨nb,ρ,q,W⟩,fun nb ρ σ f v H d q W hv=>KK.rt nb ρ σ f v H d q W.gy.1 hv,fun nb ρ σ v H q W=>KK.rw nb ρ σ v H q W.gy.1⟩
  ·have e:i=ds.length:=by omega
   subst e
   exact .inl ⟨⟨ys, .of hy,by omega⟩,KK.nx nb ρ' σ H (he ρ' hI) W.gy.1⟩
theorem Bq{c:TT}(I:Rh->Prop)(μ:Rh->Nat)(h0:I ρ)(h:∀ρ',I ρ'->Tv G ρ' c fun b=>if b=true then Sv G ρ' s {nx:=fun fK=>I fK/\μ fK<μ ρ',rt:=E.rt,bk:=E.nx,ct:=fun fK=>I fK/\μ fK<μ ρ',rw:=E.rw} else E.nx ρ'):Sv G ρ (xo c s) E:=fun nb σ H D W KK=>by
  refine⟨fun m σ H=>∃nb ρ',I ρ'/\Wd G nb ρ' σ H/\m=μ ρ',⟨_,nb,ρ,h0,W,rfl⟩,?_⟩
  rintro m σ H ⟨nb,ρ',hI,W,rfl⟩
  refine h ρ' hI nb σ H _ W fun b H1 q s1=>?_
  cases b with
  | true =>
    rw[if_pos rfl] at q⊢
    refine⟨fun σ' H'=>∃nb fK,(I fK/\μ fK<μ ρ')/\Wd G nb fK σ' H',fun σ' H' ⟨nb,fK,⟨q1,q2⟩,W2⟩=>⟨μ fK,q2,nb,fK,q1,W2,rfl⟩,q nb σ H1 _ (W.step s1) ?_⟩
    exact⟨fun nb ρ σ H q W=>⟨nb,ρ,q,W⟩,KK.nx,fun nb ρ σ H q W=>⟨nb,ρ,q,W⟩,KK.rt,KK.rw⟩
  |false=>rw[if_neg c8] at q⊢;exact KK.nx nb ρ' σ H1 q (W.step s1)
end Sv
def k7(mp:List (Option Nat))(ρ:Rh):Rh:=mp.map fun o=>match o with|none=> .no|some j=>match ρ[j]? with|some s=>s|none=> .no
theorem v8{mp:List (Option Nat)}(h:(mp.filterMap id).Nodup):∀{i j k:Nat},mp[i]?=some (some k)->mp[j]?=some (some k)->i=j:=by
  induction mp with
  |nil=>intro i j k e;simp at e
  | cons o r ih =>
    intro i j k e1 e2
    have hr:(r.filterMap id).Nodup:=by
      cases o with
      |none=>simpa using h
      |some x=>rw[BL (by rfl)] at h;exact(gV.mp h).2
    have hn:∀{m:Nat},r[m]?=some (some k)->o≠some k:=fun{m} hm e=>by
      subst e
      rw[BL (by rfl)] at h
      exact(gV.mp h).1 (Aj.mpr ⟨some k,dN hm,rfl⟩)
    cases i with
    | zero =>
      cases j with
      |zero=>rfl
      |succ j=>simp at e1 e2;exact absurd e1 (hn e2)
    | succ i =>
      cases j with
      |zero=>simp at e1 e2;exact absurd e2 (hn e1)
      |succ j=>simp at e1 e2;rw[ih hr e1 e2]
theorem Wd.gF{nb:Addr->Prop}{σ:St}{H:Hp}{mp:List (Option Nat)}(W:Wd G nb ρ σ H)(hm:(mp.filterMap id).Nodup):Wd G nb (k7 mp ρ) (gF mp σ) H:=by
  have hat:∀{i:Nat} {s:Sl},(k7 mp ρ)[i]?=some s->s= .no\/∃k,mp[i]?=some (some k)/\ρ[k]?=some s:=fun{i s} e=>by
    unfold k7 at e
    rw[aI] at e
    obtain⟨o,ho,e⟩:=i9.mp e
    cases o with
    |none=>exact .inl e.symm
    | some k =>
      cases hk:ρ[k]? with
      |none=>simp only[hk] at e;exact .inl e.symm
      |some s'=>simp only[hk] at e;subst e;exact .inr ⟨k,ho,hk⟩
  refine⟨W.az,W.live,W.old,W.cM,W.gA,by unfold L2.gF k7;rw[aj,aj],W.gB,W.dW,fun i s e=>?_,fun i j a f as c g cs hij e1 e2=>?_,fun i j a f as c g cs hij e1 e2=>?_,fun i j c t hij e1 e2 a ha=>?_⟩
  · have hi:i<mp.length:=by have:=(bh.mp e).1;unfold k7 at this;rwa[aj] at this
    rcases hat e with rfl|⟨k,hk,hs⟩
    · exact⟨_,by unfold L2.gF;rw[aI,aB hi];rfl,trivial⟩
    · obtain⟨x,e1,h⟩:=W.ok k s hs
      refine⟨x,?_,h⟩
      unfold L2.gF
      rw[aI,hk]
      simp only[Option.map_some,e1]
  · rcases hat e1 with z|⟨k,hk,hs⟩
    · cases z
    rcases hat e2 with z|⟨k',hk',hs'⟩
    · cases z
    exact W.apart k k' a f as c g cs (fun z=>by subst z;exact hij (v8 hm hk hk')) hs hs'
  · rcases hat e1 with z|⟨k,hk,hs⟩
    · cases z
    rcases hat e2 with z|⟨k',hk',hs'⟩
    · cases z
    exact W.eg k k' a f as c g cs (fun z=>by subst z;exact hij (v8 hm hk hk')) hs hs'
  · rcases hat e1 with z|⟨k,hk,hs⟩
    · cases z
    rcases hat e2 with z|⟨k',hk',hs'⟩
    · subst z;exact fun z=>by cases z
    exact W.cP k k' c t (fun z=>by subst z;exact hij (v8 hm hk hk')) hs hs' a ha
def Em(ρ:Rh)(acc:Addr):Prop:=(∀(j:Nat) a f ds,ρ[j]?=some (.own a f ds)->a≠acc)/\∀(j:Nat) c,ρ[j]?=some (.cu c)->acc∉c.F
def fq(G:Gx)(cV:Rh)(n:Nat)(it:Nat->PyData->Prop)(fi:Bool)(gt:TG)(tc:TT)(te:TE)(Θ:Bool->List PyData->Prop):Prop:=
 ∃(fl:Bool) (I:Nat->List PyData->Prop),I 0 []/\(∀i d ds,it i d->ds.length<=i->I i ds->Gv G cV gt fi d fun fO=>Wk cV fO/\Tv G fO tc fun b=>if b=true then Ev G fO te fun f e=>(fl=true->f=true)/\I (i+1) (ds++[e]) else I (i+1) ds)/\
  ∀ds,ds.length<=n->I n ds->Θ (fl||fM ds) ds
theorem FF{gt:TG}{tc:TT}{nb:Addr->Prop}{acc:Addr}{σ:St}{H H1:Hp}{x:V}{fi fl:Bool}{I:Nat->List PyData->Prop}{xs:List V}{N:St->Hp->Prop}{ds:List PyData}{n:Nat}(hn:n<=10000)(hi:i<n)
    (W:Wd G nb cV σ H) (ha:nb acc) (hN:NB G.B acc) (hno:Em cV acc) (st:Step G.B H1 H) (hacc:H1 acc=none) (hx:H acc=some (.lst xs)) (hd:af (G.S nb fl) H ds xs) (hl:ds.length<=i) (hxd:ai (G.S nb fi) H d x)
    (h:Gv G cV gt fi d fun fO=>Wk cV fO/\Tv G fO tc fun b=>if b=true then Ev G fO te fun f e=>(fl=true->f=true)/\I (i+1) (ds++[e]) else I (i+1) ds)
    (z:∀σ' H' ds' xs',Wd G nb cV σ' H'->Step G.B H1 H'->H' acc=some (.lst xs')->af (G.S nb fl) H' ds' xs'->ds'.length<=i+1->I (i+1) ds'->N σ' H'):
    gt x σ H fun σ2 H2=>tc σ2 H2 fun b H3=>if b=true then te σ2 H3 fun v H4=>∃ys,H4 acc=some (.lst ys)/\ys.length<sizeLine/\N σ2 (upd H4 acc (.lst (ys++[v]))) else N σ2 H3:=by
  refine h nb σ H x _ W hxd fun σ2 fO ⟨wk,q⟩ W2=>q nb σ2 H _ W2 fun b H3 q3 s3=>?_
  have FQ:=s3.1 _ _ hN hx
  have Ck:=hd.keep (s3.dz (nb:=nb) (f:=fl))
  cases b with
  | false =>
    rw[if_neg c8] at q3⊢
    exact z σ2 H3 ds xs ((W2.step s3).wk wk) (st.trans s3) FQ Ck (by omega) q3
  | true =>
    rw[if_pos rfl] at q3⊢
    refine q3 nb σ2 H3 _ (W2.step s3) fun f v H4 e ⟨hf,hI⟩ s4 hv=>?_
    have E9:=s4.1 _ _ hN FQ
    have IA:=Ck.keep (s4.dz (nb:=nb) (f:=fl))
    have hlen:=hd.length
    refine⟨xs,E9,dI (show xs.length<10001 by omega) (by decide),?_⟩
    have W4:Wd G nb cV σ2 H4:=((W2.step s3).step s4).wk wk
    have bt:aU (G.S nb fl) H4 (upd H4 acc (.lst (xs++[v]))):=aU.set (.inl ha)
    have W5:Wd G nb cV σ2 (upd H4 acc (.lst (xs++[v]))):=W4.write ha hN hno.1 (fun j a f ds e z=>by
      subst z
      obtain⟨_,_,_,_,_,ps,hp,_⟩:=W4.ok j _ e
      rw[E9] at hp;cases hp) hno.2
    refine z σ2 _ (ds++[e]) (xs++[v]) W5 ⟨fun a o n q=>?_,W5.az⟩ aV (af.snoc ((hv.av (bz hf fun _ z=>z)).keep bt) (IA.keep bt)) (by rw[cO,gQ];omega) hI
    have hne:a≠acc:=fun z=>by subst z;rw[hacc] at q;cases q
    rw[aq hne]
    exact(st.trans (s3.trans s4)).1 a o n q
theorem E4{nb:Addr->Prop}{σ:St}{H:Hp}{a:Addr}(W:Wd G nb ρ σ H)(ha:H a=none):Em ρ a:=by
 refine⟨fun j c f ds e z=>?_,fun j c e z=>?_⟩
 ·subst z
  obtain⟨x,e1,h1,h2,h3,ys,hy,_⟩:=W.ok j _ e
  rw[hy] at ha;cases ha
 ·obtain⟨x,e1,h1,h2,h3⟩:=W.ok j _ e
  exact W.live a (h2 a z).1 ha
theorem N7{nb:Addr->Prop}{a:Addr}{f:Bool}:∀x,(G.S nb f x\/x=a)->G.S (fun x=>nb x\/x=a) f x:=fun x z=>by
 rcases z with (z|z|z|z)|z
 ·exact .inl (.inl z)
 ·exact .inr (.inl z)
 ·exact .inr (.inr (.inl z))
 ·exact .inr (.inr (.inr z))
 ·exact .inl (.inr z)
theorem Gp{nb:Addr->Prop}{acc:Addr}{H H1 H':Hp}{σ:St}{Q:VK}{Θ:Bool->List PyData->Prop}{xs:List V}{ds:List PyData}{fl:Bool}(W:Wd G nb ρ σ H)(s1:Step G.B H H1)(hacc:H1 acc=none)(s2:Step G.B H1 H')(hx:H' acc=some (.lst xs))(hd:af (G.S (fun x=>nb x\/x=acc) fl) H' ds xs)(p:Θ (fl||fM ds) ds)
  (z:∀f a xs H' ds,Θ f ds->Step G.B H H'->H a=none->H' a=some (.lst xs)->af (fun x=>G.S nb f x\/x=a) H' ds xs->Q (.ref a) H'):Q (.ref acc) H':=by
 refine z _ acc xs H' ds p (s1.trans s2) (W.none_of s1 hacc) hx ?_
 cases hs:fM ds with
 |true=>exact af.kN hs hd
 |false=>rw[l5];exact hd.av N7
theorem NB.new{B:Bg}{H:Hp}{a:Addr}(h:jh B H)(ha:H a=none):NB B a:=iI fun z=>NB.lK h z ha
namespace aA
variable{Θ:Bool->List PyData->Prop}{gt:TG}{tc:TT}{mp:List (Option Nat)}
theorem Nn{lo:Int}{n:Nat}{nb:Addr->Prop}{σ:St}{H H1:Hp}{Q:VK}(W:Wd G nb ρ σ H)(s1:Step G.B H H1)(hm:(mp.filterMap id).Nodup)(gk:k7 mp ρ=cV)(hn:n<=10000)(h:fq G cV n (fun i d=>i<n/\d= .int (lo+i)) true gt tc te Θ)
  (z:∀f a xs H' ds,Θ f ds->Step G.B H H'->H a=none->H' a=some (.lst xs)->af (fun x=>G.S nb f x\/x=a) H' ds xs->Q (.ref a) H') (acc:Addr) (hacc:H1 acc=none):pA (g8 lo n) gt tc te acc (fun H'=>Q (.ref acc) H') (gF mp σ) (upd H1 acc (.lst [])):=by
 obtain⟨fl,I,h0,ht,he⟩:=h
 have W0:Wd G nb cV (L2.gF mp σ) H1:=by rw[<-gk];exact(W.step s1).gF hm
 have W1:=W0.more hacc (o:= .lst [])
 have hN:=NB.new s1.2 hacc
 have hno:=E4 W0 hacc
 have xO:Step G.B H1 (upd H1 acc (.lst [])):= .same s1.2 (dg hacc)
 refine R.HF (fun i σ H=>∃ds xs,Wd G (fun x=>nb x\/x=acc) cV σ H/\Step G.B H1 H/\H acc=some (.lst xs)/\af (G.S (fun x=>nb x\/x=acc) fl) H ds xs/\ds.length<=i/\I i ds) ⟨[],[],W1,xO,aV, .nil,aK _,h0⟩ ?_ ?_
 ·rintro i σ H hi ⟨ds,xs,W,st,hx,hd,hl,hI⟩
  exact FF hn hi W (.inr rfl) hN hno st hacc hx hd hl (.int _) (ht i _ ds ⟨hi,rfl⟩ hl hI) fun σ' H' ds' xs' W' st' hx' hd' hl' hI'=>⟨ds',xs',W',st',hx',hd',hl',hI'⟩
 ·rintro σ H' ⟨ds,xs,W',st,hx,hd,hl,hI⟩
  exact Gp W s1 hacc st hx hd (he ds hl hI) z
theorem lA{t0:TE}(hm:(mp.filterMap id).Nodup)(gk:k7 mp ρ=cV)(h:Ev G ρ t0 fun _ x=>∃n:Int,x= .int n/\ -10000<=n/\n<=10000/\fq G cV n.toNat (fun i d=>i<n.toNat/\d= .int (0+i)) true gt tc te Θ):aA G ρ (l9 (sA (bx t0 bR)) gt tc te mp) Θ:=fun nb σ H Q W z=>
 h nb σ H _ W fun f v H1 x ⟨n,ex,h1,h2,q⟩ s1 hv=>by
  subst ex
  rw[hv.bX]
  exact⟨n,rfl,by omega,by omega,Nn W s1 hm gk (by omega) q z⟩
theorem iW{t0:TE}(hm:(mp.filterMap id).Nodup)(gk:k7 mp ρ=cV)(h:Ev G ρ t0 fun fi x=>∃es,x= .list es/\es.length<=10000/\∀v,fq (G.hd fi (.list es) v) cV es.length (fun i d=>es[i]?=some d) fi gt tc te Θ):aA G ρ (l9 (pX K t0) gt tc te mp) Θ:=fun nb σ H Q W z=>
 h nb σ H _ W fun fi v H1 x ⟨es,ex,hn,q⟩ s1 hv=>by
  subst ex
  obtain⟨fl,I,h0,ht,he⟩:=q v
  have W0:=(W.step s1).hd hv
  obtain⟨a,xs,rfl,n,hx,hd⟩:=hv.dJ
  refine⟨a,rfl,⟨xs, .of hx⟩,fun acc hacc=>?_⟩
  have Cv:Wd (G.hd fi (.list es) (.ref a)) nb cV (L2.gF mp σ) H1:=by rw[<-gk];exact W0.gF hm
  have W1:=Cv.more hacc (o:= .lst [])
  have hN:=NB.new s1.2 hacc
  have hno:=E4 Cv hacc
  have xO:Step G.B H1 (upd H1 acc (.lst [])):= .same s1.2 (dg hacc)
  have Bv:NB G.B a:=iI fun z=>n (.inr (.inr (.inl z)))
  refine R.z5 (xs:=xs) (fun i σ H=>∃ds ys,Wd (G.hd fi (.list es) (.ref a)) (fun x=>nb x\/x=acc) cV σ H/\Step G.B H1 H/\H acc=some (.lst ys)/\af (G.S (fun x=>nb x\/x=acc) fl) H ds ys/\ds.length<=i/\I i ds) ⟨[],[],W1,xO,aV, .nil,aK _,h0⟩ ?_ ?_ ?_
  ·rintro i σ H hi ⟨ds,ys,W,st,_⟩
   exact .of (st.1 _ _ Bv hx)
  ·rintro i x σ H hi ⟨ds,ys,W,st,hy,hd',hl,hI⟩
   obtain⟨a',xs',e',_,h',d'⟩:=W.gy.2.dJ
   cases e'
   rw[st.1 _ _ Bv hx] at h';cases h'
   have hil:i<es.length:=by have:=(bh.mp hi).1;have:=d'.length;omega
   obtain⟨x',hx',dx⟩:=d'.get (aB hil)
   rw[hi] at hx';cases hx'
   exact FF (G:=G.hd fi (.list es) (.ref a)) hn hil W (.inr rfl) hN hno st hacc hy hd' hl dx (ht i _ ds (aB hil) hl hI) fun σ' H' ds' xs' W' st' hx' hd' hl' hI'=>⟨ds',xs',W',st',hx',hd',hl',hI'⟩
  ·rintro σ H' ⟨ds,ys,W',st,hy,hd',hl,hI⟩
   rw[hd.length] at hl hI
   exact Gp W s1 hacc st hy hd' (he ds hl hI) z
end aA
end
end L2
set_option maxRecDepth 100000
set_option maxHeartbeats 1000000
namespace L2
open PySem PySem.Spec PyProof.Rows
section
variable{ρ:Rh}{t:TS}{N:List Str}{vs:List V}{ds:List PyData}{nb:Addr->Prop}{H:Hp}{Q:VK}{Φ:Pd}{b l:Addr}
theorem kT{xs:List V}(h:af nb H ds xs){i:Nat}{s:Sl}(e:(ds.map (Sl.d false))[i]?=some s):∃v d,xs[i]?=some v/\s= .d false d/\ai nb H d v:=by
 rw[aI] at e
 obtain⟨d,hd,e⟩:=i9.mp e
 obtain⟨v,hv,q⟩:=h.get hd
 exact⟨v,d,hv,e.symm,q⟩
theorem Sv.fJ(hl:j3 nb H)(hd:af nb H ds vs)(aD:∀f d v H',Φ f d->dh H H'->ai (fun a=>nb a\/(f=true/\H a≠none)) H' d v->Q v H')
  (gk:ρ=ds.map (Sl.d false)++List.replicate (N.length-ds.length) .no) (h:Sv ⟨none,H,nb,[]⟩ ρ t {nx:=fun _=>Φ true .none,rt:=Φ}):t {nx:=fun _ H'=>Q .aM H',rt:=Q} (start N vs) H:=by
 have hlen:=hd.length
 have sm:∀{cy ρ' σ' H'},Wd ⟨none,H,nb,[]⟩ cy ρ' σ' H'->dh H H':=fun W a o e=>W.old a o (fun _ _ z=>(by cases z)) e
 refine h (fun _=>False) _ H _ ⟨fun _ _ z=>(by cases z),fun _ z=>z.elim,fun _ _ _ e=>e,fun _ z=>z.elim,hl,?_,fun _ _ z=>(by cases z),fun _ m=>(by cases m),fun i s e=>?_,?_,?_,?_⟩ ⟨fun cy ρ' σ' H' q W=>aD _ _ _ _ q (sm W) .aM,fun _ _ _ _ q _=>q.elim,fun _ _ _ _ q _=>q.elim,fun cy ρ' σ' f v H' d q W hv=>aD f d v H' q (sm W) (hv.av fun a z=>?_),fun _ _ _ _ _ q _=>q.elim⟩
 ·rw[gk];unfold start;simp[hlen]
 ·rw[gk] at e
  unfold start
  by_cases hi:i<ds.length
  ·rw[g7 (by rw[aj];exact hi)] at e
   obtain⟨v,d,hv,rfl,q⟩:=kT hd e
   refine⟨some v,?_,v,rfl,q.av fun a z=>?_⟩
   ·rw[g7 (by rw[aj,hlen];exact hi),aI,hv];rfl
   ·rcases z with z|z|z|z
    ·exact z.elim
    ·exact z
    ·exact absurd (fun _ _ z=>(by cases z)) z
    ·cases z.1
  ·rw[ic (by rw[aj];omega),gZ] at e
   split at e
   ·rename_i h'
    cases e
    refine⟨none,?_,trivial⟩
    rw[aj] at h'
    rw[ic (by rw[aj];omega),gZ,if_pos (by rw[aj,hlen];exact h')]
   ·cases e
 ·intro i j a f as c g cs hij e1
  rw[gk] at e1
  by_cases hi:i<ds.length
  ·rw[g7 (by rw[aj];exact hi)] at e1
   obtain⟨_,_,_,z,_⟩:=kT hd e1
   cases z
  ·rw[ic (by rw[aj];omega),gZ] at e1
   split at e1<;>cases e1
 ·intro i j a f as c g cs hij e1
  rw[gk] at e1
  by_cases hi:i<ds.length
  ·rw[g7 (by rw[aj];exact hi)] at e1
   obtain⟨_,_,_,z,_⟩:=kT hd e1
   cases z
  ·rw[ic (by rw[aj];omega),gZ] at e1
   split at e1<;>cases e1
 ·intro i j c t hij e1
  rw[gk] at e1
  by_cases hi:i<ds.length
  ·rw[g7 (by rw[aj];exact hi)] at e1
   obtain⟨_,_,_,z,_⟩:=kT hd e1
   cases z
  ·rw[ic (by rw[aj];omega),gZ] at e1
   split at e1<;>cases e1
 ·rcases z with z|z
  ·exact .inr (.inl z)
  ·exact .inr (.inr (.inr z))
theorem Sv.lZ(hB:cU H b l)(hl:j3 nb H)(hb:nb b)(hd:af nb H ds vs)(aD:∀f d v H',Φ f d->aU (Nb b) H H'->cU H' b l->ai (fun a=>nb a\/(f=true/\H a≠none)) H' d v->Q v H')
    (gk:ρ= .az::ds.map (Sl.d false)++List.replicate (N.length-(ds.length+1)) .no) (h:Sv ⟨some (b,l),H,nb,[]⟩ ρ t {nx:=fun _=>Φ true .none,rt:=Φ}):t {nx:=fun _ H'=>Q .aM H',rt:=Q} (start N (.ref b::vs)) H:=by
  have hlen:=hd.length
  have G6:∀a,a≠b->NB (some (b,l)) a:=fun a n b' l' e=>by cases e;exact n
  have RD:∀a,¬NB (some (b,l)) a->a=b:=fun a n=>iI fun z=>n (G6 a z)
  have bt:∀{cy ρ' σ' H'},Wd ⟨some (b,l),H,nb,[]⟩ cy ρ' σ' H'->aU (Nb b) H H':=fun W a o n e=>W.old a o (G6 a n) e
  have bg:∀{cy ρ' σ' H'},Wd ⟨some (b,l),H,nb,[]⟩ cy ρ' σ' H'->cU H' b l:=fun W=>W.az b l rfl
  refine h (fun _=>False) _ H _ ⟨fun b' l' e=>(by cases e;exact hB),fun _ z=>z.elim,fun _ _ _ e=>e,fun _ z=>z.elim,hl,?_,fun b' l' e=>(by cases e;exact hB),fun _ m=>(by cases m),fun i s e=>?_,?_,?_,?_⟩ ⟨fun cy ρ' σ' H' q W=>aD _ _ _ _ q (bt W) (bg W) .aM,fun _ _ _ _ q _=>q.elim,fun _ _ _ _ q _=>q.elim,fun cy ρ' σ' f v H' d q W hv=>aD f d v H' q (bt W) (bg W) (hv.av fun a z=>?_),fun _ _ _ _ _ q _=>q.elim⟩
  · rw[gk];unfold start;simp[hlen]
  · rw[gk] at e
    unfold start
    cases i with
    |zero=>simp at e;subst e;exact⟨some (.ref b),by simp,b,l,rfl,rfl⟩
    | succ i =>
      simp only[lJ,kR,bF,ko] at e⊢
      by_cases hi:i<ds.length
      · rw[g7 (by rw[aj];exact hi)] at e
        obtain⟨v,d,hv,rfl,q⟩:=kT hd e
        refine⟨some v,?_,v,rfl,q.av fun a z=>?_⟩
        · rw[g7 (by rw[aj,hlen];exact hi),aI,hv];rfl
        · rcases z with z|z|z|z
          · exact z.elim
          · exact z
          · rw[RD a z];exact hb
          · cases z.1
      · rw[ic (by rw[aj];omega),gZ] at e
        split at e
        · rename_i h'
          cases e
          refine⟨none,?_,trivial⟩
          rw[aj] at h'
          rw[ic (by rw[aj];omega),gZ,if_pos (by rw[aj,hlen];exact h')]
        · cases e
  · intro i j a f as c g cs hij e1
    rw[gk] at e1
    cases i with
    |zero=>simp at e1
    | succ i =>
      simp only[lJ,kR] at e1
      by_cases hi:i<ds.length
      · rw[g7 (by rw[aj];exact hi)] at e1
        obtain⟨_,_,_,z,_⟩:=kT hd e1
        cases z
      · rw[ic (by rw[aj];omega),gZ] at e1
        split at e1<;>cases e1
  · intro i j a f as c g cs hij e1
    rw[gk] at e1
    cases i with
    |zero=>simp at e1
    | succ i =>
      simp only[lJ,kR] at e1
      by_cases hi:i<ds.length
      · rw[g7 (by rw[aj];exact hi)] at e1
        obtain⟨_,_,_,z,_⟩:=kT hd e1
        cases z
      · rw[ic (by rw[aj];omega),gZ] at e1
        split at e1<;>cases e1
  · intro i j c t hij e1
    rw[gk] at e1
    cases i with
    |zero=>simp at e1
    | succ i =>
      simp only[lJ,kR] at e1
      by_cases hi:i<ds.length
      · rw[g7 (by rw[aj];exact hi)] at e1
        obtain⟨_,_,_,z,_⟩:=kT hd e1
        cases z
      · rw[ic (by rw[aj];omega),gZ] at e1
        split at e1<;>cases e1
  · rcases z with z|z
    · exact .inr (.inl z)
    · exact .inr (.inr (.inr z))
def uV(b l:Addr)(H:Hp):Gx:=⟨some (b,l),H,fun _=>False,[]⟩
theorem Ll{a:Addr}{m:Nat}(hB:cU H b l):Wd (uV b l H) (fun _=>False) (.raw (.ref a):: .az::List.replicate m .no) (some (.ref a)::some (.ref b)::List.replicate m none) H:=by
  refine⟨fun b' l' e=>(by cases e;exact hB),fun _ z=>z.elim,fun _ _ _ e=>e,fun _ z=>z.elim,fun _ z=>z.elim,by simp,fun b' l' e=>(by cases e;exact hB),fun _ m=>(by cases m),fun i s e=>?_,?_,?_,?_⟩
  · match i with
    |0=>simp at e;subst e;exact⟨_,rfl,rfl⟩
    |1=>simp at e;subst e;exact⟨some (.ref b),rfl,b,l,rfl,rfl⟩
    | i + 2 =>
      simp only[kR,gZ] at e⊢
      split at e
      · rename_i h;cases e;exact⟨none,if_pos h,trivial⟩
      · cases e
  · intro i j a f as c g cs hij e1
    match i with
    |0=>simp at e1
    |1=>simp at e1
    | i + 2 =>
      simp only[kR,gZ] at e1
      split at e1<;>cases e1
  · intro i j a f as c g cs hij e1
    match i with
    |0=>simp at e1
    |1=>simp at e1
    | i + 2 =>
      simp only[kR,gZ] at e1
      split at e1<;>cases e1
  · intro i j c t hij e1
    match i with
    |0=>simp at e1
    |1=>simp at e1
    | i + 2 =>
      simp only[kR,gZ] at e1
      split at e1<;>cases e1
theorem Ev.UW{G:Gx}{i:Nat}{a:Addr}{ns:List Int}{K:PySem.W.Frag}(e:ρ[i]?=some (.raw (.ref a)))(hS:aS K G.H0 a (ns.map V.int))(h:Φ true (.int ns.length)):Ev G ρ (eS (gn K) (bx (eU i) bR)) Φ:=fun nb σ H Q W z=>by
 obtain⟨x,e1,h1⟩:=W.ok i _ e
 have h1:x=some (.ref a):=h1
 subst h1
 have hS':aS K H a (ns.map V.int):=by
  rcases hS with hr|hk
  ·have hn:NB G.B a:=fun b l hb z=>by
    subst z
    obtain⟨_,_,_,_,_,g1,_⟩:=W.gB _ _ hb
    rcases hr with hr|⟨o,hr⟩
    ·rw[g1] at hr
     have:=HO.lst.inj (fR hr)
     cases ns with
     |nil=>cases this
     |cons n r=>rw[bF] at this;cases (List.cons.inj this).1
    ·rw[g1] at hr;cases hr
   rcases hr with hr|⟨o,hr⟩
   ·exact .inl (.inl (W.old _ _ hn hr))
   ·exact .inl (.inr ⟨o,W.old _ _ hn hr⟩)
  ·exact .inr hk
 refine⟨.ref a,e1,a,_,rfl, .inl hS',?_⟩
 rw[aj]
 exact z true _ H _ h (.refl W.az) (.int _)
theorem Rp{D:Ends}(h2:∀H,D.rt (.bl true) H):uu (uV b l H) {nx:=fun _=>False,rt:=fun _ d=>d= .bool true} D:=
 ⟨fun _ _ _ _ q _=>q.elim,fun _ _ _ _ q _=>q.elim,fun _ _ _ _ q _=>q.elim,fun _ _ _ f v H d q _ hv=>by subst q;unfold ai at hv;subst hv;exact h2 H,fun _ _ _ _ _ q _=>q.elim⟩
end
namespace R
theorem di{P:Int->Prop}{i:Int}(h:P i):∃j,PyData.int i= .int j/\P j:=⟨i,rfl,h⟩
theorem db{P:Bool->Prop}{i:Bool}(h:P i):∃j,PyData.bool i= .bool j/\P j:=⟨i,rfl,h⟩
theorem dl{P:List PyData->Prop}{i:List PyData}(h:P i):∃j,PyData.list i= .list j/\P j:=⟨i,rfl,h⟩
theorem dt{P:List PyData->Prop}{i:List PyData}(h:P i):∃j,PyData.tuple i= .tuple j/\P j:=⟨i,rfl,h⟩
theorem Jm{P:List PyData->Prop}{i:List PyData}(h:P i):∃j,(PyData.list i= .list j\/PyData.list i= .tuple j)/\P j:=⟨i, .inl rfl,h⟩
theorem IL{P:List PyData->Prop}{i:List PyData}(h:P i):∃j,(PyData.tuple i= .list j\/PyData.tuple i= .tuple j)/\P j:=⟨i, .inr rfl,h⟩
theorem Nh{P:Bool->Prop}{i j:Int}(h:P (decide (i=j))):∃b,gh (.int i) (.int j) b/\P b:=⟨_, .ii i j,h⟩
theorem Ms{P:Bool->Prop}{x y:Bool}(h:P (x==y)):∃b,gh (.bool x) (.bool y) b/\P b:=⟨_, .bb x y,h⟩
theorem at_{ds:List PyData}{k:Int}{e:PyData}{P:PyData->Prop}(h:bD ds k=some e)(q:P e):∃e,bD ds k=some e/\P e:=⟨e,h,q⟩
theorem M6{A:Prop}(q:A):([]:List Fd).length<=10000/\A:=⟨by decide,q⟩
theorem L6{C A:Prop}(c:C)(q:A):C/\A:=⟨c,q⟩
end R
theorem fV{n:Nat}{F:DF}{vs:List V}{H:Hp}{Q:VK}{E:XK}(h:aY n F vs H Q E):∃(nb:Addr->Prop) (ds:List PyData) (Φ:Pd),j3 nb H/\af nb H ds vs/\(∀f d v H',Φ f d->dh H H'->ai (fun a=>nb a\/(f=true/\H a≠none)) H' d v->Q v H')/\F ds Φ:=by
 obtain⟨_,nb,ds,h1,h2,h3⟩:=h
 exact⟨nb,ds,_,h1,h2,fun f d v H' q=>q v H',h3⟩
theorem lY{n:Nat}{F:DF}{vs:List V}{H:Hp}{Q:VK}{E:XK}(h:fX n F vs H Q E):∃(b l:Addr) (ws:List V) (nb:Addr->Prop) (ds:List PyData) (Φ:Pd),vs= .ref b::ws/\cU H b l/\j3 nb H/\nb b/\af nb H ds ws/\(∀f d v H',Φ f d->aU (Nb b) H H'->cU H' b l->ai (fun a=>nb a\/(f=true/\H a≠none)) H' d v->Q v H')/\F ds Φ:=by
 obtain⟨_,b,l,ws,nb,ds,e,hB,h1,hb,h2,h3⟩:=h
 exact⟨b,l,ws,nb,ds,_,e,hB,h1,hb,h2,fun f d v H' q=>q v H',h3⟩
end L2
set_option maxRecDepth 100000
set_option maxHeartbeats 1000000
namespace L2
open PySem PySem.Spec PyProof.Rows
abbrev ao:=List (Int×Int)
abbrev Wo:=List (Option Int)
abbrev eT(prs:ao):PyData:= .list (prs.map pairD)
abbrev mO(wd:Wo):PyData:= .list (wd.map ie)
abbrev dQ(p n:Int)(cs:List ao):PyData:= .tuple [.int p, .int n, .list (cs.map eT)]
def tD(prs:ao)(wd:Wo):Prop:=∃pr∈prs,wd[pr.1.toNat]?=some none
instance{prs:ao}{wd:Wo}:Decidable (tD prs wd):=by unfold tD;infer_instance
def lQ(p:Int)(prs:ao)(wd:Wo):Option Int:=if tD prs wd then none else some (bJ prs wd%p)
def mj(prs:ao)(m:Nat):Prop:=∀pr∈prs,0<=pr.1/\pr.1<m/\Sm pr.2
def lF(wd:Wo):Prop:=∀x,some x∈wd->Sm x
theorem BH{α β:Type}{xs:List α}(φ:α->β){k:Int}{m:Nat}(h0:0<=k)(h1:k<m)(hm:m=xs.length):∃x,xs[k.toNat]?=some x/\bD (xs.map φ) k=some (φ x):=by
 have hk:k.toNat<xs.length:=by omega
 exact⟨xs[k.toNat],aB hk,gp h0 (by rw[aI,aB hk];rfl)⟩
theorem fT{α β:Type}{xs:List α}{φ:α->β}{i:Nat}{d:β}(h:(xs.map φ)[i]?=some d):∃x,xs[i]?=some x/\d=φ x:=by
 rw[aI] at h
 obtain⟨x,hx,e⟩:=i9.mp h
 exact⟨x,hx,e.symm⟩
theorem take_snoc{α:Type}{xs:List α}{i:Nat}{x:α}(h:xs[i]?=some x):xs.take (i+1)=xs.take i++[x]:=by
 rw[wA,h];rfl
theorem CD(o:Option Int):qf (ie o)=o.isNone:=by cases o<;>rfl
end L2
set_option maxRecDepth 100000
set_option maxHeartbeats 4000000
namespace L2
open PySem PySem.Spec PyProof.Rows
structure Eu(p b L lt r t:Int):Prop where
 l0:0<L
 r0:0<=r
 lp:L<=p
 rp:r<=p
 lc:∃k,L=lt*b+p*k
 rc:∃k,r=t*b+p*k
 dv:∀d,d∣L->d∣r->d∣p/\d∣b%p
 sz:(t.natAbs:Int)*L+(lt.natAbs:Int)*r<=p
theorem Eu.start{p b:Int}(hp:2<=p):Eu p b p 0 (b%p) 1:=by
 have m1:=gm b (show p≠0 by omega)
 have m2:=fY b (show 0<p by omega)
 refine⟨by omega,m1,jL _,by omega,⟨1,by rw[qH,Int.zero_add,Int.mul_one]⟩,⟨-(b/p),?_⟩,fun d h1 h2=>⟨h1,h2⟩,?_⟩
 ·have:=qb b p
  rw[tZ,Int.mul_neg]
  omega
 ·show(1:Int)*p+0*(b%p)<=p
  rw[tZ,qH]
  omega
theorem Eu.tb{p b L lt r t:Int}(h:Eu p b L lt r t): -p<=t/\t<=p:=by
 have h1:(t.natAbs:Int)*1<=(t.natAbs:Int)*L:=qh (by have:=h.l0;omega) (by omega)
 have h2:0<=(lt.natAbs:Int)*r:=Int.mul_nonneg (by omega) h.r0
 have:=h.sz
 omega
theorem Eu.next{p b L lt r t:Int}(h:Eu p b L lt r t)(hr:0<r):Eu p b r t (L-L/r*r) (lt-L/r*t)/\L-L/r*r<r:=by
 have e:=qb L r
 have m1:=gm L (show r≠0 by omega)
 have m2:=fY L hr
 have e':L-L/r*r=L%r:=by rw[pN (L/r) r];omega
 have q0:0<=L/r:=rR (by have:=h.l0;omega) (by omega)
 obtain⟨k1,c1⟩:=h.lc
 obtain⟨k2,c2⟩:=h.rc
 refine⟨⟨hr,by omega,h.rp,by have:=h.rp;omega,h.rc,⟨k1-L/r*k2,?_⟩,fun d d1 d2=>?_,?_⟩,by omega⟩
 ·rw[Int.sub_mul,qx]
  generalize L/r=q at*
  have z:q*r=q*(t*b)+q*(p*k2):=by rw[<-Int.mul_add,<-c2]
  have z1:q*(t*b)=q*t*b:=(qd q t b).symm
  have z2:q*(p*k2)=p*(q*k2):=by rw[<-qd,pN q p,qd]
  omega
 ·have dL:d∣L:=by
   have z:d∣(L-L/r*r)+L/r*r:=Int.dvd_add d2 (Int.dvd_mul_of_dvd_right d1)
   have z2:(L-L/r*r)+L/r*r=L:=by omega
   rwa[z2] at z
  exact h.dv d dL d1
 ·generalize L/r=q at*
  have a1:((lt-q*t).natAbs:Int)<=(lt.natAbs:Int)+q*(t.natAbs:Int):=by
   have b1:(lt-q*t).natAbs<=lt.natAbs+(q*t).natAbs:=by omega
   have b2:((q*t).natAbs:Int)=q*(t.natAbs:Int):=by
    rw[Int.natAbs_mul]
    have:(q.natAbs:Int)=q:=by omega
    rw[Int.natCast_mul,this]
   omega
  have a2:((lt-q*t).natAbs:Int)*r<=((lt.natAbs:Int)+q*(t.natAbs:Int))*r:=wN a1 (by omega)
  have a3:((lt.natAbs:Int)+q*(t.natAbs:Int))*r=(lt.natAbs:Int)*r+q*(t.natAbs:Int)*r:=sV _ _ _
  have a4:(t.natAbs:Int)*(L-q*r)=(t.natAbs:Int)*L-q*(t.natAbs:Int)*r:=by
   rw[qx,<-qd,pN (t.natAbs:Int) q]
  have:=h.sz
  omega
theorem BE{α:Type}{us:List α}(h:us.length=1):∃a,us=[a]:=by
  cases us with
  |nil=>cases h
  | cons a us =>
    cases us with
    |nil=>exact⟨a,rfl⟩
    |cons _ _=>cases h
theorem ln2{α:Type}{us:List α}(h:us.length=2):∃a b,us=[a,b]:=by
  cases us with
  |nil=>cases h
  | cons a us =>
    obtain⟨b,rfl⟩:=BE (us:=us) (qS h)
    exact⟨a,b,rfl⟩
theorem E8{α:Type}{us:List α}(h:us.length=3):∃a b c,us=[a,b,c]:=by
  cases us with
  |nil=>cases h
  | cons a us =>
    obtain⟨b,c,rfl⟩:=ln2 (us:=us) (qS h)
    exact⟨a,b,c,rfl⟩
theorem C8{α:Type}{us:List α}(h:us.length=4):∃a b c d,us=[a,b,c,d]:=by
  cases us with
  |nil=>cases h
  | cons a us =>
    obtain⟨b,c,d,rfl⟩:=E8 (us:=us) (qS h)
    exact⟨a,b,c,d,rfl⟩
theorem Sf{α:Type}{us:List α}(h:us.length=5):∃a b c d e,us=[a,b,c,d,e]:=by
  cases us with
  |nil=>cases h
  | cons a us =>
    obtain⟨b,c,d,e,rfl⟩:=C8 (us:=us) (qS h)
    exact⟨a,b,c,d,e,rfl⟩
end L2
set_option maxRecDepth 100000
set_option maxHeartbeats 1000000
namespace L2
open PySem PySem.Spec PyProof.Rows
def jk(xs:Array Nat):Prop:=∀(i j x y:Nat),i<j->xs[i]?=some x->xs[j]?=some y->x<y
theorem Ln{xs:Array Nat}{q:Nat}(hr:jk xs):∀(f lo hi:Nat),hi<=xs.size->lo<=hi->hi-lo<=f->(∀i x,i<lo->xs[i]?=some x->x<q)->(∀i x,hi<=i->xs[i]?=some x->q<=x)->
    lo<=SetTable.below.go xs q f lo hi/\SetTable.below.go xs q f lo hi<=hi/\(∀i x,i<SetTable.below.go xs q f lo hi->xs[i]?=some x->x<q)/\(∀i x,SetTable.below.go xs q f lo hi<=i->xs[i]?=some x->q<=x):=by
  intro f
  induction f with
  | zero =>
    intro lo hi h1 h2 h3 h4 h5
    have e:lo=hi:=by omega
    subst e
    exact⟨aK _,aK _,h4,h5⟩
  | succ f ih =>
    intro lo hi h1 h2 h3 h4 h5
    unfold SetTable.below.go
    by_cases hlt:lo<hi
    · rw[if_pos hlt]
      have hm:(lo+hi)/2<xs.size:=by omega
      have hg:xs[(lo+hi)/2]?=some xs[(lo+hi)/2]:=jB hm
      have hgd:xs.getD ((lo+hi)/2) q=xs[(lo+hi)/2]:=by rw[q9,hg];rfl
      dsimp only
      rw[hgd]
      by_cases hc:xs[(lo+hi)/2]<q
      · rw[if_pos hc]
        obtain⟨a1,a2,a3,a4⟩:=ih ((lo+hi)/2+1) hi h1 (by omega) (by omega) (fun i x hi' e=>by
          rcases tR i ((lo+hi)/2) with z|z
          · exact kH (hr i _ x _ z e hg) hc
          · have:i=(lo+hi)/2:=by omega
            subst this;rw[hg] at e;cases e;exact hc) h5
        exact⟨by omega,a2,a3,a4⟩
      · rw[if_neg hc]
        obtain⟨a1,a2,a3,a4⟩:=ih lo ((lo+hi)/2) (by omega) (by omega) (by omega) h4 (fun i x hi' e=>by
          rcases tR ((lo+hi)/2) i with z|z
          · exact ir (zX (vI hc) (hr _ i _ x z hg e))
          · have:i=(lo+hi)/2:=by omega
            subst this;rw[hg] at e;cases e;exact vI hc)
        exact⟨a1,by omega,a3,a4⟩
    · rw[if_neg hlt]
      have e:lo=hi:=by omega
      subst e
      exact⟨aK _,aK _,h4,h5⟩
theorem below_at{xs:Array Nat}{q:Nat}(hr:jk xs):SetTable.below xs q<=xs.size/\(∀i x,i<SetTable.below xs q->xs[i]?=some x->x<q)/\(∀i x,SetTable.below xs q<=i->xs[i]?=some x->q<=x):=by
 obtain⟨_,h2,h3,h4⟩:=Ln (q:=q) hr xs.size 0 xs.size (aK _) (fF _) (by omega) (fun i x h=>absurd h (Nat.not_lt_zero _)) (fun i x h e=>by
  have:=(pU.mp e).1;omega)
 exact⟨h2,h3,h4⟩
theorem N8{α:Type}{xs:Array α}{p:Nat}{x:α}(hp:p<=xs.size)(i:Nat):(SetTable.insertAt xs p x)[i]?=if i<p then xs[i]? else if i=p then some x else xs[i-1]?:=by
 unfold SetTable.insertAt
 rw[Array.getElem?_append]
 have e1:((xs.extract 0 p).push x).size=p+1:=by rw[Array.size_push,qV];omega
 rw[e1]
 by_cases h1:i<p
 ·rw[if_pos (show i<p+1 by omega),if_pos h1,GC,if_neg (by rw[qV];omega),Gj (by omega)]
  simp
 ·rw[if_neg h1]
  by_cases h2:i=p
  ·rw[if_pos (show i<p+1 by omega),if_pos h2,GC,if_pos (by rw[qV];omega)]
  ·rw[if_neg (show¬i<p+1 by omega),if_neg h2]
   by_cases h3:i-(p+1)<xs.size-p
   ·rw[Gj (by omega),<-jB,show p+(i-(p+1))=i-1 by omega]
   ·rw[uX (by rw[qV];omega),uX (by omega)]
theorem jk.insert{xs:Array Nat}{q:Nat}(hr:jk xs)(hq:xs[SetTable.below xs q]?≠some q):jk (SetTable.insertAt xs (SetTable.below xs q) q):=by
 obtain⟨h1,h2,h3⟩:=below_at (q:=q) hr
 have h3':∀i x,SetTable.below xs q<=i->xs[i]?=some x->q<x:=fun i x hi e=>by
  rcases wG (h3 i x hi e) with z|z
  ·exact z
  ·subst z
   rcases wG hi with z|z
   ·have hb:SetTable.below xs q<xs.size:=dI z (ir (pU.mp e).1)
    have hg:xs[SetTable.below xs q]?=some xs[SetTable.below xs q]:=jB hb
    have:=hr _ i _ q z hg e
    have:=h3 _ _ (aK _) hg
    omega
   ·rw[<-z] at e;exact absurd e hq
 intro i j x y hij ex ey
 rw[N8 h1] at ex ey
 by_cases a:i<SetTable.below xs q
 ·rw[if_pos a] at ex
  by_cases b:j<SetTable.below xs q
  ·rw[if_pos b] at ey;exact hr i j x y hij ex ey
  ·rw[if_neg b] at ey
   by_cases c:j=SetTable.below xs q
   ·rw[if_pos c] at ey;cases ey;exact h2 i x a ex
   ·rw[if_neg c] at ey;exact hr i (j-1) x y (by omega) ex ey
 ·rw[if_neg a] at ex
  by_cases c:i=SetTable.below xs q
  ·rw[if_pos c] at ex;cases ex
   rw[if_neg (by omega),if_neg (by omega)] at ey
   exact h3' (j-1) y (by omega) ey
  ·rw[if_neg c] at ex
   rw[if_neg (by omega),if_neg (by omega)] at ey
   exact hr (i-1) (j-1) x y (by omega) ex ey
theorem IB{t:SetTable}{ha:Nat->Int}{h:Int}:∀(f:Nat) (p:SetTable.Probe) (j:Nat) (dm:Option Nat),(∀d,p.dummy=some d->t.slot d= .dummy)->SetTable.probe.go t ha h f p=some (.empty j dm)->t.slot j= .empty/\∀d,dm=some d->t.slot d= .dummy:=by
  intro f
  induction f with
  |zero=>intro p j dm _ e;unfold SetTable.probe.go at e;cases e
  | succ f ih =>
    intro p j dm hd e
    have Cr:∀p:SetTable.Probe,(t.advance p).dummy=p.dummy:=fun p=>by unfold SetTable.advance;split<;>rfl
    unfold SetTable.probe.go at e
    cases hs:t.slot p.j with
    |empty=>rw[hs] at e;cases e;exact⟨hs,hd⟩
    |dummy=>rw[hs] at e;exact ih _ j dm (fun d h'=>by rw[Cr] at h';cases h';exact hs) e
    | live i =>
      rw[hs] at e
      dsimp only at e
      split at e
      · cases e
      · exact ih _ j dm (fun d h'=>by rw[Cr] at h';exact hd d h') e
theorem C2{t:SetTable}{h:Int}{j:Nat}{wd:Bool}(e:t.freeSlot h=some (j,wd)):∀i,t.slot j≠ .live i:=by
 unfold SetTable.freeSlot SetTable.probe at e
 intro i z
 split at e
 ·rename_i j0 dm he
  obtain⟨h1,h2⟩:=IB (10*SetTable.turns t.mask) (t.probeStart h) j0 dm (fun d h'=>by unfold SetTable.probeStart at h';cases h') he
  cases dm with
  |none=>cases e;simp at z;rw[h1] at z;cases z
  |some d=>cases e;simp at z;rw[h2 d rfl] at z;cases z
 ·cases e
structure dP(bt:Bool)(t:SetTable):Prop where
 led:bt=false->t.led=true
 zv:t.plain=true->jk t.place
theorem dP.standIn{bt:Bool}{t:SetTable}(h:dP bt t)(n:Nat):dP bt (t.standIn n):=⟨h.led,fun z=>by cases z⟩
theorem dP.off{bt:Bool}{t:SetTable}(h:dP bt t):dP bt {t with plain:=false}:=⟨h.led,fun z=>by cases z⟩
theorem dP.put{bt:Bool}{t:SetTable}{j:Nat}(h:dP bt t)(hj:∀i,t.slot j≠ .live i):dP bt (t.put j).1:=by
 refine⟨h.led,fun z=>?_⟩
 refine jk.insert (h.zv z) fun e=>hj (SetTable.below t.place j) ?_
 unfold SetTable.slot
 dsimp only
 rw[if_pos (by rw[e];exact beq_self_eq_true _)]
theorem dP.layNew{bt:Bool}{t:SetTable}{es:Array (Int×Value)}{h:Int}{x:Value}(ok:dP bt t):dP bt (layNew t es h x).2.1:=by
 unfold PySem.layNew
 split
 ·rename_i slot wd e
  dsimp only
  unfold SetTable.orStandIn
  split
  ·exact ok.put (C2 e)
  ·exact(ok.put (C2 e)).standIn _
 ·exact ok.standIn _
theorem L8(n:Nat)(φ:Nat->Option Nat):jk (((List.range n).filterMap fun j=>(φ j).map (j,·)).map (·.1)).toArray:=by
  have hp:(((List.range n).filterMap fun j=>(φ j).map (j,·)).map (·.1)).Pairwise (· < ·):=by
    have hs:List.Sublist (((List.range n).filterMap fun j=>(φ j).map (j,·)).map (·.1)) (List.range n):=by
      induction List.range n with
      |nil=>simp
      | cons a r ih =>
        rw[n9]
        cases φ a with
        |none=>exact ih.cons a
        |some y=>exact ih.cons₂ a
    exact List.pairwise_lt_range.sublist hs
  intro i j x y hij ex ey
  rw[Fj] at ex ey
  obtain⟨hi,rfl⟩:=bh.mp ex
  obtain⟨hj,rfl⟩:=bh.mp ey
  exact qa.mp hp i j hi hj hij
theorem dP.PR{bt:Bool}{t:SetTable}{es:Array (Int×Value)}{n:Nat}(ok:dP bt t):dP bt (relayAll t es n).2.1:=by
  unfold relayAll
  split
  · rename_i t' order e
    dsimp only
    split
    · unfold SetTable.relaid SetTable.laid at e
      cases hl:SetTable.layClean (SetTable.sizeAbove n-1) (es.map (·.1)) with
      |none=>rw[hl] at e;cases e
      | some owner =>
        rw[hl] at e
        cases e
        exact⟨ok.led,fun _=>L8 _ _⟩
    · exact ok.standIn _
  · exact ok.standIn _
theorem dP.fresh{bt:Bool}:dP bt (.fresh 0 0 (!bt)):=⟨fun h=>by rw[h];rfl,fun _ i j x y _ e=>by simp[SetTable.fresh] at e⟩
end L2
set_option maxRecDepth 100000
set_option maxHeartbeats 4000000
namespace L2
open PySem PySem.Spec PyProof.Rows
def fN(bt:Bool)(h:Heap)(a:Addr):Prop:=∀o es ep t,h.get? a=some o->o.data= .set es ep t->dP bt t
theorem fN.of{bt:Bool}{h:Heap}{a:Addr}{o:Obj}{es:Array (Int×Value)}{ep:Nat}{t:SetTable}(e:h.get? a=some o)(d:o.data= .set es ep t)(k:dP bt t):fN bt h a:=fun o' es' qW t' e' d'=>by
 rw[e] at e';cases e';rw[d] at d';cases d';exact k
theorem fN.keep{bt:Bool}{h h':Heap}{a:Addr}{o:Obj}(k:fN bt h a)(e:h.get? a=some o)(e':h'.get? a=some o):fN bt h' a:=fun o1 es ep t x d=>by
 rw[e'] at x;cases x;exact k o es ep t e d
section
variable{prog:Program}{w:World}{A:Around}{E:Value->Shared->Prop}{s:Shared}{a:Addr}{bt:Bool}
abbrev IK(prog:Program)(w:World):=intKind prog w
theorem BU{o:Obj}{es es':Array (Int×Value)}{ep:Nat}{t t':SetTable}{T:Int->Bool}{h:Heap}(g1:h.get? a=some o)(g2:o.ExactSet)(g3:o.data= .set es ep t)(l1:ElemsOf (IK prog w) es'.toList)
  (l2:∀k,T k=true↔∃e∈es'.toList,(IK prog w).is k e.2=true) (l3:es'.size<scanBound) (l4:t'.fits es'.size=true) (tk:dP bt t'):
  (∃o',(h.update a (Obj.putSet es' t')).get? a=some o'/\o'.ExactSet/\o'.data= .set es' (ep+1) t')/\(h.update a (Obj.putSet es' t')).SetOf (IK prog w) a T es'.size/\fN bt (h.update a (Obj.putSet es' t')) a:=by
 obtain⟨q1,q2⟩:=SetOf_store (knd:=IK prog w) (es':=es') (t':=t') (S':=T) g1 g2 g3 l1 l2 l3 l4
 exact⟨⟨_,q1,g2,rfl⟩,q2, .of q1 rfl tk⟩
theorem C3{gg:Bool->Sem Unit}(Mp:∀(b:Bool) (s₁:Shared) (Q₁:Unit->Shared->Prop),Q₁ () s₁->wpAny (model prog w) A (gg b) Q₁ E s₁){o:Obj}{es:Array (Int×Value)}{ep:Nat}{t:SetTable}
    (g1:s.heap.get? a=some o) (g2:o.ExactSet) (g3:o.data= .set es ep t) {es1:Array (Int×Value)} {t2:SetTable} {T:Int->Bool} (l1:ElemsOf (IK prog w) es1.toList) (l2:∀k,T k=true↔∃e∈es1.toList,(IK prog w).is k e.2=true)
    (l3:es1.size<scanBound) (l4:t2.fits es1.size=true) (tk:dP bt t2) {wd:Bool} {R:Option Bool->Shared->Prop}
    (fin:∀h',Heap.SameBut a s.heap h'->h'.SetOf (IK prog w) a T es1.size->fN bt h' a->R (some true) {s with heap:=h'}):
    wpAny (model prog w) A (do storeSet a es1 t2
                               if(!wd && t2.tooFull)=true then do
                                 gg (relayAll t2 es1 (SetTable.grown es1.size)).2.2
                                 storeSet a (relayAll t2 es1 (SetTable.grown es1.size)).1 (relayAll t2 es1 (SetTable.grown es1.size)).2.1
                                 pure (some true)
                               else pure (some true)) R E s:=by
  obtain⟨⟨o1,k1,k2,k3⟩,q1,q2⟩:=BU (T:=T) g1 g2 g3 l1 l2 l3 l4 tk
  have sb:=Heap.SameBut.update s.heap a (Obj.putSet es1 t2)
  refine wpAny_bind (wpAny_storeSet_of g1 g3 ?_ (fits_of_scanBound l3))
  by_cases c:(!wd && t2.tooFull)=true
  · rw[if_pos c]
    have pp:=relayAll_perm t2 es1 (SetTable.grown es1.size)
    have pf:=relayAll_fits t2 es1 (SetTable.grown es1.size)
    have pt:=tk.PR (es:=es1) (n:=SetTable.grown es1.size)
    generalize relayAll t2 es1 (SetTable.grown es1.size)=Z at pp pf pt⊢
    obtain⟨Gr,t3,Od⟩:=Z
    dsimp only at pp pf pt⊢
    have sz:Gr.size=es1.size:=by have:=pp.length_eq;rwa[gb,gb] at this
    have Lw:∀k,T k=true↔∃e∈Gr.toList,(IK prog w).is k e.2=true:=fun k=>(l2 k).trans ⟨fun⟨e,m,z⟩=>⟨e,pp.mem_iff.mpr m,z⟩,fun⟨e,m,z⟩=>⟨e,pp.mem_iff.mp m,z⟩⟩
    obtain⟨_,r1,r2⟩:=BU (T:=T) k1 k2 k3 (l1.perm pp) Lw (by rw[sz];exact l3) pf pt
    refine wpAny_bind (Mp _ _ _ (wpAny_bind (wpAny_storeSet_of k1 k3 ?_ (fits_of_scanBound (by rw[sz];exact l3)))))
    rw[sz] at r1
    exact wpAny_pure (fin _ (sb.trans (Heap.SameBut.update _ a _)) r1 r2)
  · rw[if_neg c]
    exact wpAny_pure (fin _ sb q1 q2)
theorem Tw{S:Int->Bool}{n:Nat}{k:Int}{x:Value}{Q:Bool->Shared->Prop}(hx:(IK prog w).is k x=true)(sc:x.scannable=true)(hS:s.heap.SetOf (IK prog w) a S n)(hT:fN bt s.heap a)(room:n+1<scanBound)
    (fin:∀h',Heap.SameBut a s.heap h'->h'.SetOf (IK prog w) a (fun j=>S j||decide (j=k)) (if S k then n else n+1)->fN bt h' a->Q (!S k) {s with heap:=h'}):
    wpAny (model prog w) A (setAddHashed a x ((IK prog w).hash k)) Q E s:=by
  obtain⟨o,es,ep,t,g1,g2,g3,l1,l2,l3,l4,sz⟩:=hS
  have tk:=hT o es ep t g1 g3
  unfold setAddHashed setAddHashedIn
  refine wpAny_holding (wpAny_bind (wpAny_setState_of g1 g3 l4 ?_))
  dsimp only
  rw[if_pos (byScan_of sc l3 l1)]
  unfold setAddByScan
  refine wpAny_bind (wpAny_bind (wpAny_rule (wpAny_bind (wpAny_setScan_of hx g1 g3 l4 l1 ?_))))
  cases fr:List.findIdx? (fun e=>(IK prog w).is k e.2) es.toList with
  | some j =>
    obtain⟨hj,pj,_⟩:=List.findIdx?_eq_some_iff_getElem.mp fr
    have yes:S k=true:=(l2 k).mpr ⟨_,dZ hj,pj⟩
    have z:=fin s.heap (.refl a s.heap) ⟨o,es,ep,t,g1,g2,g3,l1,fun j=>by
      rw[Bool.or_eq_true,decide_eq_true_eq,<-l2 j]
      exact⟨fun q=>q.elim id fun e=>e▸yes, .inl⟩,l3,l4,by rw[if_pos yes];exact sz⟩ hT
    rw[yes] at z
    exact wpAny_pure (wpAny_pure z)
  | none =>
    have no:S k=false:=by
      cases q:S k with
      |false=>rfl
      | true =>
        obtain⟨e,m,p⟩:=(l2 k).mp q
        rw[List.findIdx?_eq_none_iff.mp fr e m] at p;cases p
    have pp:=layNew_perm t es ((IK prog w).hash k) x
    have pf:=layNew_fits t es ((IK prog w).hash k) x
    have pt:=tk.layNew (es:=es) (h:=(IK prog w).hash k) (x:=x)
    dsimp only
    generalize layNew t es ((IK prog w).hash k) x=Z at pp pf pt⊢
    obtain⟨es1,t1,wd,Od⟩:=Z
    dsimp only at pp pf pt⊢
    rw[Array.toList_push] at pp
    have jY:es1.size=n+1:=by have:=pp.length_eq;rw[cO,gb,gb,sz] at this;exact this
    have fin':∀h',Heap.SameBut a s.heap h'->h'.SetOf (IK prog w) a (fun j=>S j||decide (j=k)) es1.size->fN bt h' a->Q true {s with heap:=h'}:=fun h' x1 x2 x3=>by
      have:=fin h' x1;rw[no,if_neg c8] at this;rw[jY] at x2;exact this x2 x3
    have gw:∀(b:Bool) (s₁:Shared) (Q₁:Unit->Shared->Prop),Q₁ () s₁->wpAny (model prog w) A (match b with|true=>rule "set.scan.the-table-gave-way" |false=>pure ()) Q₁ E s₁:=fun b s₁ Q₁ q=>by
      cases b
      · exact wpAny_pure q
      · exact wpAny_rule q
    refine wpAny_bind (gw _ _ _ ?_)
    have e1:=(l1.push hx sc).perm pp
    have e2:=mem_push_iff hx l2 pp
    have e3:es1.size<scanBound:=by rw[jY];exact room
    by_cases pl:t1.plain=true
    · rw[if_pos pl,hashByValue_scannable 8 sc]
      refine wpAny_bind (wpAny_pure ?_)
      refine C3 gw g1 g2 g3 e1 e2 e3 ?_ ?_ fun h' x1 x2 x3=>wpAny_pure (fin' h' x1 x2 x3)
      · split
        · exact pf
        · exact SetTable.fits_plain_off pf
      · split
        · exact pt
        · exact pt.off
    · rw[if_neg pl]
      refine wpAny_bind (wpAny_pure ?_)
      rw[if_pos rfl]
      exact C3 gw g1 g2 g3 e1 e2 e3 pf pt fun h' x1 x2 x3=>wpAny_pure (fin' h' x1 x2 x3)
end
end L2
set_option maxRecDepth 100000
set_option maxHeartbeats 4000000
namespace L2
open PySem PySem.Spec PyProof.Rows
section
variable{prog:Program}{w:World}{A:Around}{R:Result->Shared->Prop}{I:Addr}{fp wr:List Addr}{G:Array GenState->Array GenState->Prop}{n:Nat}{P:Nat->Value->Prop}{St:Nat->Shared->Prop}{bt:Bool}
abbrev met(val:Nat->Int)(i:Nat):Int->Bool:=fun k=>(firstMet val i).any (· ==k)
theorem Ow(W:WalksS prog w A.in1 I fp wr G n P St)(C:Addr)(nC:C∉fp)(val:Nat->Int)(hv:∀i v,P i v->∃t,v= .int (val i) t)(room:n+1<scanBound)(fuel:Nat):
    ∀(i:Nat) (s:Shared),n-i=fuel->i<=n->St i s->s.heap.SetOf (IK prog w) C (met val i) (firstMet val i).length->fN bt s.heap C->
      (∀s',Moved (C::wr) G s s'->s'.heap.SetOf (IK prog w) C (met val n) (firstMet val n).length->fN bt s'.heap C->R (.ok (.ret .none)) s')->
      codeAny (model prog w) A (.builtin "set.update.loop" ⟨[.ref C, .ref I],[]⟩) R s:=by
  have nw:C∉wr:=fun z=>nC (W.sub _ z)
  have up:∀b∈wr,b∈C::wr:=fun b z=>cA _ z
  have mv:∀{s s':Shared} {T:Int->Bool} {m:Nat},Moved wr G s s'->s.heap.SetOf (IK prog w) C T m->fN bt s.heap C->s'.heap.SetOf (IK prog w) C T m/\fN bt s'.heap C:=fun mo q tt=>by
    obtain⟨o,es,ep,t,ho,r⟩:=q
    exact⟨⟨o,es,ep,t,mo.heap C _ nw ho,r⟩,tt.keep ho (mo.heap C _ nw ho)⟩
  induction fuel with
  | zero =>
    intro i s e1 e2 st q tt fin
    obtain rfl:i=n:=by omega
    refine codeAny_builtin F.entry_set_update_loop ?_
    rw[kh zA _]
    refine wpAny_bind (W.done s _ _ st fun s' mo=>?_)
    exact wpAny_pure (fin s' (mo.mono up) (mv mo q tt).1 (mv mo q tt).2)
  | succ fuel ih =>
    intro i s e1 e2 st q tt fin
    have lt:i<n:=by omega
    refine codeAny_builtin F.entry_set_update_loop ?_
    rw[kh zA _]
    refine wpAny_bind (W.item i s _ _ lt st fun v s' hP st' mo=>?_)
    obtain⟨tok,rfl⟩:=hv i v hP
    obtain⟨q',N9⟩:=mv mo q tt
    show wpAny _ A.in1 (holding [Value.int (val i) tok] (setAdd C (.int (val i) tok))>>=_) _ _ s'
    unfold setAdd
    refine wpAny_bind (wpAny_holding (wpAny_holding (wpAny_bind ((IK prog w).pyHash (k:=val i) (intKind_is _ _ _ _) ?_))))
    refine Tw (bt:=bt) (s:={s' with toks:=s'.toks+1}) (intKind_is _ _ _ _) rfl q' N9 (by have:=firstMet_length_le val i;omega) fun h' sb q2 Sh=>?_
    have q3:h'.SetOf (IK prog w) C (met val (i+1)) (firstMet val (i+1)).length:=SetOf_congr q2 (fun j=>by unfold met;rw[firstMet_succ,step_any]) (by rw[firstMet_succ,step_length])
    refine wpAny_pure ⟨plainId_quiet zA _,ih (i+1) _ (by omega) lt (W.frame _ s' _ _ st' (jc _) fun b hb o e=>?_) q3 Sh fun s2 Lj q4 Su=>?_⟩
    · rw[sb.2 b fun z:b=C=>nC (z▸hb)];exact e
    · refine fin s2 (Moved.trans W.gtrans ((mo.mono up).then_heap (jc _) fun b o hb e=>?_) Lj) q4 Su
      rw[sb.2 b fun z:b=C=>hb (z▸bG)];exact e
end
section
variable{prog:Program}{w:World}{A:Around}{E:Value->Shared->Prop}{s:Shared}
abbrev eX(w:World):Bool:=w.params.followText "set-order"
abbrev jH(w:World):Obj:={cls:= .type "set",dict:=none,data:= .set #[] 0 (.fresh 0 0 (!eX w))}
theorem Qx(a:Value){Q₁:Value->Shared->Prop}(fin:Q₁ (.ref s.heap.objs.size) {s with heap:=s.heap.push (jH w)}):codeAny (model prog w) A (.call (.builtin "set.__new__") ⟨[.type "set",a],[]⟩) (wants Q₁ E) s:=by
 refine codeAny_of_tree ?_
 show wpAny _ A.in1 (do checkBuiltinCall "set.__new__" ⟨[.type "set",a],[]⟩;again (.builtin "set.__new__" ⟨[.type "set",a],[]⟩)) _ _ s
 refine wpAny_bind (wpAny_of_eq (F.newCall_set_1 a) (wpAny_pure ⟨plainId_quiet F.plain_set_new _,codeAny_builtin F.entry_set_new ?_⟩))
 rw[kh F.plain_set_new _]
 unfold Builtin.«set.__new__» Builtin.Frozenset.newClass
 have hsub:=sub_set_self
 obtain⟨hp,g,d,tk,os⟩:=s
 dsimp only at fin⊢
 wp_walk
 refine wpAny_askSetting (wpAny_pure ?_)
 dsimp only
 simp only[newObj]
 exact wpAny_bind (wpAny_alloc (wpAny_pure (wpAny_pure fin)))
theorem R9{l:Addr}{items:Array Value}{ns:List Int}{Q:Value->Shared->Prop}(hh:A.handled=none)(hl:s.heap.IsList l items)(hi:IntsAre items.toList ns)(room:items.size+1<scanBound)
    (fin:∀(h':Heap) (tk:Nat),h'.SetOf (IK prog w) s.heap.objs.size (met (fun i=>ns.getD i 0) items.size) (firstMet (fun i=>ns.getD i 0) items.size).length->fN (eX w) h' s.heap.objs.size->
      (∀b o,b<s.heap.objs.size->s.heap.get? b=some o->h'.get? b=some o)->Q (.ref s.heap.objs.size) {s with heap:=h',toks:=tk}):wpAny (model prog w) A (call (.type "set") [.ref l]) Q E s:=by
  obtain⟨c,tl,Uu⟩:=kG.mro
  have hmade:=kG.made
  have hsub:=kG.sub
  have h1:=kG.notType
  have h2:=kG.canCreate
  have hct:=F.typeCall_set_1 (.ref l)
  refine wpAny_call (codeAny_of_tree ?_)
  show wpAny _ _ (callAny (.type "set") _) _ _ _
  refine wpAny_pure ⟨Code.quiet_builtin _ (by decide+kernel),codeAny_builtin F.entry_type_call ?_⟩
  rw[Around.under_plain (weight_type_call_type "set" [.ref l] []) rfl]
  repeat (any_goals (first|assumption|wp_step))
  refine codeAny_mono (Qx (.ref l) (E:=E) (Q₁:=fun obj s₁=>obj= .ref s.heap.objs.size/\s₁={s with heap:=s.heap.push (jH w)}) ⟨rfl,rfl⟩) fun r s₁ hr=>?_
  cases r with
  |error e=>exact hr
  | ok fl =>
    cases fl with
    | ret obj =>
      obtain⟨rfl,rfl⟩:=hr
      have hS:(s.heap.push (jH w)).get? s.heap.objs.size=some (jH w):=eF _ rfl
      have hT:Shared.TypeIs {s with heap:=s.heap.push (jH w)} (.ref s.heap.objs.size) "set":=⟨_,hS,rfl⟩
      have hli:=kG.init.lookup
      have hbi:=kG.init.bind (.ref s.heap.objs.size)
      repeat (any_goals (first|assumption|wp_step))
      refine codeAny_mono (codeAny_call_builtin (R:=wants (fun r s₂=>r= .none/\∃h' tk,s₂={s with heap:=h',toks:=tk}/\h'.SetOf (IK prog w) s.heap.objs.size (met (fun i=>ns.getD i 0) items.size) (firstMet (fun i=>ns.getD i 0) items.size).length/\fN (eX w) h' s.heap.objs.size/\
          (∀b o,b<s.heap.objs.size->s.heap.get? b=some o->h'.get? b=some o)) E) kG.init.plain F.entry_set_init (check_set_init_1 hT ?_)) fun r₂ s₂ xR=>?_
      · obtain⟨ol,iG,hcl,nl,hdl⟩:=hl
        obtain⟨UY,UE,Vm,UI⟩:=ol
        simp only at hcl hdl
        subst hcl;subst hdl
        have Rg:=bw (jH w) iG
        have Uz:=F.sub_list_set
        have Ul:=F.sub_list_frozenset
        have hne:(Value.type "list"==Value.type "dict")=false:=by decide
        have hl1:(s.heap.push (jH w)).IsList l items:=⟨_,Rg,rfl,nl,rfl⟩
        unfold Builtin.«set.__init__» noKeywords Builtin.Frozenset.updateFrom
        generalize Ko:pyIter=PI
        wp_walk
        subst Ko
        refine wpAny_pyIter_list hl1 (wpAny_bind (wpAny_runValue ?_))
        have hlS:l<s.heap.objs.size:=aW iG
        have jY:(s.heap.push (jH w)).objs.size=s.heap.objs.size+1:=lg ..
        have n1:l≠(s.heap.push (jH w)).objs.size:=by rw[jY];exact bK (jq hlS)
        have n2:s.heap.objs.size∉[(s.heap.push (jH w)).objs.size,l]:=by
          rw[jY];intro z;rcases aH.mp z with z|z
          · exact absurd z (bK (p7 _))
          · exact absurd (bS.mp z) (lC hlS)
        have h3:A.in1.in1.in1.handled=none:=by simp[hh]
        have hS':=bw ({cls:= .type "list_iterator",data:= .fields #[.ref l, .int 0 0]}:Obj) hS
        refine Ow (bt:=eX w) ((Walks.list h3 _ l n1 items).toS) s.heap.objs.size n2 (fun i=>ns.getD i 0) (fun i v e=>IntsAre.int_at hi i v (by rw[lz];exact e)) room (items.size-0) 0 _ (by omega) (fF _)
          ⟨⟨_,eF _ rfl,rfl,rfl⟩,(hl1.push _)⟩ (SetOf_congr ((setObjOf_fresh (knd:=IK prog w) (!eX w)).setOf hS' (by unfold scanBound;omega)) (fun _=>rfl) rfl) (.of hS' rfl .fresh) ?_
        intro s' mo q tt
        obtain⟨h',g',d',tk',os'⟩:=s'
        obtain rfl:g'=s.gens:=mo.gens
        obtain rfl:d'=s.drawn:=mo.drawn
        obtain rfl:os'=s.os:=mo.os
        refine wpAny_pure (wpAny_pure ⟨rfl,h',tk',rfl,q,tt,fun b o hb e=>?_⟩)
        refine mo.heap b o (fun z=>?_) (bw _ (bw _ e))
        rcases aH.mp z with z|z
        · exact absurd z (bK hb)
        · rw[jY] at z;exact absurd (bS.mp z) (bK (jq hb))
      · cases r₂ with
        |error e=>exact xR
        | ok fl₂ =>
          cases fl₂ with
          | ret r =>
            obtain⟨rfl,h',tk,rfl,q1,q2,q3⟩:=xR
            repeat (any_goals (first|assumption|wp_step))
            exact fin _ _ q1 q2 q3
          |_=>exact xR.elim
    |_=>exact hr.elim
end
end L2
set_option maxRecDepth 100000
set_option maxHeartbeats 4000000
namespace L2
open PySem PySem.Spec PyProof.Rows
theorem iC:Slot "set_iterator" "__next__" "set_iterator.__next__":= .of (owner:="set_iterator") (n:="__next__") (by rw[typeLookup_type,builtinLookup_eq_fast];kernel_rfl) (by decide+kernel) (by decide+kernel) (by decide+kernel) (by first|exact .inl (by decide+kernel)|exact .inr (by decide+kernel)) (by rw[isSubtype_type];kernel_rfl)
theorem sr:entryFor table "set_iterator.__next__"=some Builtin.«set_iterator.__next__» :=entryFor_of_tree (by kernel_rfl)
theorem su(a:Value):argsOk "set_iterator.__next__" ⟨[a],[]⟩:=by unfold argsOk;kernel_rfl
theorem Fe:Slot "set" "__iter__" "set.__iter__":= .of (owner:="set") (n:="__iter__") (by rw[typeLookup_type,builtinLookup_eq_fast];kernel_rfl) (by decide+kernel) (by decide+kernel) (by decide+kernel) (by first|exact .inl (by decide+kernel)|exact .inr (by decide+kernel)) (by rw[isSubtype_type];kernel_rfl)
theorem S7:entryFor table "set.__iter__"=some Builtin.«frozenset.__iter__» :=entryFor_alias (id':="frozenset.__iter__") (by kernel_rfl) rfl (by decide+kernel) (by kernel_rfl)
theorem KZ(a:Value):argsOk "set.__iter__" ⟨[a],[]⟩:=by unfold argsOk;kernel_rfl
theorem nW:Slot "set_iterator" "__iter__" "set_iterator.__iter__":= .of (owner:="set_iterator") (n:="__iter__") (by rw[typeLookup_type,builtinLookup_eq_fast];kernel_rfl) (by decide+kernel) (by decide+kernel) (by decide+kernel) (by first|exact .inl (by decide+kernel)|exact .inr (by decide+kernel)) (by rw[isSubtype_type];kernel_rfl)
theorem yY:entryFor table "set_iterator.__iter__"=some Builtin.«dict_keyiterator.__iter__» :=entryFor_alias (id':="dict_keyiterator.__iter__") (by kernel_rfl) rfl (by decide+kernel) (by kernel_rfl)
theorem ym(a:Value):argsOk "set_iterator.__iter__" ⟨[a],[]⟩:=by unfold argsOk;kernel_rfl
end L2
set_option maxRecDepth 100000
set_option maxHeartbeats 4000000
namespace L2
open PySem PySem.Spec PyProof.Rows
section
variable{prog:Program}{w:World}{A:Around}{E:Value->Shared->Prop}{s:Shared}{a it tp:Addr}{o:Obj}{es:Array (Int×Value)}{ep:Nat}{t:SetTable}
theorem zl{α:Type}:∀{l:List α} {i:Nat} (h:i<l.length),(l[i]::l.eraseIdx i).Perm l
  |b::r,0,_=>by simp
  | b :: r, i + 1, h => by
    have:=zl (l:=r) (i:=i) (by simpa using h)
    simp only[List.getElem_cons_succ,List.eraseIdx_cons_succ]
    exact(List.Perm.swap b _ _).trans (this.cons b)
theorem yq{α:Type}(nx:Nat->Nat):∀(f k:Nat) (l:List α) (out:Array α),l.length<=f->(pickOrder.go nx f k l out).toList.Perm (out.toList++l):=by
  intro f
  induction f with
  | zero =>
    intro k l out h
    have:l=[]:=mz.mp (by omega)
    subst this
    unfold pickOrder.go
    simp
  | succ f ih =>
    intro k l out h
    unfold pickOrder.go
    cases l with
    |nil=>simp
    | cons b r =>
      have hlt:nx k%(b::r).length<(b::r).length:=sX _ (by simp)
      rw[aB hlt]
      dsimp only
      refine(ih (k+1) _ _ (by rw[Cs hlt];omega)).trans ?_
      rw[Array.toList_push,pL]
      refine Ff _ ?_
      exact zl hlt
theorem GB(bt:eX w=true)(g1:s.heap.get? a=some o)(g3:o.data= .set es ep t)(g4:t.fits es.size=true){i sl:Nat}{Q:Option (Value×Nat)->Shared->Prop}
  (h:Q (((pickOrder (w.params.setOrder a ep) es)[i]?).map fun e=>(e.2,sl)) s):wpAny (model prog w) A (setNext a sl i ep) Q E s:=by
 unfold setNext
 refine wpAny_bind (wpAny_setState_of g1 g3 g4 ?_)
 dsimp only
 unfold setsByText
 refine wpAny_bind (wpAny_bind (wpAny_askSetting (wpAny_pure ?_)))
 show wpAny _ _ (if eX w=true then _ else _) _ _ _
 rw[if_pos bt]
 rw[if_neg (by simp)]
 refine wpAny_bind ?_
 unfold setWalk
 refine wpAny_bind (wpAny_setState_of g1 g3 g4 ?_)
 dsimp only
 unfold setsByText
 refine wpAny_bind (wpAny_bind (wpAny_askSetting (wpAny_pure ?_)))
 show wpAny _ _ (if eX w=true then _ else _) _ _ _
 rw[if_pos bt]
 refine wpAny_bind (wpAny_askSetting (wpAny_pure ?_))
 exact wpAny_pure h
theorem BQ(bt:eX w=false)(g1:s.heap.get? a=some o)(g3:o.data= .set es ep t)(g4:t.fits es.size=true)(tk:dP (eX w) t)(pl:t.plain=true\/es.size<=1){i sl:Nat}{Q:Option (Value×Nat)->Shared->Prop}
  (h:Q (match es[SetTable.below t.place sl]?,t.place[SetTable.below t.place sl]? with|some (_,x),some j=>some (x,j+1)|_,_=>none) s):wpAny (model prog w) A (setNext a sl i ep) Q E s:=by
 unfold setNext
 refine wpAny_bind (wpAny_setState_of g1 g3 g4 ?_)
 dsimp only
 unfold setsByText
 refine wpAny_bind (wpAny_bind (wpAny_askSetting (wpAny_pure ?_)))
 show wpAny _ _ (if eX w=true then _ else _) _ _ _
 rw[bt,if_neg c8]
 show wpAny _ _ (if(!t.plain && decide (es.size>1))=true then _ else _) _ _ _
 rw[if_neg (by
  intro z
  rw[cK,Bool.not_eq_true',decide_eq_true_eq] at z
  rcases pl with p|p
  ·rw[p] at z;cases z.1
  ·omega)]
 refine wpAny_bind ?_
 show wpAny _ _ (if(!t.led && !es.isEmpty)=true then _ else _) _ _ _
 rw[if_neg (by rw[tk.led bt];simp)]
 refine wpAny_pure ?_
 exact wpAny_pure h
theorem S2(g1:s.heap.get? a=some o)(g3:o.data= .set es ep t)(g4:t.fits es.size=true){pl:Nat}{hx:Int}{x:Value}{Q:Value->Shared->Prop}(e:es[pl]?=some (hx,x))(h:Q x s):wpAny (model prog w) A (setNextDrawn a pl ep) Q E s:=by
 unfold setNextDrawn
 refine wpAny_bind (wpAny_setState_of g1 g3 g4 ?_)
 dsimp only
 rw[if_neg (by simp)]
 rw[e]
 exact wpAny_pure h
def jg(h:Heap)(it a:Addr)(first:Value)(i n ep:Nat):Prop:=∃o,h.get? it=some o/\o.cls= .type "set_iterator" /\o.data= .fields #[first, .int i 0, .ref a, .int n 0, .int ep 0]
theorem jg.ty{first:Value}{i n:Nat}(h:jg s.heap it a first i n ep):s.TypeIs (.ref it) "set_iterator":=let ⟨o,e,c,_⟩:=h;⟨o,e,c⟩
theorem rY{first:Value}{i n:Nat}{QQ:Fin->Shared->Prop}{EE:Value->Shared->Prop}(hit:jg s.heap it a first i n ep)(g1:s.heap.get? a=some o)(g3:o.data= .set es ep t)(g4:t.fits es.size=true)(hn:es.size=n)
    (h:wpAny (model prog w) A (match first with
      | .int slot _ => (do
        match<-setNext a slot.toNat i ep with
        | some (x, next) => do
          setField (.ref it) 0 (rawInt next)
          setField (.ref it) 1 (rawInt ((i:Int)+1))
          ret x
        | none => do
          setField (.ref it) 2 .none
          raiseNew (<-newExc (.type "StopIteration") []))
      | _ => (do
        let some places<-seqItems? first|unsupported "internal:set_iterator"
        match places[i]? with
        | some (.int place _) => do
          let x<-setNextDrawn a place.toNat ep
          setField (.ref it) 1 (rawInt ((i:Int)+1))
          ret x
        |some _=>unsupported "internal:set_iterator"
        | none => do
          setField (.ref it) 0 (rawInt 0)
          setField (.ref it) 2 .none
          raiseNew (<-newExc (.type "StopIteration") []))) QQ EE s):wpAny (model prog w) A (Builtin.«set_iterator.__next__» ⟨[.ref it],[]⟩) QQ EE s:=by
  obtain⟨oi,ho,hc,hd⟩:=hit
  unfold Builtin.«set_iterator.__next__»
  refine wpAny_bind (wpAny_pure ?_)
  refine wpAny_bind (wpAny_fieldsOf ho hd ?_)
  dsimp only
  refine wpAny_bind (wpAny_setEntries_of g1 g3 g4 ?_)
  rw[if_neg (by rw[hn];simp)]
  cases first<;>exact h
theorem uo{h:Heap}{first:Value}{i n k:Nat}{x:Value}{oi:Obj}{vs:Array Value}(ho:h.get? it=some oi)(hc:oi.cls= .type "set_iterator")(hd:oi.data= .fields vs):
  (h.update it (Obj.mapFields (·.setIfInBounds k x))).get? it=some (Obj.mapFields (·.setIfInBounds k x) oi)/\(Obj.mapFields (·.setIfInBounds k x) oi).cls= .type "set_iterator" /\(Obj.mapFields (·.setIfInBounds k x) oi).data= .fields (vs.setIfInBounds k x):=by
 refine⟨tX _ ho (Obj.isFreed_of_fields (Obj.data_mapFields hd _)),(Obj.cls_mapFields ..).trans hc,Obj.data_mapFields hd _⟩
theorem Hf{sl i n nx:Nat}{x:Value}{Q:Option Value->Shared->Prop}(hit:jg s.heap it a (.int sl 0) i n ep)(g1:s.heap.get? a=some o)(g3:o.data= .set es ep t)(g4:t.fits es.size=true)(hn:es.size=n)
  (hN:∀(Q:Option (Value×Nat)->Shared->Prop) (E:Value->Shared->Prop),Q (some (x,nx)) s->wpAny (model prog w) A.in1 (setNext a sl i ep) Q E s)
  (hQ:∀h',jg h' it a (.int nx 0) (i+1) n ep->(∀b,b≠it->h'.get? b=s.heap.get? b)->Q (some x) {s with heap:=h'}):wpAny (model prog w) A (pyNext (.ref it)) Q E s:=by
 obtain⟨oi,ho,hc,hd⟩:=id hit
 unfold pyNext
 refine wpAny_bind (wpAny_attempt (wpAny_callSpecial?_slot (name:=Str.ofString "__next__") hit.ty iC (wpAny_call_entry iC hit.ty sr ?_ (su _))))
 refine rY hit g1 g3 g4 hn ?_
 dsimp only
 refine wpAny_bind (hN _ _ ?_)
 dsimp only
 obtain⟨u1,u2,u3⟩:=uo (first:= .none) (i:=0) (n:=0) (k:=0) (x:=rawInt nx) ho hc hd
 obtain⟨w1,w2,w3⟩:=uo (first:= .none) (i:=0) (n:=0) (k:=1) (x:=rawInt ((i:Int)+1)) u1 u2 u3
 refine wpAny_bind (wpAny_setField ho hd (by simp) ?_)
 refine wpAny_bind (wpAny_setField u1 u3 (by simp) ?_)
 refine wpAny_pure ⟨x,rfl,wpAny_pure (hQ _ ⟨_,w1,w2,?_⟩ fun b hb=>?_)⟩
 ·rw[w3];simp[rawInt]
 ·exact((jS _ _ (bB hb))).trans (jS _ _ (bB hb))
theorem E1{QQ:Fin->Shared->Prop}{B:Around}{Q:Option Value->Shared->Prop}(hh:B.handled=none)(hQ:∀o1 o2,Q none {s with heap:=(s.heap.push o1).push o2}):wpAny (model prog w) B (do raiseNew (<-newExc (.type "StopIteration") [])) QQ
  (fun e s'=>wpAny (model prog w) A (do if<-isInstance e (.type "StopIteration") then pure none else throw e) Q E s') s:=by
 refine wpAny_bind ?_
 simp only[newExc,newTuple]
 refine wpAny_bind (wpAny_newObj_type ?_ (by size_fits))
 refine wpAny_bind (m:=firstArgMember _ _) (wpAny_of_eq (a:=Value.none) (by first|rfl|(simp only[firstArgMember];rfl)) (wpAny_newObj_type ?_ (by size_fits)))
 simp only[raiseNew]
 refine wpAny_bind (wpAny_handled ?_)
 rw[hh]
 refine wpAny_bind (wpAny_pure (wpAny_throw ?_))
 refine wpAny_bind (wpAny_isInstance (b:=true) (T:="StopIteration") ⟨_,eF _ rfl,rfl⟩ isSubtype_stop ?_)
 exact wpAny_pure (hQ _ _)
theorem G0{sl i n:Nat}{Q:Option Value->Shared->Prop}(hh:A.handled=none)(hit:jg s.heap it a (.int sl 0) i n ep)(g1:s.heap.get? a=some o)(g3:o.data= .set es ep t)(g4:t.fits es.size=true)(hn:es.size=n)
  (hN:∀(Q:Option (Value×Nat)->Shared->Prop) (E:Value->Shared->Prop),Q none s->wpAny (model prog w) A.in1 (setNext a sl i ep) Q E s)
  (hQ:∀h',(∀b o,b≠it->s.heap.get? b=some o->h'.get? b=some o)->Q none {s with heap:=h'}):wpAny (model prog w) A (pyNext (.ref it)) Q E s:=by
 obtain⟨oi,ho,hc,hd⟩:=id hit
 unfold pyNext
 refine wpAny_bind (wpAny_attempt (wpAny_callSpecial?_slot (name:=Str.ofString "__next__") hit.ty iC (wpAny_call_entry iC hit.ty sr ?_ (su _))))
 refine rY hit g1 g3 g4 hn ?_
 dsimp only
 refine wpAny_bind (hN _ _ ?_)
 dsimp only
 refine wpAny_bind (wpAny_setField ho hd (by simp) ?_)
 exact E1 (B:=A.in1) hh fun o1 o2=>hQ _ fun b o hb e=>bw _ (bw _ ((jS _ _ (bB hb)).trans e))
theorem QA{i n pl:Nat}{hx:Int}{x:Value}{cT:Array Value}{Q:Option Value->Shared->Prop}(hit:jg s.heap it a (.ref tp) i n ep)(g1:s.heap.get? a=some o)(g3:o.data= .set es ep t)(g4:t.fits es.size=true)(hn:es.size=n)
  (htp:∃ot m,s.heap.get? tp=some ot/\ot.data= .seq cT m) (hp:cT[i]?=some (.int pl 0)) (he:es[pl]?=some (hx,x))
  (hQ:∀h',jg h' it a (.ref tp) (i+1) n ep->(∀b,b≠it->h'.get? b=s.heap.get? b)->Q (some x) {s with heap:=h'}):wpAny (model prog w) A (pyNext (.ref it)) Q E s:=by
 obtain⟨oi,ho,hc,hd⟩:=id hit
 obtain⟨ot,m,t1,t2⟩:=htp
 unfold pyNext
 refine wpAny_bind (wpAny_attempt (wpAny_callSpecial?_slot (name:=Str.ofString "__next__") hit.ty iC (wpAny_call_entry iC hit.ty sr ?_ (su _))))
 refine rY hit g1 g3 g4 hn ?_
 dsimp only
 refine wpAny_bind (wpAny_seqItems t1 t2 ?_)
 dsimp only
 rw[hp]
 dsimp only
 refine wpAny_bind (S2 g1 g3 g4 (by simpa using he) ?_)
 obtain⟨w1,w2,w3⟩:=uo (first:= .none) (i:=0) (n:=0) (k:=1) (x:=rawInt ((i:Int)+1)) ho hc hd
 refine wpAny_bind (wpAny_setField ho hd (by simp) (wpAny_pure ⟨x,rfl,wpAny_pure (hQ _ ⟨_,w1,w2,?_⟩ fun b hb=>jS _ _ (bB hb))⟩))
 rw[w3];simp[rawInt]
theorem Nz{i n:Nat}{cT:Array Value}{Q:Option Value->Shared->Prop}(hh:A.handled=none)(hit:jg s.heap it a (.ref tp) i n ep)(g1:s.heap.get? a=some o)(g3:o.data= .set es ep t)(g4:t.fits es.size=true)(hn:es.size=n)
  (htp:∃ot m,s.heap.get? tp=some ot/\ot.data= .seq cT m) (hp:cT[i]?=none)
  (hQ:∀h',(∀b o,b≠it->s.heap.get? b=some o->h'.get? b=some o)->Q none {s with heap:=h'}):wpAny (model prog w) A (pyNext (.ref it)) Q E s:=by
 obtain⟨oi,ho,hc,hd⟩:=id hit
 obtain⟨ot,m,t1,t2⟩:=htp
 unfold pyNext
 refine wpAny_bind (wpAny_attempt (wpAny_callSpecial?_slot (name:=Str.ofString "__next__") hit.ty iC (wpAny_call_entry iC hit.ty sr ?_ (su _))))
 refine rY hit g1 g3 g4 hn ?_
 dsimp only
 refine wpAny_bind (wpAny_seqItems t1 t2 ?_)
 dsimp only
 rw[hp]
 dsimp only
 obtain⟨u1,u2,u3⟩:=uo (first:= .none) (i:=0) (n:=0) (k:=0) (x:=rawInt 0) ho hc hd
 refine wpAny_bind (wpAny_setField ho hd (by simp) (wpAny_bind (wpAny_setField u1 u3 (by simp) ?_)))
 exact E1 (B:=A.in1) hh fun o1 o2=>hQ _ fun b o hb e=>bw _ (bw _ ((jS _ _ (bB hb)).trans ((jS _ _ (bB hb)).trans e)))
end
end L2
set_option maxRecDepth 100000
set_option maxHeartbeats 4000000
namespace L2
open PySem PySem.Spec PyProof.Rows
def slotAt(xs:Array Nat):Nat->Nat
 |0=>0
 |i+1=>xs.getD i 0+1
theorem JW(xs:Array Nat):slotAt xs 0=0:=rfl
theorem Gz(xs:Array Nat)(i:Nat):slotAt xs (i+1)=xs.getD i 0+1:=rfl
theorem Fo{xs:Array Nat}(hr:jk xs){i:Nat}(hi:i<=xs.size):SetTable.below xs (slotAt xs i)=i:=by
  obtain⟨h1,h2,h3⟩:=below_at (q:=slotAt xs i) hr
  have g:∀{j:Nat},j<xs.size->∃y,xs[j]?=some y/\xs.getD j 0=y:=fun{j} hj=>⟨xs[j],jB hj,by rw[q9,jB hj];rfl⟩
  rcases vP (SetTable.below xs (slotAt xs i)) i with z|z|z
  · obtain⟨y,e,_⟩:=g (dI z hi)
    have:=h3 _ y (aK _) e
    cases i with
    |zero=>omega
    | succ i =>
      obtain⟨y',e',d'⟩:=g (j:=i) (by omega)
      have es:=Gz xs i
      rw[d'] at es
      rcases wG (Nat.le_of_lt_succ z) with z|z
      · have:=hr _ _ _ _ z e e';omega
      · rw[z,e'] at e;cases e;omega
  · exact z
  · obtain⟨y,e,d⟩:=g (j:=i) (by omega)
    have:=h2 i y z e
    cases i with
    |zero=>rw[JW] at this;omega
    | succ i =>
      obtain⟨y',e',d'⟩:=g (j:=i) (by omega)
      rw[Gz,d'] at this
      have:=hr i (i+1) _ _ (by omega) e' e
      omega
section
variable{prog:Program}{w:World}{a I tp:Addr}{o:Obj}{es:Array (Int×Value)}{ep:Nat}{t:SetTable}
theorem EV(h:t.fits es.size=true):t.place.size=es.size:=by
 unfold SetTable.fits at h
 rw[cK] at h
 exact eq_of_beq h.1
theorem Lz{A:Around}(hh:A.handled=none)(bt:eX w=true)(g3:o.data= .set es ep t)(g4:t.fits es.size=true)(hne:a≠I):
  Walks prog w A I [I,a] [I] es.size (fun i v=>((pickOrder (w.params.setOrder a ep) es).toList.map (·.2))[i]?=some v) (fun i h=>jg h I a (.int (0:Nat) 0) i es.size ep/\h.get? a=some o) where
 sub:=fun b hb=>by simp at hb;simp[hb]
 frame:=fun i h h' st hk=>by
  obtain⟨⟨oi,h1,h2,h3⟩,h4⟩:=st
  exact⟨⟨oi,hk I (by simp) _ h1,h2,h3⟩,hk a (by simp) _ h4⟩
 item:=fun i s Q E hi st hQ=>by
  have hsz:(pickOrder (w.params.setOrder a ep) es).toList.length=es.size:=by
   have:=(yq (w.params.setOrder a ep) es.size 0 es.toList #[] (by simp)).length_eq
   simpa[pickOrder] using this
  have hlt:i<(pickOrder (w.params.setOrder a ep) es).toList.length:=by omega
  have e1:(pickOrder (w.params.setOrder a ep) es)[i]?=some (pickOrder (w.params.setOrder a ep) es).toList[i]:=by rw[<-lz];exact aB hlt
  refine Hf st.1 st.2 g3 g4 rfl (x:=(pickOrder (w.params.setOrder a ep) es).toList[i].2) (nx:=0) (fun Q E q=>GB bt st.2 g3 g4 (by rw[e1];exact q)) fun h' x1 x2=>?_
  refine hQ _ h' s.toks (by rw[aI,aB hlt];rfl) ⟨x1,(x2 a hne).trans st.2⟩ fun b o' hb e=>(x2 b (fun z=>hb (by simp[z]))).trans e
 done:=fun s Q E st hQ=>by
  have hsz:(pickOrder (w.params.setOrder a ep) es).toList.length=es.size:=by
   have:=(yq (w.params.setOrder a ep) es.size 0 es.toList #[] (by simp)).length_eq
   simpa[pickOrder] using this
  refine G0 hh st.1 st.2 g3 g4 rfl (fun Q E q=>GB bt st.2 g3 g4 (by rw[<-lz,cQ (by omega)];exact q)) fun h' x1=>hQ h' s.toks fun b o' hb e=>x1 b o' (fun z=>hb (by simp[z])) e
 self:=fun i s Q E st hQ=>by
  refine wpAny_pyIter_slot st.1.ty nW (wpAny_call_entry nW st.1.ty yY ?_ (ym _))
  exact wpAny_pure ⟨_,rfl,"set_iterator",_,st.1.ty,iC.lookup,hQ⟩
theorem Qv{A:Around}(hh:A.handled=none)(bt:eX w=false)(g3:o.data= .set es ep t)(g4:t.fits es.size=true)(tk:dP (eX w) t)(pl:t.plain=true\/es.size<=1)(hne:a≠I):
  Walks prog w A I [I,a] [I] es.size (fun i v=>(es.toList.map (·.2))[i]?=some v) (fun i h=>jg h I a (.int (slotAt t.place i) 0) i es.size ep/\h.get? a=some o) where
 sub:=fun b hb=>by simp at hb;simp[hb]
 frame:=fun i h h' st hk=>by
  obtain⟨⟨oi,h1,h2,h3⟩,h4⟩:=st
  exact⟨⟨oi,hk I (by simp) _ h1,h2,h3⟩,hk a (by simp) _ h4⟩
 item:=fun i s Q E hi st hQ=>by
  have hps:=EV g4
  have hr:jk t.place:=by
   rcases pl with p|p
   ·exact tk.zv p
   ·intro i j x y hij ex ey
    have:=(pU.mp ey).1;omega
  have hlt:i<es.toList.length:=by simpa using hi
  have e1:es[i]?=some es.toList[i]:=by rw[<-lz];exact aB hlt
  have e2:t.place[i]?=some (t.place.getD i 0):=by rw[q9,jB (by omega)];rfl
  refine Hf st.1 st.2 g3 g4 rfl (x:=es.toList[i].2) (nx:=slotAt t.place (i+1)) (fun Q E q=>BQ bt st.2 g3 g4 tk pl (by rw[Fo hr (by omega),e1,e2];exact q)) fun h' x1 x2=>?_
  refine hQ _ h' s.toks (by rw[aI,aB hlt];rfl) ⟨x1,(x2 a hne).trans st.2⟩ fun b o' hb e=>(x2 b (fun z=>hb (by simp[z]))).trans e
 done:=fun s Q E st hQ=>by
  have hps:=EV g4
  have hr:jk t.place:=by
   rcases pl with p|p
   ·exact tk.zv p
   ·intro i j x y hij ex ey
    have:=(pU.mp ey).1;omega
  refine G0 hh st.1 st.2 g3 g4 rfl (fun Q E q=>BQ bt st.2 g3 g4 tk pl (by rw[Fo hr (by omega),uX (aK _)];exact q)) fun h' x1=>hQ h' s.toks fun b o' hb e=>x1 b o' (fun z=>hb (by simp[z])) e
 self:=fun i s Q E st hQ=>by
  refine wpAny_pyIter_slot st.1.ty nW (wpAny_call_entry nW st.1.ty yY ?_ (ym _))
  exact wpAny_pure ⟨_,rfl,"set_iterator",_,st.1.ty,iC.lookup,hQ⟩
theorem SA{A:Around}{ks:List Nat}(hh:A.handled=none)(g3:o.data= .set es ep t)(g4:t.fits es.size=true)(hk:ks.Perm (List.range es.size))(hne:a≠I)(hnt:tp≠I):
    Walks prog w A I [I,a,tp] [I] es.size (fun i v=>((ks.filterMap (es[·]?)).map (·.2))[i]?=some v) (fun i h=>jg h I a (.ref tp) i es.size ep/\h.get? a=some o/\∃ot m,h.get? tp=some ot/\ot.data= .seq (ks.map fun(k:Nat)=>rawInt k).toArray m) where
  sub:=fun b hb=>by simp at hb;simp[hb]
  frame:=fun i h h' st hk=>by
    obtain⟨⟨oi,h1,h2,h3⟩,h4,ot,m,h5,h6⟩:=st
    exact⟨⟨oi,hk I (by simp) _ h1,h2,h3⟩,hk a (by simp) _ h4,ot,m,hk tp (by simp) _ h5,h6⟩
  item:=fun i s Q E hi st hQ=>by
    have hlen:ks.length=es.size:=by rw[hk.length_eq];simp
    have hin:∀k∈ks,k<es.size:=fun k m=>by simpa using hk.mem_iff.mp m
    have hi':i<ks.length:=by omega
    have hki:=hin ks[i] (dZ hi')
    have e1:es[ks[i]]?=some es[ks[i]]:=jB hki
    have fm:∀(l:List Nat),(∀k∈l,k<es.size)->∀j (hj:j<l.length),(l.filterMap (es[·]?))[j]?=es[l[j]]?:=by
      intro l
      induction l with
      |nil=>intro _ j hj;simp at hj
      | cons b r ih =>
        intro hl j hj
        have hb:=hl b (bG ..)
        rw[n9,jB hb]
        cases j with
        |zero=>simp[jB hb]
        |succ j=>simpa using ih (fun k m=>hl k (cA _ m)) j (by simpa using hj)
    refine QA st.1 st.2.1 g3 g4 rfl st.2.2 (pl:=ks[i]) (hx:=es[ks[i]].1) (x:=es[ks[i]].2) (by simp[aB hi',rawInt]) e1 fun h' x1 x2=>?_
    obtain⟨ot,m,t1,t2⟩:=st.2.2
    refine hQ _ h' s.toks ?_ ⟨x1,(x2 a hne).trans st.2.1,ot,m,(x2 tp hnt).trans t1,t2⟩ fun b o' hb e=>(x2 b (fun z=>hb (by simp[z]))).trans e
    rw[aI,fm ks hin i hi',e1];rfl
  done:=fun s Q E st hQ=>by
    have hlen:ks.length=es.size:=by rw[hk.length_eq];simp
    exact Nz hh st.1 st.2.1 g3 g4 rfl st.2.2 (by simp;omega) fun h' x1=>hQ h' s.toks fun b o' hb e=>x1 b o' (fun z=>hb (by simp[z])) e
  self:=fun i s Q E st hQ=>by
    refine wpAny_pyIter_slot st.1.ty nW (wpAny_call_entry nW st.1.ty yY ?_ (ym _))
    exact wpAny_pure ⟨_,rfl,"set_iterator",_,st.1.ty,iC.lookup,hQ⟩
end
section
variable{prog:Program}{w:World}{A:Around}{E:Value->Shared->Prop}{s:Shared}{a:Addr}{o:Obj}{es:Array (Int×Value)}{ep:Nat}{t:SetTable}
theorem Cq{α:Type}:∀l:List α,(List.range l.length).filterMap (fun i=>l[i]?)=l
  |[]=>rfl
  | x :: l => by
    have:=Cq l
    rw[ko,xP,n9,List.filterMap_map]
    simpa[Function.comp_def] using this
theorem MJ{src:Source}{n:Nat}{Q:Nat->Shared->Prop}(hn:n≠0)(h:∀i d',i<n->Q i {s with drawn:=d'}):wpAny (model prog w) A (choose src n) Q E s:=fun Γ p _=>⟨hn,h _ _ (sX _ (Nat.pos_of_ne_zero hn))⟩
theorem GU{α:Type}:∀(n:Nat) (xs:List α) (s:Shared) (Q:List α->Shared->Prop),xs.length<=n->(∀ks d',ks.Perm xs->Q ks {s with drawn:=d'})->wpAny (model prog w) A (drawOrder n xs) Q E s
  | 0, xs, s, Q, hl, h => by
    have:xs=[]:=mz.mp (by omega)
    subst this
    unfold drawOrder
    exact wpAny_pure (h [] s.drawn .nil)
  | n + 1, [], s, Q, hl, h => by
    unfold drawOrder
    exact wpAny_pure (h [] s.drawn .nil)
  | n + 1, x :: xs, s, Q, hl, h => by
    unfold drawOrder
    refine wpAny_bind (MJ (by simp) fun i d' hi=>?_)
    rw[aB hi]
    dsimp only
    refine wpAny_bind (GU n _ _ _ (by rw[Cs hi];simp at hl⊢;omega) fun ks d2 hk=>?_)
    exact wpAny_pure (h _ d2 ((hk.cons _).trans (zl hi)))
theorem SW(g1:s.heap.get? a=some o)(g3:o.data= .set es ep t)(g4:t.fits es.size=true){Q:Bool->Shared->Prop}(h:Q (!eX w &&(!t.plain && decide (es.size>1))) s):wpAny (model prog w) A (setDrawn a) Q E s:=by
 unfold setDrawn
 refine wpAny_bind (wpAny_setState_of g1 g3 g4 ?_)
 dsimp only
 unfold setsByText
 refine wpAny_bind (wpAny_bind (wpAny_askSetting (wpAny_pure ?_)))
 exact wpAny_pure h
theorem Fb(g1:s.heap.get? a=some o)(g3:o.data= .set es ep t)(g4:t.fits es.size=true){Q:Nat->Shared->Prop}(h:Q ep s):wpAny (model prog w) A (setEpoch a) Q E s:=by
 unfold setEpoch
 exact wpAny_bind (wpAny_setState_of g1 g3 g4 (wpAny_pure h))
theorem Kw{Q:Value->Shared->Prop}(hb:es.size<scanBound)(g1:s.heap.get? a=some o)(g2:o.ExactSet)(g3:o.data= .set es ep t)(g4:t.fits es.size=true)(tk:dP (eX w) t)
    (hQ:∀(I:Addr) (h':Heap) d' (items:List Value) (fp:List Addr) (St:Nat->Heap->Prop),(∀b o,s.heap.get? b=some o->h'.get? b=some o)->s.heap.objs.size<=I->(∀b∈fp,b=a\/s.heap.objs.size<=b)->I∈fp->(∀b∈fp,b<h'.objs.size)->items.Perm (es.toList.map (·.2))->
      (∀B:Around,B.handled=none->Walks prog w B I fp [I] items.length (fun i v=>items[i]?=some v) St)->St 0 h'->Q (.ref I) {s with heap:=h',drawn:=d'}):wpAny (model prog w) A (pyIter (.ref a)) Q E s:=by
  have hT:s.TypeIs (.ref a) "set":=⟨o,g1,g2.1⟩
  have hlt:=aW g1
  refine wpAny_pyIter_slot hT Fe (wpAny_call_entry Fe hT S7 ?_ (KZ _))
  unfold Builtin.«frozenset.__iter__»
  unfold Builtin.Frozenset.slot0 slotArgs
  simp only[List.isEmpty_nil,Bool.not_true,jQ,↓reduceIte,bind_assoc,List.length_nil,bne_self_eq_false]
  unfold Builtin.Frozenset.addrOf Builtin.Frozenset.sizeOf
  refine wpAny_bind (wpAny_pure ?_)
  try dsimp only
  refine wpAny_bind (wpAny_pure ?_)
  refine wpAny_bind (wpAny_bind (wpAny_setEntries_of g1 g3 g4 (wpAny_pure ?_)))
  refine wpAny_bind (SW g1 g3 g4 ?_)
  by_cases c:(!eX w &&(!t.plain && decide (es.size>1)))=true
  · rw[if_pos c]
    refine wpAny_bind (GU es.size (List.range es.size) s _ (by simp) fun ks d' hk=>?_)
    unfold newTuple
    refine wpAny_bind (wpAny_newObj_type ?_ ?_)
    rotate_left
    · have hk0:ks.length=es.size:=by rw[hk.length_eq];simp
      show(List.map (fun(i:Nat)=>rawInt i) ks).toArray.size<=sizeLine
      rw[cY,aj,hk0]
      exact fits_of_scanBound hb
    have n6:=bw ({cls:= .type "tuple",data:= .seq (ks.map fun(i:Nat)=>rawInt i).toArray}:Obj) g1
    refine wpAny_bind (Fb (s:={s with heap:=_,drawn:=d'}) n6 g3 g4 ?_)
    unfold newFields
    refine wpAny_bind (wpAny_newObj_type ?_)
    have hk0:ks.length=es.size:=by rw[hk.length_eq];simp
    have fin:=hQ
    clear hQ
    have jY:(s.heap.push ({cls:= .type "tuple",data:= .seq (ks.map fun(i:Nat)=>rawInt i).toArray}:Obj)).objs.size=s.heap.objs.size+1:=lg ..
    have gT:(s.heap.push ({cls:= .type "tuple",data:= .seq (ks.map fun(i:Nat)=>rawInt i).toArray}:Obj)).get? s.heap.objs.size=some {cls:= .type "tuple",data:= .seq (ks.map fun(i:Nat)=>rawInt i).toArray}:=eF _ rfl
    have gO:∀b o,s.heap.get? b=some o->(s.heap.push ({cls:= .type "tuple",data:= .seq (ks.map fun(i:Nat)=>rawInt i).toArray}:Obj)).get? b=some o:=fun b o e=>bw _ e
    generalize Rv:s.heap.push ({cls:= .type "tuple",data:= .seq (ks.map fun(i:Nat)=>rawInt i).toArray}:Obj)=h1 at n6 jY gT gO⊢
    have gI:(h1.push ({cls:= .type "set_iterator",data:= .fields #[.ref s.heap.objs.size,rawInt 0, .ref a,rawInt es.size,rawInt ep]}:Obj)).get? h1.objs.size=some {cls:= .type "set_iterator",data:= .fields #[.ref s.heap.objs.size,rawInt 0, .ref a,rawInt es.size,rawInt ep]}:=eF _ rfl
    have gS:=bw ({cls:= .type "set_iterator",data:= .fields #[.ref s.heap.objs.size,rawInt 0, .ref a,rawInt es.size,rawInt ep]}:Obj) n6
    have Lk:=bw ({cls:= .type "set_iterator",data:= .fields #[.ref s.heap.objs.size,rawInt 0, .ref a,rawInt es.size,rawInt ep]}:Obj) gT
    have RG:(h1.push ({cls:= .type "set_iterator",data:= .fields #[.ref s.heap.objs.size,rawInt 0, .ref a,rawInt es.size,rawInt ep]}:Obj)).objs.size=h1.objs.size+1:=lg ..
    subst Rv
    refine wpAny_pure ⟨_,rfl,"set_iterator",_,⟨_,gI,rfl⟩,iC.lookup,?_⟩
    have pp:(ks.filterMap (es[·]?)).Perm es.toList:=by
      have:=hk.filterMap (es[·]?)
      have e:(List.range es.size).filterMap (es[·]?)=es.toList:=by
        have:=Cq es.toList
        simpa using this
      rwa[e] at this
    have hn:((ks.filterMap (es[·]?)).map (·.2)).length=es.size:=by rw[aj,pp.length_eq];simp
    have nN:=vG (p7 s.heap.objs.size) jY.symm
    refine fin _ _ d' ((ks.filterMap (es[·]?)).map (·.2)) [_,a,s.heap.objs.size] _ (fun b o e=>bw _ (gO b o e)) (ir nN) (fun b m=>?_) (bG ..) (fun b m=>?_) (pp.map _) (fun B hB=>by rw[hn];exact SA hB g3 g4 hk (bK (kH hlt nN)) (bK nN)) ?_
    · rcases aH.mp m with e|m
      · exact .inr (by rw[e];exact ir nN)
      · rcases aH.mp m with e|m
        · exact .inl e
        · exact .inr (rD (bS.mp m).symm)
    · refine vG ?_ RG.symm
      rcases aH.mp m with e|m
      · rw[e];exact p7 _
      · rcases aH.mp m with e|m
        · rw[e];exact jq (kH hlt nN)
        · rw[bS.mp m];exact jq nN
    · exact⟨⟨_,gI,rfl,rfl⟩,gS,_,_,Lk,rfl⟩
  · rw[if_neg c]
    refine wpAny_bind (wpAny_pure ?_)
    refine wpAny_bind (Fb g1 g3 g4 ?_)
    unfold newFields
    refine wpAny_bind (wpAny_newObj_type ?_)
    have gI:(s.heap.push ({cls:= .type "set_iterator",data:= .fields #[rawInt 0,rawInt 0, .ref a,rawInt es.size,rawInt ep]}:Obj)).get? s.heap.objs.size=some {cls:= .type "set_iterator",data:= .fields #[rawInt 0,rawInt 0, .ref a,rawInt es.size,rawInt ep]}:=eF _ rfl
    have gS:=bw ({cls:= .type "set_iterator",data:= .fields #[rawInt 0,rawInt 0, .ref a,rawInt es.size,rawInt ep]}:Obj) g1
    have hfp:∀b∈[s.heap.objs.size,a],b=a\/s.heap.objs.size<=b:=fun b m=>by
      rcases aH.mp m with e|m
      · exact .inr (rD e.symm)
      · exact .inl (bS.mp m)
    have hsz:(s.heap.push ({cls:= .type "set_iterator",data:= .fields #[rawInt 0,rawInt 0, .ref a,rawInt es.size,rawInt ep]}:Obj)).objs.size=s.heap.objs.size+1:=lg ..
    have Ec:∀b∈[s.heap.objs.size,a],b<(s.heap.push ({cls:= .type "set_iterator",data:= .fields #[rawInt 0,rawInt 0, .ref a,rawInt es.size,rawInt ep]}:Obj)).objs.size:=fun b m=>by
      rw[hsz]
      rcases aH.mp m with e|m
      · rw[e];exact p7 _
      · rw[bS.mp m];exact jq hlt
    refine wpAny_pure ⟨_,rfl,"set_iterator",_,⟨_,gI,rfl⟩,iC.lookup,?_⟩
    cases bt:eX w with
    | true =>
      have pp:(pickOrder (w.params.setOrder a ep) es).toList.Perm es.toList:=by simpa[pickOrder] using yq (w.params.setOrder a ep) es.size 0 es.toList #[] (by simp)
      have hn:((pickOrder (w.params.setOrder a ep) es).toList.map (·.2)).length=es.size:=by rw[aj,pp.length_eq];simp
      refine hQ _ _ s.drawn ((pickOrder (w.params.setOrder a ep) es).toList.map (·.2)) [s.heap.objs.size,a] _ (fun b o e=>bw _ e) (aK _) hfp (by simp) Ec (pp.map _) (fun B hB=>by rw[hn];exact Lz hB bt g3 g4 (bK hlt)) ?_
      exact⟨⟨_,gI,rfl,rfl⟩,gS⟩
    | false =>
      have pl:t.plain=true\/es.size<=1:=by
        rw[bt,Bool.not_false,mW] at c
        cases hp:t.plain with
        |true=>exact .inl rfl
        | false =>
          rw[hp,Bool.not_false,mW,decide_eq_true_eq] at c
          exact .inr (by omega)
      have hn:(es.toList.map (·.2)).length=es.size:=by simp
      refine hQ _ _ s.drawn (es.toList.map (·.2)) [s.heap.objs.size,a] _ (fun b o e=>bw _ e) (aK _) hfp (by simp) Ec (.refl _) (fun B hB=>by rw[hn];exact Qv hB bt g3 g4 tk pl (bK hlt)) ?_
      exact⟨⟨_,gI,rfl,rfl⟩,gS⟩
end
end L2
set_option maxRecDepth 100000
set_option maxHeartbeats 4000000
namespace L2
open PySem PySem.Spec PyProof.Rows
section
variable{prog:Program}{w:World}{A:Around}{E:Value->Shared->Prop}{s:Shared}{a:Addr}{o:Obj}{es:Array (Int×Value)}{ep:Nat}{t:SetTable}
theorem OJ{Q:Bool->Shared->Prop}(hT:s.TypeIs (.ref a) "set")(h:Q false s):wpAny (model prog w) A (Builtin.List.listLengthHint (.ref a)) Q E s:=by
 unfold Builtin.List.listLengthHint
 refine wpAny_bind (wpAny_specialOf hT PySem.F.slot_set_len.lookup ?_)
 generalize hid:("set.__len__":String)=id0
 wp_delta
 rw[show splitId id0=some ("set","__len__") from by subst hid;decide+kernel]
 subst hid
 refine wpAny_bind (wpAny_isInstance (b:=true) (T:="set") hT (by rw[isSubtype_type];kernel_rfl) ?_)
 refine wpAny_ite_split (fun z=>absurd z (by decide)) fun _=>wpAny_ite_split (fun _=>?_) fun z=>absurd (by decide+kernel) z
 exact wpAny_bind (wpAny_typeOf hT (wpAny_pure h))
theorem Tp{items:List Value}{acc:Array Value}(h:ItemsOf (fun i v=>items[i]?=some v) acc items.length):acc.toList=items:=by
 apply eH
 intro i
 by_cases hi:i<acc.size
 ·have e:acc[i]?=some acc[i]:=jB hi
  rw[lz,e,h.2 i _ e]
 ·have:=h.1
  rw[cQ (by simp;omega),cQ (by omega)]
theorem KL{Q:List Value->Shared->Prop}(hh:A.handled=none)(hb:es.size<scanBound)(g1:s.heap.get? a=some o)(g2:o.ExactSet)(g3:o.data= .set es ep t)(g4:t.fits es.size=true)(tk:dP (eX w) t)
  (hQ:∀h' d' tk' items,(∀b o,s.heap.get? b=some o->h'.get? b=some o)->s.heap.objs.size<=h'.objs.size->items.Perm (es.toList.map (·.2))->Q items {s with heap:=h',drawn:=d',toks:=tk'}):wpAny (model prog w) A (collect (.ref a)) Q E s:=by
 have hlt:=aW g1
 unfold collect
 refine wpAny_bind (wpAny_runValue (codeAny_builtin GP ?_))
 rw[kh C7 _]
 show wpAny _ A.in1 (newList []>>=fun l=>again (.builtin "list.__iadd__" ⟨[l, .ref a],[]⟩)) _ _ s
 refine wpAny_bind (wpAny_newObj_type ?_)
 refine wpAny_pure ⟨plainId_quiet t8 _,codeAny_builtin Ge ?_⟩
 rw[kh t8 _]
 have gL:(s.heap.push ({cls:= .type "list",data:= .seq ([]:List Value).toArray}:Obj)).get? s.heap.objs.size=some {cls:= .type "list",data:= .seq ([]:List Value).toArray}:=eF _ rfl
 have gA:=bw ({cls:= .type "list",data:= .seq ([]:List Value).toArray}:Obj) g1
 have FL:(s.heap.push ({cls:= .type "list",data:= .seq ([]:List Value).toArray}:Obj)).objs.size=s.heap.objs.size+1:=lg ..
 show wpAny _ A.in1 (Builtin.List.listExtendWith (.ref s.heap.objs.size) (.ref a) (.ref s.heap.objs.size)) _ _ {s with heap:=s.heap.push ({cls:= .type "list",data:= .seq ([]:List Value).toArray}:Obj)}
 have hkeep:∀b o,s.heap.get? b=some o->(s.heap.push ({cls:= .type "list",data:= .seq ([]:List Value).toArray}:Obj)).get? b=some o:=fun b o e=>bw _ e
 generalize s.heap.push ({cls:= .type "list",data:= .seq ([]:List Value).toArray}:Obj)=h1 at gL gA FL hkeep⊢
 unfold Builtin.List.listExtendWith
 refine wpAny_bind (wpAny_typeOf (T:="set") ⟨o,gA,g2.1⟩ ?_)
 have n1:Builtin.List.listSameRef (.ref s.heap.objs.size) (.ref a)=false:=by
  show(s.heap.objs.size==a)=false
  exact beq_eq_false_iff_ne.mpr (lC hlt)
 have n2:(Value.type "set"==Value.type "list")=false:=by decide
 have n3:(Value.type "set"==Value.type "tuple")=false:=by decide
 simp only[n1,n2,n3,l5,jQ,if_false]
 refine wpAny_bind (Kw (s:={s with heap:=h1}) hb gA g2 g3 g4 tk fun I h2 d' items fp St k1 k2 k3 k4 k5 pp W st=>?_)
 have J0:=k1 _ _ gA
 have AA:=k1 _ _ gL
 refine wpAny_bind (wpAny_holding (OJ (s:={s with heap:=h2,drawn:=d'}) ⟨o,J0,g2.1⟩ ?_))
 have lS:s.heap.objs.size<h1.objs.size:=vG (p7 _) FL.symm
 have nS:s.heap.objs.size∉fp:=fun m=>by
  rcases k3 _ m with e|e
  ·exact absurd e (lC hlt)
  ·exact absurd (dI lS e) (iV _)
 have hil:items.length<=sizeLine:=by
  rw[pp.length_eq,aj,gb];exact fits_of_scanBound hb
 have key:∀(h3:Heap) (c:Nat),St 0 h3->(∀b o,b≠s.heap.objs.size->h2.get? b=some o->h3.get? b=some o)->h3.get? s.heap.objs.size=some {cls:= .type "list",data:= .seq #[] c}->
   codeAny (model prog w) A (.builtin "list.extend.loop" ⟨[.ref s.heap.objs.size, .ref I, .ref s.heap.objs.size],[]⟩) (fun r s'=>match r with
    | .ok (.ret v)=>wpAny (model prog w) A (match v with| .ref x=>(do match(<-load x).data with| .seq xs _=>pure xs.toList|_=>unsupported "internal:collect")|_=>unsupported "internal:collect") Q E s'
    | .ok _=>False
    | .error e=>E e s') {s with heap:=h3,drawn:=d'}:=by
  intro h3 c st3 q1 q2
  refine codeAny_extend_loopS ((W A.in1 hh).toS) hil _ nS _ items.length 0 _ #[] c rfl (fF _) st3 q2 (ItemsOf.nil _) fun s' acc c' mo q3 q4=>?_
  refine wpAny_bind (wpAny_load q3 (wpAny_pure ?_))
  rw[Tp q4,Moved.eq_with mo]
  refine hQ s'.heap d' s'.toks items (fun b o e=>?_) ?_ pp
  ·have nb:b≠s.heap.objs.size:=bK (aW e)
   refine mo.heap b o (fun m=>?_) (q1 b o nb (k1 b o (hkeep b o e)))
   rcases aH.mp m with z|z
   ·exact nb z
   ·have z:=bS.mp z
    rw[z] at e
    exact absurd (dI (kH (aW e) lS) k2) (iV _)
  ·exact ir (aW q3)
 refine wpAny_ite_split (fun _=>?_) fun _=>wpAny_pure ⟨plainId_quiet Ej _,key h2 _ st (fun _ _ _ e=>e) AA⟩
 refine wpAny_bind (wpAny_rule (wpAny_bind ?_))
 show wpAny _ A.in1 (updateSeq s.heap.objs.size (·.push .none)>>=fun _=>updateSeq s.heap.objs.size (·.pop)) _ _ _
 have u1:=tX (Obj.mapSeq (·.push Value.none)) AA rfl
 have u2:=tX (Obj.mapSeq (·.pop)) u1 rfl
 refine wpAny_bind (wpAny_updateSeq AA rfl (wpAny_updateSeq (hz:=by seq_fits) u1 rfl ?_))
 have En:∀b o,b≠s.heap.objs.size->h2.get? b=some o->((h2.update s.heap.objs.size (Obj.mapSeq (·.push Value.none))).update s.heap.objs.size (Obj.mapSeq (·.pop))).get? b=some o:=fun b o nb e=>(jS _ _ (bB nb)).trans ((jS _ _ (bB nb)).trans e)
 exact wpAny_pure ⟨plainId_quiet Ej _,key _ _ ((W A.in1 hh).frame 0 _ _ st fun b m o e=>En b o (fun z=>nS (z▸m)) e) En u2⟩
theorem Cd{ks:List Int->Prop}:∀{vs:List Value},(∀v∈vs,∃k t,v= .int k t)->∃ns,IntsAre vs ns
  |[],_=>⟨[], .nil⟩
  | v :: vs, h => by
    obtain⟨k,t,rfl⟩:=h v (bG ..)
    obtain⟨ns,hn⟩:=Cd (ks:=ks) fun v m=>h v (cA _ m)
    exact⟨k::ns, .cons k t hn⟩
theorem C0:∀{vs:List Value} {ns:List Int},IntsAre vs ns->∀k,k∈ns↔∃t, .int k t∈vs
  |_,_, .nil,k=>by simp
  | _, _, .cons j t h, k => by
    rw[aH,C0 h k]
    constructor
    · rintro(rfl|⟨t',m⟩)
      · exact⟨_,bG ..⟩
      · exact⟨t',cA _ m⟩
    · rintro⟨t',m⟩
      rcases aH.mp m with e|m
      · cases e;exact .inl rfl
      · exact .inr ⟨t',m⟩
theorem RH{S:Int->Bool}{n:Nat}{Q:Value->Shared->Prop}(hh:A.handled=none)(hS:s.heap.SetOf (IK prog w) a S n)(hT:fN (eX w) s.heap a)(h64:n<64)
  (h : ∀ h' d' tk' (l : Addr) (out : List Value) (ns : List Int) (e : Nat), (∀ b o, s.heap.get? b = some o -> h'.get? b = some o) -> s.heap.objs.size <= l -> h'.get? l = some (seqObj "list" out.toArray e) -> IntsAre out ns -> ns.Pairwise (· <= ·) -> (∀ k, S k = true ↔ k ∈ ns) -> ns.length = n ->
   Q (.ref l) {s with heap:=h',drawn:=d',toks:=tk'}):wpAny (model prog w) A (call (.builtin "sorted") [.ref a]) Q E s:=by
 obtain⟨o,es,ep,t,g1,g2,g3,l1,l2,l3,l4,sz⟩:=hS
 refine qO kind_sorted plain_sorted entry_sorted (args_sorted1 _) ?_
 unfold Builtin.«sorted»
 refine wpAny_bind (m:=checkCount "sorted" 1 1 _) (wpAny_pure (wpAny_bind ?_))
 refine KL (A:=A.in1) hh l3 g1 g2 g3 l4 (hT o es ep t g1 g3) fun h1 d1 yk items k1 k2 pp=>?_
 have hint:∀v∈items,∃k t,v= .int k t:=fun v m=>by
  obtain⟨e,m',rfl⟩:=bU.mp (pp.mem_iff.mp m)
  obtain⟨⟨k,hk,_⟩,_⟩:=l1 e m'
  obtain⟨t,ht⟩:=qt hk
  exact⟨k,t,ht⟩
 obtain⟨ns,hI⟩:=Cd (ks:=fun _=>True) hint
 have hlen:items.length=n:=by rw[pp.length_eq,aj,gb,sz]
 refine wpAny_bind (wpAny_newList ?_)
 have gL:(h1.push (seqObj "list" items.toArray 0)).get? h1.objs.size=some (seqObj "list" items.toArray 0):=eF _ rfl
 refine wpAny_bind (wpAny_holding (wpAny_call_entry slot_list_sort ⟨_,gL,rfl⟩ entry_list_sort (list_sort_tree gL hI (by omega) fun out ns' a1 a2 a3=>⟨_,rfl,?_⟩) (args_list_sort _)))
 obtain⟨e,he⟩:=sortedHeap_at (out:=out) gL
 refine wpAny_pure ⟨_,rfl,h _ d1 yk h1.objs.size out.toList ns' e (fun b o q=>?_) k2 (by simpa using he) a1 a3 (fun k=>?_) ?_⟩
 ·have lb:=aW (k1 b o q)
  rw[sortedHeap_old (bK lb) (by rw[lg];exact jq lb)]
  exact bw _ (k1 b o q)
 ·rw[a2.mem_iff,C0 hI,l2 k]
  constructor
  ·rintro⟨e,m,q⟩
   obtain⟨t,ht⟩:=qt q
   exact⟨t,pp.mem_iff.mpr (ht▸bU.mpr ⟨e,m,rfl⟩)⟩
  ·rintro⟨t,m⟩
   obtain⟨e,m',q⟩:=bU.mp (pp.mem_iff.mp m)
   exact⟨e,m',by rw[q];exact intKind_is _ _ _ _⟩
 ·rw[a2.length_eq,<-hI.length,hlen]
end
end L2
set_option maxRecDepth 100000
set_option maxHeartbeats 4000000
namespace L2
open PySem PySem.Spec PyProof.Rows
def ql(P:Program)(w:World)(a:Addr)(S:Int->Bool)(n:Nat):HO:= .ext fun h=>h.SetOf (IK P w) a S n/\fN (eX w) h a
theorem Inv.dr{X:Cx}{pins:List (Addr×Obj)}{σ:St}{H:Hp}{s:Shared}(I:Inv X pins σ H s)(d:Drawn):Inv X pins σ H {s with drawn:=d}:=
 ⟨I.ok,I.os,I.bare,I.base,I.loc,I.cell,I.free,I.iJ,I.pin,I.hok,I.len⟩
theorem rJ:∀{ns:List Int} {us:List Value},Vals (ns.map V.int) us->IntsAre us ns
  |[],_, .nil=> .nil
  | n :: ns, _, .cons r t => by
    obtain⟨k,rfl⟩:=r
    exact .cons n k (rJ t)
theorem yD:∀{us:List Value} {ns:List Int},IntsAre us ns->Vals (ns.map V.int) us
 |_,_, .nil=> .nil
 |_,_, .cons k t h=> .cons ⟨t,rfl⟩ (yD h)
theorem Nu{σ:List Int}{k:Int}(h:σ.Nodup):(step_dedup σ k).Nodup:=by
 unfold step_dedup
 split
 ·exact h
 ·rename_i q
  rw[yQ]
  refine⟨h,by simp,fun x hx y hy=>?_⟩
  rw[bS.mp hy]
  intro e
  subst e
  exact q (by simp[hx])
theorem Dq(val:Nat->Int):∀i,(firstMet val i).Nodup
 |0=>AI
 |i+1=>by rw[firstMet_succ];exact Nu (Dq val i)
theorem Fp:∀{ds ns:List Int},ds.Nodup->(∀k∈ds,k∈ns)->ns.length<=ds.length->ds.Perm ns
  | [], ns, _, _, hl => by
    have:ns=[]:=mz.mp (by simpa using hl)
    rw[this]
  | d :: ds, ns, hd, hs, hl => by
    have hm:=hs d (bG ..)
    obtain⟨h1,h2⟩:=gV.mp hd
    have hp:=List.perm_cons_erase hm
    refine(List.Perm.cons d (Fp h2 (fun k hk=>?_) ?_)).trans hp.symm
    · rcases aH.mp (hp.mem_iff.mp (hs k (cA _ hk))) with e|e
      · subst e;exact absurd hk h1
      · exact e
    · have:=hp.length_eq;simp at this hl⊢;omega
def rE(P:Program)(w:World)(K:PySem.W.Frag):List V->Hp->VK->Prop:=fun xs H Q=>∃p,∃ns:List Int,xs=[.ref p]/\aS K H p (ns.map V.int)/\ns.length<=4000/\∀a (ms:List Int),H a=none->ms.Nodup->(∀k,k∈ms↔k∈ns)->Q (.ref a) (upd H a (ql P w a (fun k=>ms.any (· ==k)) ms.length))
def uy(P:Program)(w:World):List V->Hp->VK->Prop:=fun xs H Q=>∃a,∃ms:List Int,xs=[.ref a]/\H a=some (ql P w a (fun k=>ms.any (· ==k)) ms.length)/\ms.Nodup/\ms.length<64/\
 ∀l (rs:List Int),H l=none->rs.Pairwise (· < ·)->(∀k,k∈rs↔k∈ms)->Q (.ref l) (upd H l (.lst (rs.map V.int)))
section
variable{X:Cx}
theorem Ea(hc:X.calm=true):eE X (.type "set") (rE X.prog X.w X.K):=by
 intro pins s σ H xs us Q I rv h
 obtain⟨p,ns,rfl,hp,hn,q⟩:=h
 obtain⟨u,rfl,ru⟩:=vals1 rv
 cases ru
 obtain⟨its,rs,il,hz⟩:=I.list hp
 have hI:=rJ rs
 have hlen:=hI.length
 refine R9 (I.ok.hd hc) il.isList (by simpa using hI) (by rw[cY];unfold scanBound;omega) fun h' tk q1 q2 q3=>?_
 have hmem:∀k,k∈firstMet (fun i=>ns.getD i 0) its.toArray.size↔k∈ns:=fun k=>by
  have e:=firstMet_any (fun i=>ns.getD i 0) its.toArray.size k
  have e2:(List.range its.toArray.size).map (fun i=>ns.getD i 0)=ns:=by
   rw[cY,hlen]
   apply List.ext_getElem
   ·simp
   ·intro i h1 h2
    simp[bA,aB h2]
  rw[e2] at e
  have a1:∀(l:List Int),(l.any (· ==k))=true↔k∈l:=fun l=>by
   rw[rP]
   exact⟨fun⟨x,m,z⟩=>(beq_iff_eq.mp z)▸m,fun m=>⟨k,m,beq_self_eq_true _⟩⟩
  rw[<-a1,<-a1,e]
 have kp:∀b u,s.heap.get? b=some u->h'.get? b=some u:=fun b u e=>q3 b u (aW e) e
 have new:bq X.prog X.w (upd H s.heap.objs.size (ql X.prog X.w s.heap.objs.size (fun k=>(firstMet (fun i=>ns.getD i 0) its.toArray.size).any (· ==k)) (firstMet (fun i=>ns.getD i 0) its.toArray.size).length)) h' s.heap.objs.size (ql X.prog X.w s.heap.objs.size (fun k=>(firstMet (fun i=>ns.getD i 0) its.toArray.size).any (· ==k)) (firstMet (fun i=>ns.getD i 0) its.toArray.size).length):=by
  refine⟨⟨q1,q2⟩,?_,fun h1 h2 z k=>?_⟩
  ·obtain⟨o,_,_,_,ho,_⟩:=q1;exact⟨o,ho⟩
  ·obtain⟨⟨o,es,ep,t,ho,r⟩,tt⟩:=z
   exact⟨⟨o,es,ep,t,k o ho,r⟩,tt.keep ho (k o ho)⟩
 exact⟨.ref s.heap.objs.size,_,I.laid (t':=tk) kp (aK _) new,rfl,q _ _ (I.hok.fresh (aK _)) (Dq _ _) hmem⟩
theorem FU(hc:X.calm=true):eE X (.builtin "sorted") (uy X.prog X.w):=by
 intro pins s σ H xs us Q I rv h
 obtain⟨a,ms,rfl,hH,nd,h64,q⟩:=h
 obtain⟨u,rfl,ru⟩:=vals1 rv
 cases ru
 obtain⟨⟨q1,q2⟩,_,_⟩:=I.hok a _ hH
 refine RH (I.ok.hd hc) q1 q2 h64 fun h' d' tk' l out ns e kp hl gl hI pw hm hn=>?_
 have a1:∀k,(ms.any (· ==k))=true↔k∈ms:=fun k=>by
  rw[rP]
  exact⟨fun⟨x,m,z⟩=>(beq_iff_eq.mp z)▸m,fun m=>⟨k,m,beq_self_eq_true _⟩⟩
 have hm':∀k,k∈ns↔k∈ms:=fun k=>by rw[<-hm k,a1]
 have pp:=Fp nd (fun k m=>(hm' k).mpr m) (rD hn)
 have Q4:ns.Nodup:=pp.nodup_iff.mp nd
 have lt:ns.Pairwise (· < ·):=by
  have:=pw.and Q4
  exact this.imp fun⟨x,y⟩=>by omega
 have new:bq X.prog X.w (upd H l (.lst (ns.map V.int))) h' l (.lst (ns.map V.int)):=by
  refine⟨?_,out,e,yD hI,gl⟩
  rw[aj,hn];exact dH (ir h64) (by decide)
 exact⟨.ref l,_,(I.laid (t':=tk') kp hl new).dr d',rfl,q _ _ (I.hok.fresh hl) lt hm'⟩
end
theorem aA.E7{G:Gx}{ρ:Rh}{te:TE}{P:Program}{w:World}{K:PySem.W.Frag}{Θ:Bool->List PyData->Prop}(h:Ev G ρ te fun _ x=>∃ns:List Int,x= .list (ns.map .int)/\ns.length<64/\∀rs:List Int,rs.Pairwise (· < ·)->(∀k,k∈rs↔k∈ns)->Θ true (rs.map .int)):
  aA G ρ (eS (uy P w) (bx (eS (rE P w K) (bx te bR)) bR)) Θ:=fun nb σ H Q W z=>
 h nb σ H _ W fun f v H1 x ⟨ns,ex,hn,q⟩ s1 hv=>by
  subst ex
  obtain⟨a,xs,rfl,na,hx,hd⟩:=hv.dJ
  have e:=ly hd
  subst e
  refine⟨a,ns,rfl, .of hx,by omega,fun b ms hb nd hm=>?_⟩
  have hms:ms.length<=ns.length:=nG nd fun k m=>(hm k).mp m
  refine⟨b,ms,rfl,aV,nd,by omega,fun l rs hl lt hm'=>?_⟩
  have s2:Step G.B H1 (upd H1 b (ql P w b (fun k=>ms.any (· ==k)) ms.length)):= .same s1.2 (dg hb)
  exact aA.fin (f:=true) W (s1.trans s2) hl (tO rs) (q rs lt fun k=>(hm' k).trans (hm k)) z
theorem Mr{ms:List Int}{m:Int}(nd:ms.Nodup)(h:∀k∈ms,0<=k/\k<m):ms.length<=m.toNat:=by
 have:=nG nd (l₂:=(List.range m.toNat).map fun(i:Nat)=>(i:Int)) fun k hk=>by
  have:=h k hk
  exact bU.mpr ⟨k.toNat,fQ.mpr (by omega),by omega⟩
 rwa[aj,fU] at this
end L2
set_option maxRecDepth 100000
set_option maxHeartbeats 4000000
set_option maxRecDepth 100000
set_option maxHeartbeats 4000000
set_option maxRecDepth 100000
set_option maxHeartbeats 4000000
set_option maxRecDepth 100000
set_option maxHeartbeats 4000000
set_option maxRecDepth 100000
set_option maxHeartbeats 4000000
set_option maxRecDepth 100000
set_option maxHeartbeats 4000000
namespace L2
open PySem PySem.Spec PyProof.Rows
def kd(x:Keyed):Int:=match x.1 with| .int n _=>n|_=>0
end L2
set_option maxRecDepth 100000
set_option maxHeartbeats 4000000
set_option maxRecDepth 100000
set_option maxHeartbeats 4000000
set_option maxRecDepth 100000
set_option maxHeartbeats 4000000
set_option maxRecDepth 100000
set_option maxHeartbeats 4000000
set_option maxRecDepth 100000
set_option maxHeartbeats 4000000
set_option maxRecDepth 100000
set_option maxHeartbeats 4000000
namespace L2
open PySem PySem.Spec PyProof.Rows
def GW:List V->Hp->VK->Prop:=fun xs H Q=>∃j:Int,xs=[.int j]/\∀a,H a=none->Q (.ref a) (upd H a (.lu 0 j))
def Dy:List V->Hp->VK->Prop:=fun xs H Q=>∃(a:Addr) (lo hi:Int),xs=[.ref a]/\H a=some (.lu lo hi)/\(-10000<=lo/\lo<=10000/\ -10000<=hi/\hi<=10000)/\∀l,H l=none->Q (.ref l) (upd H l (.lst (((List.range (hi-lo).toNat).map fun(i:Nat)=>lo+(i:Int)).map V.int)))
def zq(K:PySem.W.Frag):List V->Hp->VK->Prop:=fun xs H Q=>∃p,∃ns:List Int,xs=[.ref p]/\aS K H p (ns.map V.int)/\Q (.int ns.sum) H
def wI(K:PySem.W.Frag):List V->Hp->VK->Prop:=fun xs H Q=>∃p,∃bs:List Bool,xs=[.ref p]/\aS K H p (bs.map V.bl)/\Q (.bl (bs.all id)) H
section
variable{X:Cx}
theorem HH:eE X (.type "range") GW:=by
 intro pins s σ H xs us Q I rv h
 obtain⟨j,rfl,q⟩:=h
 obtain⟨u,rfl,ru⟩:=vals1 rv
 obtain⟨t,rfl⟩:=ru
 refine call_range_1 ?_
 exact⟨.ref s.heap.objs.size,_,I.laid (t':=s.toks+1+1) (o:= .lu 0 j) (fun b o e=>bw _ e) (aK _) ⟨_,_,_,eF _ rfl⟩,rfl,q _ (I.hok.fresh (aK _))⟩
theorem Hg(hc:X.calm=true):eE X (.type "list") Dy:=by
  intro pins s σ H xs us Q I rv h
  obtain⟨a,lo,hi,rfl,hH,hb,q⟩:=h
  obtain⟨u,rfl,ru⟩:=vals1 rv
  cases ru
  obtain⟨t,u,v,e⟩:=(show bq X.prog X.w H s.heap a (.lu lo hi) from I.hok a _ hH)
  refine call_list_range (n:=(hi-lo).toNat) (I.ok.hd hc) (show IsRange s.heap a lo hi 1 t u v from e) (small_one (by omega) (by omega) (by omega) (by omega)) (rangeSize_nat lo hi) (by omega) fun h' tk acc c' kp hl hi'=>?_
  have vv:Vals (((List.range (hi-lo).toNat).map fun(i:Nat)=>lo+(i:Int)).map V.int) acc.toList:=by
    have key:∀(n:Nat) (l:List Value),l.length=n->∀b:Int,(∀(j:Nat) (v:Value),l[j]?=some v->∃t,v=Value.int (b+(j:Int)) t)->Vals (((List.range n).map fun(i:Nat)=>b+(i:Int)).map V.int) l:=by
      intro n
      induction n with
      |zero=>intro l hl b _;rw[mz.mp hl];exact .nil
      | succ n ih =>
        intro l hl b hv
        cases l with
        |nil=>cases hl
        | cons x r =>
          obtain⟨t,e⟩:=hv 0 x rfl
          rw[xP,bF,bF]
          refine .cons ⟨t,by simpa using e⟩ ?_
          have:=ih r (by simpa using hl) (b+1) (fun j v e=>by
            obtain⟨t,z⟩:=hv (j+1) v (by simpa using e)
            exact⟨t,by rw[z];congr 1;omega⟩)
          rw[c6] at this⊢
          rw[c6]
          have e:∀i:Nat,((V.int∘fun(i:Nat)=>b+(i:Int))∘Nat.succ) i=(V.int∘fun(i:Nat)=>b+1+(i:Int)) i:=fun i=>by
            show V.int (b+((i+1:Nat):Int))=V.int (b+1+(i:Int));congr 1;omega
          rw[e7 fun i _=>e i]
          exact this
    refine key _ _ (by rw[gb];exact hi'.1) lo fun j v e=>?_
    obtain⟨t,z⟩:=hi'.2 j v (by rw[<-lz];exact e)
    exact⟨t,by rw[z];congr 1;omega⟩
  refine⟨.ref s.heap.objs.size,_,I.laid (t':=tk) (o:= .lst (((List.range (hi-lo).toNat).map fun(i:Nat)=>lo+(i:Int)).map V.int)) kp (aK _) ⟨?_,acc.toList,c',vv,by simpa using hl⟩,rfl,q _ (I.hok.fresh (aK _))⟩
  rw[aj,aj,fU]
  exact dH (show(hi-lo).toNat<=20000 by omega) (by decide)
theorem RZ(hc:X.calm=true):eE X (.builtin "sum") (zq X.K):=by
 intro pins s σ H xs us Q I rv h
 obtain⟨p,ns,rfl,hp,q⟩:=h
 obtain⟨u,rfl,ru⟩:=vals1 rv
 cases ru
 obtain⟨its,rs,il,hz⟩:=I.list hp
 have hI:=rJ rs
 obtain⟨ys,e⟩:=hI.allInts.items
 have hn:=hI.numsOf
 refine sum_intListG (xs:=ys) (I.ok.hd hc) (by rw[<-e];exact il.isList) fun h' tk t' kp=>?_
 have e2:preSum (numAt ys) ys.size=ns.sum:=by
  rw[preSum_eq,xV (by simp),<-nums_intItems,<-e,<-hn]
 rw[e2]
 exact⟨.int ns.sum,H,I.kept kp,⟨_,rfl⟩,q⟩
theorem Ob(hc:X.calm=true):eE X (.builtin "all") (wI X.K):=by
  intro pins s σ H xs us Q I rv h
  obtain⟨p,bs,rfl,hp,q⟩:=h
  obtain⟨u,rfl,ru⟩:=vals1 rv
  cases ru
  obtain⟨its,rs,il,hz⟩:=I.list hp
  have hl:=rs.length
  have hv:∀(i:Nat) (v:Value),its.toArray[i]?=some v->v= .bool (bs.getD i false):=fun i v e=>by
    have hi:i<bs.length:=by
      have:=(pU.mp e).1
      rw[aj] at hl
      simp at this;omega
    obtain⟨u,hu,ru⟩:=rs.get (i:=i) (x:= .bl bs[i]) (by rw[aI,aB hi];rfl)
    rw[Fj,hu] at e
    cases e
    rw[bA,aB hi]
    exact ru
  have ll:=il.isList
  have hlt:p<s.heap.objs.size:=by obtain⟨o,e,_⟩:=ll;exact aW e
  refine call_all_walk (wpAny_pyIter_list ll ⟨s.heap.objs.size,_,_,_,_,_,fun i=>bs.getD i false,rfl,Walks.list (A:=X.A.in1) (I.ok.hd hc) _ p (bK hlt) its.toArray,⟨⟨_,eF _ rfl,rfl,rfl⟩,ll.push _⟩,fun i v s Q E hP hQ=>?_,fun h' tk kp=>?_⟩)
  · rw[hv i v hP];exact wpAny_truthy_bool hQ
  · have e:(List.range its.toArray.size).all (fun i=>bs.getD i false)=bs.all id:=by
      have hs:its.toArray.size=bs.length:=by rw[aj] at hl;simp;omega
      rw[hs]
      clear hv hl rs q hp hs hz
      induction bs with
      |nil=>rfl
      | cons b r ih =>
        rw[ko,xP,nK,nK,List.all_map]
        simpa[Function.comp_def] using congrArg (b && ·) ih
    rw[e]
    refine⟨.bl (bs.all id),H,I.kept fun b o q=>kp b o (fun m=>?_) (bw _ q),rfl,q⟩
    have:=bS.mp m
    rw[this] at q
    exact absurd (aW q) (iV _)
end
section
variable{G:Gx}{ρ:Rh}{te:TE}{K:PySem.W.Frag}{Φ:Pd}
theorem aA.DA{Θ:Bool->List PyData->Prop}(h:Ev G ρ te fun _ x=>∃n:Int,x= .int n/\ -10000<=n/\n<=10000/\Θ true (((List.range n.toNat).map fun(i:Nat)=>(0:Int)+(i:Int)).map .int)):aA G ρ (eS Dy (bx (eS GW (bx te bR)) bR)) Θ:=fun nb σ H Q W z=>
 h nb σ H _ W fun f v H1 x ⟨n,ex,h1,h2,q⟩ s1 hv=>by
  subst ex
  rw[hv.bX]
  refine⟨n,rfl,fun a ha=>⟨a,0,n,rfl,aV,by omega,fun l hl=>?_⟩⟩
  rw[w9]
  exact aA.fin (f:=true) W (s1.trans (.same s1.2 (dg ha))) hl (tO _) q z
theorem Ev.sum(h:Ev G ρ te fun _ x=>∃ns:List Int,x= .list (ns.map .int)/\Φ true (.int ns.sum)):Ev G ρ (eS (zq K) (bx te bR)) Φ:=fun nb σ H Q W z=>
 h nb σ H _ W fun f v H1 x ⟨ns,ex,q⟩ s1 hv=>by
  subst ex
  obtain⟨a,xs,rfl,na,hx,hd⟩:=hv.dJ
  have e:=ly hd
  subst e
  exact⟨a,ns,rfl, .of hx,z true _ H1 _ q s1 (.int _)⟩
theorem C9{nb:Addr->Prop}{H:Hp}:∀{is:List Bool} {xs:List V},af nb H (is.map PyData.bool) xs->xs=is.map V.bl
  |[],_,h=>by unfold List.map af at h;exact h
  | i :: is, _, h => by
    rw[bF] at h
    unfold af at h
    obtain⟨y,ys,rfl,h1,h2⟩:=h
    unfold ai at h1
    rw[bF,h1,C9 h2]
theorem Ev.all(h:Ev G ρ te fun _ x=>∃bs:List Bool,x= .list (bs.map .bool)/\Φ true (.bool (bs.all id))):Ev G ρ (eS (wI K) (bx te bR)) Φ:=fun nb σ H Q W z=>
 h nb σ H _ W fun f v H1 x ⟨bs,ex,q⟩ s1 hv=>by
  subst ex
  obtain⟨a,xs,rfl,na,hx,hd⟩:=hv.dJ
  have e:=C9 hd
  subst e
  exact⟨a,bs,rfl, .of hx,z true _ H1 _ q s1 (.bl _)⟩
end
end L2
set_option maxRecDepth 100000
set_option maxHeartbeats 4000000
namespace L2
open PySem PySem.Spec PyProof.Rows
def g9:PyData->String->Bool
 | .bool _,T=>T=="bool" ||T=="int"
 | .int _,T=>T=="int"
 | .str _,T=>T=="str"
 | .list _,T=>T=="list"
 | .tuple _,T=>T=="tuple"
 |_,_=>false
def wU:PyData->String
 | .none=> "NoneType" | .bool _=> "bool" | .int _=> "int" | .str _=> "str" | .list _=> "list" | .tuple _=> "tuple" | .dict _=> "dict"
theorem EZ(ds:List PyData):g9 (.list ds) "list"=true/\g9 (.list ds) "tuple"=false:=⟨rfl,rfl⟩
theorem Fv(ds:List PyData):g9 (.tuple ds) "list"=false/\g9 (.tuple ds) "tuple"=true:=⟨rfl,rfl⟩
theorem RX{K:PySem.W.Frag}{nb:Addr->Prop}{H:Hp}{d:PyData}{v:V}(h:ai nb H d v):gP K H v (.type (wU d)):=by
 cases d<;>unfold ai at h
 ·subst h;exact .aM
 ·subst h;exact .bl _
 ·subst h;exact .int _
 ·subst h;exact .str _
 ·obtain⟨a,xs,rfl,_,e,_⟩:=h;exact .lst e
 ·obtain⟨a,xs,rfl,_,e,_⟩:=h;exact .tup e
 ·obtain⟨a,xs,rfl,_,e,_⟩:=h;exact e.elim .dK fun⟨_,e⟩=> .Dh e
def mS(T:String):Prop:=T="int" \/T="bool" \/T="list" \/T="tuple" \/T="str"
theorem BO{K:PySem.W.Frag}{d:PyData}{T:String}(hT:mS T):PySem.W.kitOne K (.type (wU d)) (.type T)=some (g9 d T):=by
 rcases hT with rfl|rfl|rfl|rfl|rfl<;>cases d<;>(with_unfolding_all rfl)
theorem B9{K:PySem.W.Frag}{d:PyData}:∀{Ts:List String},(∀T∈Ts,mS T)->PySem.W.kitAny K (.type (wU d)) (Ts.map Value.type)=some (Ts.any (g9 d))
  |[],_=>rfl
  | T :: r, h => by
    rw[bF]
    unfold PySem.W.kitAny
    rw[BO (h T (bG ..)),mR]
    cases g9 d T with
    |true=>rfl
    |false=>exact B9 fun T m=>h T (cA _ m)
def se:List V->Hp->VK->Prop:=fun xs H Q=>∃(x:V) (tp:Addr) (Ts:List String) (nb:Addr->Prop) (d:PyData),xs=[x, .ref tp]/\H tp=some (.tup (Ts.map V.ty))/\ai nb H d x/\(∀T∈Ts,mS T)/\Q (.bl (Ts.any (g9 d))) H
theorem Hu:∀{Ts:List String} {us:List Value},Vals (Ts.map V.ty) us->us=Ts.map Value.type
 |[],_, .nil=>rfl
 |T::r,_, .cons h t=>by rw[bF,Hu t,show _=Value.type T from h]
section
variable{X:Cx}
theorem BK:eE X (.builtin "isinstance") se:=by
 intro pins s σ H xs us Q I rv h
 obtain⟨x,tp,Ts,nb,d,rfl,ht,hd,h5,q⟩:=h
 obtain⟨u,v,rfl,ru,rv⟩:=rv.two
 cases (show v=Value.ref tp from rv)
 obtain⟨_,its,vt,o,ho,hc,n,hdat⟩:=(show bq X.prog X.w H s.heap tp (.tup (Ts.map V.ty)) from I.hok tp _ ht)
 have e:=Hu vt
 subst e
 obtain⟨c0,d0,dt,sl⟩:=o
 dsimp only at hc hdat
 subst hc hdat
 have fin:∀tk,EP X pins σ Q (.bool (Ts.any (g9 d))) {s with toks:=tk}:=fun tk=>⟨.bl _,H,I.tok tk,rfl,q⟩
 have ka:=B9 (K:=X.K) (d:=d) h5
 cases d<;>unfold ai at hd
 ·subst hd;cases (show u=Value.none from ru);exact mP PySem.W.kitx_none I.dS True.intro ho ka (fun z=>nomatch z) fin
 ·subst hd;cases (show u=Value.bool _ from ru);exact mP PySem.W.kitx_bool I.dS True.intro ho ka (fun z=>nomatch z) fin
 ·subst hd;obtain⟨t,rfl⟩:=(show∃t,u=Value.int _ t from ru);exact mP PySem.W.kitx_int I.dS True.intro ho ka (fun z=>nomatch z) fin
 ·subst hd;obtain⟨t,rfl⟩:=(show∃t,u=Value.str _ t from ru);exact mP PySem.W.kitx_str I.dS True.intro ho ka (fun z=>nomatch z) fin
 ·obtain⟨a,ys,rfl,_,ea,_⟩:=hd
  cases (show u=Value.ref a from ru)
  obtain⟨_,_,n,_,h1⟩:=(show bq X.prog X.w H s.heap a (.lst ys) from I.hok a _ ea)
  exact mP yH I.dS ⟨_,h1,rfl⟩ ho ka (fun z=>nomatch z) fin
 ·obtain⟨a,ys,rfl,_,ea,_⟩:=hd
  cases (show u=Value.ref a from ru)
  obtain⟨_,_,_,o',h1,h2,_⟩:=(show bq X.prog X.w H s.heap a (.tup ys) from I.hok a _ ea)
  exact mP PySem.W.kitx_tuple I.dS ⟨o',h1,h2⟩ ho ka (fun z=>nomatch z) fin
 ·obtain⟨a,ys,rfl,_,ea,_⟩:=hd
  cases (show u=Value.ref a from ru)
  obtain⟨_,_,vs,_,dd⟩:=(show bq X.prog X.w H s.heap a (.dK ys) from ea.ok I.hok)
  exact mP tT I.dS dd.typeIs ho ka (fun z=>nomatch z) fin
end
section
variable{G:Gx}{ρ:Rh}{ta tb te:TE}{K:PySem.W.Frag}{Φ:Pd}{T U:String}
theorem Ev.RY(hT:mS T)(h:Ev G ρ te fun _ x=>Φ true (.bool (g9 x T))):Ev G ρ (eS (jP K) (bx te (bx (tC (.ty T)) bR))) Φ:=fun nb σ H Q W z=>
 h nb σ H _ W fun f v H1 d q s1 hv=>⟨v,T,_,_,rfl,RX hv,BO hT,z true _ H1 _ q s1 (.bl _)⟩
theorem Ev.PX(hT:mS T)(hU:mS U)(h:Ev G ρ te fun _ x=>Φ true (.bool (g9 x T||g9 x U))):Ev G ρ (eS se (bx te (bx (pV (bx (tC (.ty T)) (bx (tC (.ty U)) bR))) bR))) Φ:=fun nb σ H Q W z=>
 h nb σ H _ W fun f v H1 d q s1 hv=>by
  refine⟨by show 2<=sizeLine;decide,fun p hp=>⟨v,p,[T,U],G.S nb f,d,rfl,aV,hv.keep (aU.of (dg hp)),fun S m=>?_,?_⟩⟩
  ·rcases aH.mp m with e|m
   ·rw[e];exact hT
   ·rw[bS.mp m];exact hU
  ·rw[mR,mR,List.any_nil,l5]
   exact z true _ _ _ q (s1.trans (.same s1.2 (dg hp))) (.bl _)
theorem Ev.MU(h:Ev G ρ te fun _ x=>∃ds,(x= .list ds\/x= .tuple ds)/\Φ true (.int ds.length)):Ev G ρ (eS (gn K) (bx te bR)) Φ:=fun nb σ H Q W z=>
 h nb σ H _ W fun f v H1 d ⟨ds,e,q⟩ s1 hv=>by
  rcases e with e|e
  ·subst e
   obtain⟨a,xs,rfl,n,hx,hd⟩:=hv.dJ
   exact⟨a,xs,rfl, .inl (.of hx),by rw[hd.length];exact z true _ H1 _ q s1 (.int _)⟩
  ·subst e
   obtain⟨a,xs,rfl,n,hx,hd⟩:=hv.ofT
   exact⟨a,xs,rfl, .inr (.of hx),by rw[hd.length];exact z true _ H1 _ q s1 (.int _)⟩
theorem Ev.zK(h:Ev G ρ ta fun f x=>∃ds,(x= .list ds\/x= .tuple ds)/\Ev G ρ tb fun _ y=>∃k,y= .int k/\∃e,bD ds k=some e/\Φ f e):Ev G ρ (dw (t9 K) ta tb) Φ:=
 Ev.i7 (h.mono fun f x ⟨ds,ex,q⟩=>q.mono fun g y ⟨k,ey,e,he,p⟩ nb σ H u v Q W hu hv z=>by
  subst ey
  rcases ex with ex|ex
  ·subst ex
   obtain⟨a,xs,rfl,n,hx,hd⟩:=hu.dJ
   obtain⟨w,hw,hD⟩:=hd.bD he
   exact .inl ⟨a,xs,k,w,rfl,hv.bX, .of hx,hw,z f _ H _ p (.refl W.az) hD⟩
  ·subst ex
   obtain⟨a,xs,rfl,n,hx,hd⟩:=hu.ofT
   obtain⟨w,hw,hD⟩:=hd.bD he
   exact .inr (.inl ⟨a,xs,k,w,rfl,hv.bX, .of hx,hw,z f _ H _ p (.refl W.az) hD⟩))
end
theorem Callee.void{P:Program}{w:World}{K:PySem.W.Frag}{mg:Str->Option Value}{base:Heap}{x:Str}{st:Stmt}{k:Nat}{ps:List Str}{sp:Sp}{f:Addr}{fd:FuncData}(F:bO K x x st f fd)(b:Binds K fd ps [])(m:mg x=some (.ref f))(hv:∀vs H Q E,¬sp vs H Q E):Callee P w K mg base x k ps sp:=
 ⟨f,fd,⟨fun vs H Q E h=>(hv vs H Q E h).elim,fun A outer s H args us vs Q E _ _ _ _ h=>(hv vs H Q E h).elim⟩,b,F.kp,m⟩
end L2
set_option maxRecDepth 100000
set_option maxHeartbeats 4000000
namespace L2
open PySem PySem.Spec PyProof.Rows
section
variable{G:Gx}{ρ cV:Rh}{te:TE}{gt:TG}{n i:Nat}{it:Nat->PyData->Prop}{fi:Bool}{Θ:Bool->List PyData->Prop}{E:DE}
theorem vR(os:List Int):fM (os.map PyData.int)=true:=by
 unfold fM
 rw[rA]
 intro x hx
 obtain⟨y,_,rfl⟩:=bU.mp hx
 rfl
theorem fq.ints(P:Int->Prop)(ht:∀i d,it i d->Gv G cV gt fi d fun fO=>Wk cV fO/\Ev G fO te fun _ e=>∃r:Int,e= .int r/\P r)(h:∀os:List Int,os.length=n->(∀x∈os,P x)->Θ true (os.map .int)):fq G cV n it fi gt nR te Θ:=by
 refine⟨false,fun i ds=>ds.length=i/\∃os:List Int,ds=os.map .int/\∀x∈os,P x,⟨rfl,[],rfl,fun _ h=>nomatch h⟩,?_,?_⟩
 ·rintro i d ds hd hl ⟨hl2,os,rfl,ho⟩
  refine fun nb σ H v Q W hv z=>ht i d hd nb σ H v Q W hv fun σ' ρ' ⟨w,q⟩ W'=>z σ' ρ' ⟨w,Tv.qc (ue (q.mono fun f e ⟨r,ee,hr⟩=>⟨fun z=>(by cases z),?_,os++[r],?_,fun x hx=>?_⟩))⟩ W'
  ·rw[cO,gQ,hl2]
  ·rw[ee];simp
  ·rcases iQ.mp hx with h|h
   ·exact ho x h
   ·rw[bS.mp h];exact hr
 ·rintro ds hl ⟨hl2,os,rfl,ho⟩
  rw[vR,sE]
  exact h os (by rw[aj] at hl2;exact hl2) ho
theorem fq.rel{α:Type}(φ:α->PyData)(fl:Bool)(P:Nat->α->Prop)(ht:∀i d,it i d->Gv G cV gt fi d fun fO=>Wk cV fO/\Ev G fO te fun f e=>(fl=true->f=true)/\∃r:α,e=φ r/\P i r)
  (h:∀os:List α,os.length=n->(∀(i:Nat) x,os[i]?=some x->P i x)->Θ (fl||fM (os.map φ)) (os.map φ)):fq G cV n it fi gt nR te Θ:=by
 refine⟨fl,fun i ds=>ds.length=i/\∃os:List α,ds=os.map φ/\∀(i:Nat) x,os[i]?=some x->P i x,⟨rfl,[],rfl,fun j x e=>by simp at e⟩,?_,?_⟩
 ·rintro i d ds hd hl ⟨hl2,os,rfl,ho⟩
  refine fun nb σ H v Q W hv z=>ht i d hd nb σ H v Q W hv fun σ' ρ' ⟨w,q⟩ W'=>z σ' ρ' ⟨w,Tv.qc (ue (q.mono fun f e ⟨hf,r,ee,hr⟩=>⟨hf,?_,os++[r],?_,fun j x hj=>?_⟩))⟩ W'
  ·rw[cO,gQ,hl2]
  ·rw[ee];simp
  ·rw[aj] at hl2
   rcases vP j os.length with h|h|h
   ·exact ho j x (by rwa[g7 h] at hj)
   ·subst h
    simp at hj
    subst hj
    rw[hl2];exact hr
   ·rw[cQ (by rw[cO,gQ];omega)] at hj
    cases hj
 ·rintro ds hl ⟨hl2,os,rfl,ho⟩
  exact h os (by rw[aj] at hl2;exact hl2) ho
theorem Sv.S5(h:∀a,E.nx (ρ.set i (.own a true []))):Sv G ρ (jb (lV bR) (gG i)) E:=Sv.wH (aA.lst (Av.nil ⟨by decide,fun a=>h a⟩))
end
def Po:R2:=fun x y H Q=>∃a b:Bool,x= .bl a/\y= .bl b/\Q (.bl (a==b)) H
theorem Ev.UM{G:Gx}{ρ:Rh}{ta:TE}{b:Bool}{Φ:Pd}(h:Ev G ρ ta fun _ x=>∃a,x= .bool a/\Φ true (.bool (a==b))):Ev G ρ (dw Po ta (tC (.bl b))) Φ:=fun nb σ H Q W z=>
 h nb σ H _ W fun f v H1 d ⟨a,e,q⟩ s1 hv=>by
  subst e
  unfold ai at hv
  subst hv
  exact⟨a,b,rfl,rfl,z true _ H1 _ q s1 (.bl _)⟩
theorem qI{X:Cx}{K:PySem.W.Frag}{a:Expr}{ta:TE}(hK:X.K=K)(ha:PE X a ta)(he:∀whole,isTrue a X.env whole=(do let v<-whole;standAt a.pos;holding [v] (truthy v))):PT X a (Ct K ta):=by
 subst hK
 exact O1 ha he
theorem iA{X:Cx}{K:PySem.W.Frag}{es:List Expr}{k:Nat}{t:gX}{n:Nat}{pos:Pos}(hK:X.K=K)(hc:X.calm=true)(h:qz X es t)(hn:(assignEach es X.env).length=n:=by rfl)(hst:(assignEach es X.env).findIdx? (·.1)=none:=by rfl):PG X (.Tuple es k pos) (tE K n t):=by
 subst hK
 exact HG hc h hn hst
theorem Dc(cs:List ao):PyData.depthAll (cs.map eT)<=2/\PyData.canLayAll0 (cs.map eT)=true:=by
  induction cs with
  |nil=>simp[PyData.depthAll,PyData.canLayAll0]
  | cons a r ih =>
    have h:=NN a
    simp[PyData.depthAll,PyData.depth,PyData.canLayAll0,PyData.canLay0,ih.2,h.2.2]
    have:=ih.1
    have:=h.2.1
    omega
theorem BZ{α:Type}{xs:List α}{lo hi:Option Int}:(eG xs lo hi).length<=xs.length:=by
 unfold eG
 rw[kF,Ab];omega
def SO(p:Int):Prop:=2<=p/\p<=10^60
theorem pick{L:List Int}{k:Int}(h0:0<=k)(h1:k<L.length)(P:Int->Prop)(hP:∀x∈L,P x):∃x,bD (L.map PyData.int) k=some (.int x)/\P x:=by
 have hL:k.toNat<L.length:=by omega
 exact⟨L[k.toNat],gp h0 (by rw[aI,aB hL];rfl),hP _ (dZ hL)⟩
end L2
set_option maxRecDepth 100000
set_option maxHeartbeats 4000000
namespace L2
open PySem PySem.Spec PyProof.Rows
theorem JT{α:Type}{xs:List α}{k:Int}(h0:0<=k)(h1:k<=xs.length):eG xs none (some k)=xs.take k.toNat:=by
 unfold eG HT.dO
 simp only[zN,Nat.sub_zero]
 congr 1
 first|omega|(split<;>omega)
theorem PB{α:Type}{xs:List α}{k:Int}(h0:0<=k)(h1:k<=xs.length):eG xs (some k) none=xs.drop k.toNat:=by
 have e:HT.dO xs.length 0 (some k)=k.toNat:=by
  show(if k<0 then _ else _)=_
  rw[if_neg (by omega)];omega
 unfold eG
 rw[e,HT.MQ]
 exact xV (by rw[Ab];omega)
theorem Sg{α:Type}{xs:List α}{k:Int}{y:α}(h0:0<=k)(h1:k<xs.length):eG xs none (some k)++[y]++eG xs (some (k+1)) none=xs.set k.toNat y:=by
 rw[JT h0 (by omega),PB (by omega) (by omega),List.set_eq_take_append_cons_drop,if_pos (by omega),pL]
 congr 2
 show[y]++_=_
 rw[show(k+1).toNat=k.toNat+1 by omega]
 rfl
end L2
set_option maxRecDepth 100000
set_option maxHeartbeats 4000000
set_option maxRecDepth 100000
set_option maxHeartbeats 4000000
namespace L2
open PySem PySem.Spec PyProof.Rows
def HM(K:PySem.W.Frag)(te:TE)(ts:TO):TE:=fun σ H Q=>te σ H fun x H1=>ts σ H1 fun k H2=>k=some (-1)/\∃a xs,x= .ref a/\aS K H2 a xs/\∀p,H2 p=none->Q (.ref p) (upd H2 p (.lst xs.reverse))
theorem af.rev{nb:Addr->Prop}{H:Hp}:∀{ds:List PyData} {xs:List V},af nb H ds xs->af nb H ds.reverse xs.reverse
  |[],xs,h=>by unfold af at h;subst h;exact .nil
  | d :: ds, xs, h => by
    unfold af at h
    obtain⟨y,ys,e,h1,h2⟩:=h
    subst e
    rw[List.reverse_cons,List.reverse_cons]
    exact af.append (af.rev h2) (.cons h1 .nil)
section
variable{G:Gx}{ρ:Rh}{Φ:Pd}{ta tb te:TE}{K:PySem.W.Frag}
theorem aA.rev{ts:TO}{Θ:Bool->List PyData->Prop}(h:Ev G ρ te fun f x=>∃ds,x= .list ds/\Ov G ρ ts fun o=>o=some (-1)/\Θ (f||fM ds.reverse) ds.reverse):aA G ρ (HM K te ts) Θ:=fun nb σ H Q W z=>
 h nb σ H _ W fun f v H1 d ⟨ds,e,q⟩ s1 hv=>q nb σ H1 _ (W.step s1) fun o H2 ⟨eo,q2⟩ s2=>by
  subst e
  obtain⟨a,xs,rfl,n,hx,hd⟩:=(hv.keep s2.dz).dJ
  exact⟨eo,a,xs,rfl, .of hx,fun p hp=>aA.fin W (s1.trans s2) hp hd.rev q2 z⟩
theorem Ev.rev{ts:TO}(h:Ev G ρ te fun f x=>∃ds,x= .list ds/\Ov G ρ ts fun o=>o=some (-1)/\Φ (f||fM ds.reverse) (.list ds.reverse)):Ev G ρ (HM K te ts) Φ:=(aA.rev (Θ:=fun f ds=>Φ f (.list ds)) h).ev
theorem Ev.U1{ng:Bool}(h:Ev G ρ ta fun _ x=>∃k:Int,x= .int k/\Ev G ρ tb fun _ y=>∃ns:List Int,y= .list (ns.map .int)/\Φ true (.bool (decide (k∈ns) !=ng))):Ev G ρ (dw (LM K ng) ta tb) Φ:=fun nb σ H Q W z=>
 h nb σ H _ W fun f v H1 d ⟨k,e,q⟩ s1 hv=>q nb σ H1 _ (W.step s1) fun g u H2 d2 ⟨ns,e2,p⟩ s2 hu=>by
  subst e e2
  have hk:=hv.bX
  subst hk
  obtain⟨a,xs,rfl,na,hx,hd⟩:=hu.dJ
  have ex:=ly hd
  subst ex
  refine⟨a,ns.map V.int,rfl, .inl (.of hx),rfl,?_,?_⟩
  ·rw[rA]
   intro x hx
   obtain⟨o,_,rfl⟩:=bU.mp hx
   rfl
  ·have e:oE (V.int k) (ns.map V.int)=decide (k∈ns):=by
    unfold oE
    rw[List.any_map,kM,rP,decide_eq_true_eq]
    constructor
    ·rintro⟨o,m,h⟩
     have:o=k:=eq_of_beq h
     exact this▸m
    ·intro m
     exact⟨k,m,beq_self_eq_true k⟩
   have e2:(if ng=true then !oE (V.int k) (ns.map V.int) else oE (V.int k) (ns.map V.int))=(decide (k∈ns) !=ng):=by
    rw[e]
    cases ng<;>simp
   rw[e2]
   exact z true _ H2 _ p (s1.trans s2) (.bl _)
end
end L2
set_option maxRecDepth 100000
set_option maxHeartbeats 1000000
namespace PC
def aE(n:Nat):Prop:=2<=n/\∀d,d∣n->d=1\/d=n
def tr(q:Nat):Nat->Nat->Bool
 |0,_=>false
 |f+1,d=>if q<d*d then true else if q%d=0 then false else tr q f (d+1)
theorem Eg{q:Nat}:∀{f d:Nat},tr q f d=true->∀e,d<=e->e*e<=q->q%e≠0
  |0,_,h=>by simp[tr] at h
  | f + 1, d, h => by
    intro e hde hee
    unfold tr at h
    by_cases h1:q<d*d
    · have:=Nat.mul_le_mul hde hde
      omega
    · rw[if_neg h1] at h
      by_cases h2:q%d=0
      · rw[if_pos h2] at h;cases h
      · rw[if_neg h2] at h
        by_cases h3:d=e
        · rw[<-h3];exact h2
        · exact Eg h e (by omega) hee
theorem B0{q:Nat}(h2:2<=q)(h:∀e,2<=e->e*e<=q->q%e≠0):aE q:=by
 refine⟨h2,fun d hd=>?_⟩
 obtain⟨e,he⟩:=hd
 by_cases d1:d=1
 ·exact .inl d1
 by_cases e1:e=1
 ·right;rw[he,e1,Am]
 exfalso
 have d0:d≠0:=fun z=>by rw[z,wO] at he;omega
 have e0:e≠0:=fun z=>by rw[z,Nat.mul_zero] at he;omega
 by_cases hle:d<=e
 ·refine h d (by omega) (by rw[he];exact Nat.mul_le_mul_left d hle) ?_
  rw[he];exact Nat.mul_mod_right d e
 ·refine h e (by omega) (by rw[he];exact Nat.mul_le_mul_right e (by omega)) ?_
  rw[he];exact Nat.mul_mod_left d e
theorem bT(f:Nat){q:Nat}(h2:2<=q)(h:tr q f 2=true):aE q:=B0 h2 (Eg h)
def pw(N:Nat):Nat->Nat->Nat->Nat->Nat
 |0,_,_,acc=>acc
 |f+1,e,g,acc=>pw N f (e/2) (g*g%N) (if e%2=1 then acc*g%N else acc)
theorem BW{N:Nat}:∀(f e g acc:Nat),e<2^f->pw N f e g acc%N=acc*g^e%N
  | 0, e, g, acc, h => by
    have:e=0:=by simp at h;exact h
    subst this
    simp[pw]
  | f + 1, e, g, acc, h => by
    have h2:e/2<2^f:=by rw[Nat.pow_succ] at h;omega
    unfold pw
    rw[BW f _ _ _ h2]
    have e2:g^e=(g*g)^(e/2)*g^(e%2):=by
      conv=>lhs;rw[<-uW e 2]
      rw[tS,Nat.pow_mul,Nat.pow_two]
    have m1:(g*g%N)^(e/2)%N=(g*g)^(e/2)%N:=(Nat.pow_mod _ _ _).symm
    rw[e2]
    by_cases ho:e%2=1
    · rw[if_pos ho,ho,Nat.pow_one,j5,m1,wc,<-j5]
      congr 1
      rw[oU,p8 g]
    · have ho':e%2=0:=by omega
      rw[if_neg ho,ho',Nat.pow_zero,Am,j5,m1,<-j5]
theorem LK{P:Nat->Prop}:∀n,P n->∃m,P m/\∀k,k<m->¬P k:=by
  intro n
  induction n using Nat.strongRecOn with
  | _ n ih =>
    intro h
    by_cases hk:∃k,k<n/\P k
    · obtain⟨k,hk1,hk2⟩:=hk
      exact ih k hk1 hk2
    · exact⟨n,h,fun k hk1 hk2=>hk ⟨k,hk1,hk2⟩⟩
theorem FD:∀(n:Nat) (f:Nat->Nat),(∀i,i<n+1->f i<n)->∃i j,i<j/\j<n+1/\f i=f j
  |0,f,h=>absurd (h 0 (by omega)) (by omega)
  | n + 1, f, h => by
    by_cases he:∃i,i<n+1/\f i=f (n+1)
    · obtain⟨i,h1,h2⟩:=he
      exact⟨i,n+1,h1,by omega,h2⟩
    · have hne:∀i,i<n+1->f i≠f (n+1):=fun i hi e=>he ⟨i,hi,e⟩
      have sP:=h (n+1) (by omega)
      obtain⟨i,j,h1,h2,h3⟩:=FD n (fun i=>if f i=n then f (n+1) else f i) (fun i hi=>by
        have g1:=h i (by omega)
        have g2:=hne i hi
        by_cases c:f i=n
        · simp only[c,if_true]
          have:f (n+1)≠n:=fun z=>g2 (c.trans z.symm)
          omega
        · simp only[c,if_false]
          omega)
      refine⟨i,j,h1,by omega,?_⟩
      have gi:=hne i (by omega)
      have gj:=hne j (by omega)
      by_cases ci:f i=n
      · by_cases cj:f j=n
        · rw[ci,cj]
        · simp only[ci,cj,if_true,if_false] at h3
          exact absurd h3.symm gj
      · by_cases cj:f j=n
        · simp only[ci,cj,if_true,if_false] at h3
          exact absurd h3 gi
        · simpa only[ci,cj,if_false] using h3
def jr:List (Nat×Nat)->Nat
 |[]=>1
 |qe::r=>Nat.lcm (qe.1^qe.2) (jr r)
theorem Gh{o:Nat}:∀{fs:List (Nat×Nat)},(∀qe∈fs,qe.1^qe.2∣o)->jr fs∣o
 |[],_=>⟨o,by simp[jr]⟩
 |qe::r,h=>Nat.lcm_dvd (h qe bG) (Gh fun x hx=>h x (cA _ hx))
theorem Mm{q m:Nat}(hq:aE q)(h:¬q∣m):Nat.Coprime q m:=by
 rcases hq.2 _ (Nat.gcd_dvd_left q m) with e|e
 ·exact e
 ·exact absurd (e▸Nat.gcd_dvd_right q m) h
theorem NH{q m:Nat}(h:Nat.Coprime q m)(e:Nat):Nat.Coprime (q^e) m:=Nat.Coprime.pow_left e h
theorem JA(a b c d:Nat):(a%d)*(b%d)%d*(c%d)%d=a*b*c%d:=by
 rw[<-j5 a b,<-j5 (a*b) c]
theorem ER{N g d:Nat}{fs:List (Nat×Nat)}(hN:2<=N)(hd:d∣N)(d1:1<d)(h1:g^(N-1)%N=1%N)
  (hq:∀qe∈fs,aE qe.1/\qe.1^qe.2∣N-1/\Nat.gcd (g^((N-1)/qe.1)%N+(N-1)) N=1):jr fs<d:=by
 have down:∀{a b:Nat},a%N=b%N->a%d=b%d:=fun{a b} e=>by
  rw[<-vE a hd,e,vE b hd]
 have one:1%d=1:=Nat.mod_eq_of_lt d1
 have f1:g^(N-1)%d=1:=by rw[down h1,one]
 obtain⟨o,⟨o0,o1⟩,CQ⟩:=LK (P:=fun k=>0<k/\g^k%d=1) (N-1) ⟨by omega,f1⟩
 have per:∀q r:Nat,g^(o*q+r)%d=g^r%d:=fun q r=>by
  rw[tS,Nat.pow_mul,j5,Nat.pow_mod,o1,Nat.one_pow,one,uR,wc]
 have Sj:∀k,g^k%d=1->o∣k:=fun k hk=>by
  have e:=uW k o
  rw[<-e,per] at hk
  by_cases h0:k%o=0
  ·exact Dv h0
  ·exact absurd ⟨by omega,hk⟩ (CQ (k%o) (sX _ o0))
 have od:=Sj _ f1
 have parts:jr fs∣o:=Gh fun qe rm=>by
  obtain⟨pq,⟨c,hc⟩,gq⟩:=hq qe rm
  obtain⟨m,hm⟩:=od
  by_cases BB:qe.1∣m
  ·exfalso
   obtain⟨m',hm'⟩:=BB
   have q0:0<qe.1:=by have:=pq.1;omega
   have ek:(N-1)/qe.1=o*m':=by
    rw[hm,hm',show o*(qe.1*m')=qe.1*(o*m') by rw[<-oU,p8 o,oU],Nat.mul_div_cancel_left _ q0]
   have e1:g^((N-1)/qe.1)%d=1:=by
    have:=per m' 0
    rw[Nat.add_zero,Nat.pow_zero,one] at this
    rw[ek];exact this
   have e2:d∣g^((N-1)/qe.1)%N+(N-1):=by
    have e3:(g^((N-1)/qe.1)%N)%d=1:=by rw[vE _ hd];exact e1
    obtain⟨k,hk⟩:=hd
    have e4:=uW (g^((N-1)/qe.1)%N) d
    rw[e3] at e4
    refine⟨(g^((N-1)/qe.1)%N)/d+k,?_⟩
    rw[Nat.mul_add,<-hk]
    omega
   have e5:=Nat.dvd_gcd e2 hd
   rw[gq] at e5
   have:=xu (by omega) e5
   omega
  ·have cp:=NH (Mm pq BB) qe.2
   have PF:qe.1^qe.2∣o*m:=⟨c,by rw[<-hm];exact hc⟩
   exact cp.dvd_of_dvd_mul_right PF
 have Jd:o<d:=by
  refine Nat.lt_of_not_le fun hle=>?_
  have unit:∀i,i<=N-1->(g^i%d)*(g^(N-1-i)%d)%d=1:=fun i hi=>by
   rw[<-j5,<-tS,show i+(N-1-i)=N-1 by omega];exact f1
  have UC:o<=N-1:=xu (by omega) od
  have pos:∀i,i<o->0<g^i%d:=fun i hi=>by
   refine Nat.pos_of_ne_zero fun z=>?_
   have:=unit i (by omega)
   rw[z,wO,Nat.zero_mod] at this
   cases this
  obtain⟨i,j,h1,h2,h3⟩:=FD (d-1) (fun i=>g^i%d-1) (fun i hi=>by
   have a1:=pos i (by omega)
   have a2:=sX (g^i) (show d>0 by omega)
   omega)
  have pi:=pos i (by omega)
  have pj:=pos j (by omega)
  have e:g^i%d=g^j%d:=by omega
  have ej:g^j=g^i*g^(j-i):=by rw[<-tS,show i+(j-i)=j by omega]
  have u:=unit i (by omega)
  have k1:g^(j-i)%d=1:=by
   have w:(g^i%d)*(g^(N-1-i)%d)%d*(g^(j-i)%d)%d=(g^j%d)*(g^(N-1-i)%d)%d:=by
    rw[JA,<-j5 (g^j),ej]
    congr 1
    rw[oU,oU,p8 (g^(N-1-i))]
   rw[u,uR,wc,<-e,u] at w
   exact w
  exact CQ (j-i) (by omega) ⟨by omega,k1⟩
 exact zX (xu o0 parts) Jd
theorem O5{N g:Nat}(fs:List (Nat×Nat))(hN:2<=N)(h1:g^(N-1)%N=1%N)
  (hq:∀qe∈fs,aE qe.1/\qe.1^qe.2∣N-1/\Nat.gcd (g^((N-1)/qe.1)%N+(N-1)) N=1) (hF:N<(jr fs+1)*(jr fs+1)):aE N:=by
 refine⟨hN,fun d hd=>?_⟩
 obtain⟨e,he⟩:=id hd
 by_cases d1:d=1
 ·exact .inl d1
 by_cases e1:e=1
 ·right;rw[he,e1,Am]
 exfalso
 have d0:d≠0:=fun z=>by rw[z,wO] at he;omega
 have e0:e≠0:=fun z=>by rw[z,Nat.mul_zero] at he;omega
 have b1:=ER hN hd (by omega) h1 hq
 have b2:=ER hN ⟨d,by rw[he,p8]⟩ (show 1<e by omega) h1 hq
 have:=Nat.mul_le_mul (show jr fs+1<=d from b1) (show jr fs+1<=e from b2)
 omega
def Ds(N g:Nat)(fs:List (Nat×Nat)):Bool:=
 decide (2<=N) && decide (N<2^140) &&(pw N 140 (N-1) g 1%N==1) && fs.all (fun qe=>((N-1)%qe.1^qe.2==0) &&(Nat.gcd (pw N 140 ((N-1)/qe.1) g 1%N+(N-1)) N==1)) && decide (N<(jr fs+1)*(jr fs+1))
theorem cL{N:Nat}(g:Nat)(fs:List (Nat×Nat))(hp:∀qe∈fs,aE qe.1)(h:Ds N g fs=true):aE N:=by
 unfold Ds at h
 simp only[cK,decide_eq_true_eq,beq_iff_eq,rA] at h
 obtain⟨⟨⟨⟨h1,h2⟩,h3⟩,h4⟩,h5⟩:=h
 have P:∀e,e<=N-1->pw N 140 e g 1%N=g^e%N:=fun e he=>by
  rw[BW 140 e g 1 (by omega),uR]
 refine O5 (g:=g) fs h1 (by rw[<-P _ (aK _),h3,Nat.mod_eq_of_lt (by omega)]) (fun qe rm=>?_) h5
 obtain⟨g1,g2⟩:=h4 qe rm
 refine⟨hp qe rm,Dv g1,?_⟩
 rw[<-P _ (Nat.div_le_self _ _)]
 exact g2
end PC
set_option maxRecDepth 100000
set_option maxHeartbeats 1000000
namespace PC
theorem Ae:aE 2:=bT 4 (by decide) (by decide+kernel)
theorem K3:aE 3:=bT 4 (by decide) (by decide+kernel)
theorem Ik:aE 5:=bT 5 (by decide) (by decide+kernel)
theorem zS:aE 7:=bT 5 (by decide) (by decide+kernel)
theorem JJ:aE 11:=bT 6 (by decide) (by decide+kernel)
theorem Rw:aE 101:=bT 13 (by decide) (by decide+kernel)
theorem ON:aE 10007:=bT 103 (by decide) (by decide+kernel)
theorem TV:aE 65537:=bT 259 (by decide) (by decide+kernel)
theorem OG:aE 1000003:=bT 1003 (by decide) (by decide+kernel)
theorem Oo:aE 17:=bT 7 (by decide) (by decide+kernel)
theorem PD:aE 998244353:=cL 3 [(17,1),(7,1),(2,23)] (fun qe h=>by
 simp only[aH,bY,or_false] at h
 rcases h with rfl|rfl|rfl
 ·exact Oo
 ·exact zS
 ·exact Ae) (by decide+kernel)
theorem Kc:aE 148721:=bT 388 (by decide) (by decide+kernel)
theorem N4:aE 500000003:=cL 2 [(148721,1)] (fun qe h=>by
 simp only[aH,bY,or_false] at h
 subst h;exact Kc) (by decide+kernel)
theorem OA:aE 1000000007:=cL 2 [(500000003,1)] (fun qe h=>by
 simp only[aH,bY,or_false] at h
 subst h;exact N4) (by decide+kernel)
theorem EO:aE 331:=bT 21 (by decide) (by decide+kernel)
theorem Dj:aE 151:=bT 15 (by decide) (by decide+kernel)
theorem QO:aE 2147483647:=cL 3 [(331,1),(151,1)] (fun qe h=>by
 simp only[aH,bY,or_false] at h
 rcases h with rfl|rfl
 ·exact EO
 ·exact Dj) (by decide+kernel)
theorem MR:aE 250049:=bT 503 (by decide) (by decide+kernel)
theorem LB:aE 26005097:=cL 2 [(250049,1)] (fun qe h=>by
 simp only[aH,bY,or_false] at h
 subst h;exact MR) (by decide+kernel)
theorem SN:aE 1000000000039:=cL 2 [(26005097,1)] (fun qe h=>by
 simp only[aH,bY,or_false] at h
 subst h;exact LB) (by decide+kernel)
theorem NU:aE 234931:=bT 487 (by decide) (by decide+kernel)
theorem OQ:aE 8740842787:=cL 2 [(234931,1)] (fun qe h=>by
 simp only[aH,bY,or_false] at h
 subst h;exact NU) (by decide+kernel)
theorem SJ:aE 52445056723:=cL 2 [(8740842787,1)] (fun qe h=>by
 simp only[aH,bY,or_false] at h
 subst h;exact OQ) (by decide+kernel)
theorem JI:aE 1000000000000000003:=cL 2 [(52445056723,1)] (fun qe h=>by
 simp only[aH,bY,or_false] at h
 subst h;exact SJ) (by decide+kernel)
theorem IQ:aE 15331:=bT 126 (by decide) (by decide+kernel)
theorem JD:aE 2131:=bT 49 (by decide) (by decide+kernel)
theorem Ia:aE 5594472617641:=cL 2 [(15331,1),(2131,1)] (fun qe h=>by
 simp only[aH,bY,or_false] at h
 rcases h with rfl|rfl
 ·exact IQ
 ·exact JD) (by decide+kernel)
theorem O2:aE 18446744073709551557:=cL 2 [(5594472617641,1)] (fun qe h=>by
 simp only[aH,bY,or_false] at h
 subst h;exact Ia) (by decide+kernel)
theorem Qk:aE 1321:=bT 39 (by decide) (by decide+kernel)
theorem Mc:aE 61:=bT 10 (by decide) (by decide+kernel)
theorem JE:aE 2305843009213693951:=cL 3 [(1321,1),(331,1),(151,1),(61,1)] (fun qe h=>by
 simp only[aH,bY,or_false] at h
 rcases h with rfl|rfl|rfl|rfl
 ·exact Qk
 ·exact EO
 ·exact Dj
 ·exact Mc) (by decide+kernel)
theorem Jp:aE 8707:=bT 96 (by decide) (by decide+kernel)
theorem Qu:aE 1913:=bT 46 (by decide) (by decide+kernel)
theorem Ky:aE 2931542417:=cL 3 [(8707,1),(1913,1)] (fun qe h=>by
 simp only[aH,bY,or_false] at h
 rcases h with rfl|rfl
 ·exact Jp
 ·exact Qu) (by decide+kernel)
theorem LD:aE 2113:=bT 48 (by decide) (by decide+kernel)
theorem Rj:aE 683:=bT 29 (by decide) (by decide+kernel)
theorem PV:aE 618970019642690137449562111:=cL 3 [(2931542417,1),(2113,1),(683,1)] (fun qe h=>by
 simp only[aH,bY,or_false] at h
 rcases h with rfl|rfl|rfl
 ·exact Ky
 ·exact LD
 ·exact Rj) (by decide+kernel)
theorem Le:aE 1097:=bT 36 (by decide) (by decide+kernel)
theorem Qo:aE 131:=bT 14 (by decide) (by decide+kernel)
theorem Qi:aE 67254877:=cL 2 [(1097,1),(131,1)] (fun qe h=>by
 simp only[aH,bY,or_false] at h
 rcases h with rfl|rfl
 ·exact Le
 ·exact Qo) (by decide+kernel)
theorem J4:aE 28059810762433:=cL 3 [(67254877,1)] (fun qe h=>by
 simp only[aH,bY,or_false] at h
 subst h;exact Qi) (by decide+kernel)
theorem Ui:aE 53:=bT 10 (by decide) (by decide+kernel)
theorem MH:aE 37:=bT 9 (by decide) (by decide+kernel)
theorem OY:aE 13:=bT 6 (by decide) (by decide+kernel)
theorem Tg:aE 20394401:=cL 3 [(53,1),(37,1),(13,1)] (fun qe h=>by
 simp only[aH,bY,or_false] at h
 rcases h with rfl|rfl|rfl
 ·exact Ui
 ·exact MH
 ·exact OY) (by decide+kernel)
theorem K8:aE 162259276829213363391578010288127:=cL 3 [(28059810762433,1),(20394401,1)] (fun qe h=>by
 simp only[aH,bY,or_false] at h
 rcases h with rfl|rfl
 ·exact J4
 ·exact Tg) (by decide+kernel)
theorem To:aE 699053:=bT 839 (by decide) (by decide+kernel)
theorem RM:aE 77158673929:=cL 3 [(699053,1)] (fun qe h=>by
 simp only[aH,bY,or_false] at h
 subst h;exact To) (by decide+kernel)
theorem OW:aE 649657:=bT 809 (by decide) (by decide+kernel)
theorem Ss:aE 92737:=bT 307 (by decide) (by decide+kernel)
theorem Se:aE 170141183460469231731687303715884105727:=cL 3 [(77158673929,1),(649657,1),(92737,1)] (fun qe h=>by
 simp only[aH,bY,or_false] at h
 rcases h with rfl|rfl|rfl
 ·exact RM
 ·exact OW
 ·exact Ss) (by decide+kernel)
theorem Qj:aE 7963:=bT 92 (by decide) (by decide+kernel)
theorem PJ:aE 3011:=bT 57 (by decide) (by decide+kernel)
theorem Lf:aE 575438233:=cL 2 [(7963,1),(3011,1)] (fun qe h=>by
 simp only[aH,bY,or_false] at h
 rcases h with rfl|rfl
 ·exact Qj
 ·exact PJ) (by decide+kernel)
theorem QU:aE 52316542391429:=cL 2 [(575438233,1)] (fun qe h=>by
 simp only[aH,bY,or_false] at h
 subst h;exact Lf) (by decide+kernel)
theorem SH:aE 104633084782859:=cL 2 [(52316542391429,1)] (fun qe h=>by
 simp only[aH,bY,or_false] at h
 subst h;exact QU) (by decide+kernel)
theorem RS:aE 179:=bT 16 (by decide) (by decide+kernel)
theorem TM:aE 31:=bT 8 (by decide) (by decide+kernel)
theorem Sa:aE 7935071:=cL 2 [(179,1),(31,1)] (fun qe h=>by
 simp only[aH,bY,or_false] at h
 rcases h with rfl|rfl
 ·exact RS
 ·exact TM) (by decide+kernel)
theorem Tu:aE 15870143:=cL 2 [(7935071,1)] (fun qe h=>by
 simp only[aH,bY,or_false] at h
 subst h;exact Sa) (by decide+kernel)
theorem N3:aE 401321030361983486780957614729:=cL 2 [(104633084782859,1),(15870143,1)] (fun qe h=>by
 simp only[aH,bY,or_false] at h
 rcases h with rfl|rfl
 ·exact SH
 ·exact Tu) (by decide+kernel)
theorem S8:aE 1000000000000000000000000000000000000003:=cL 2 [(401321030361983486780957614729,1)] (fun qe h=>by
 simp only[aH,bY,or_false] at h
 subst h;exact N3) (by decide+kernel)
theorem Iz:aE 25733:=bT 163 (by decide) (by decide+kernel)
theorem Ot:aE 1151:=bT 36 (by decide) (by decide+kernel)
theorem J7:aE 4916701379:=cL 2 [(25733,1),(1151,1)] (fun qe h=>by
 simp only[aH,bY,or_false] at h
 rcases h with rfl|rfl
 ·exact Iz
 ·exact Ot) (by decide+kernel)
theorem LF:aE 83:=bT 12 (by decide) (by decide+kernel)
theorem Kr:aE 23:=bT 7 (by decide) (by decide+kernel)
theorem Q5:aE 1676254721:=cL 5 [(83,1),(23,1),(7,3)] (fun qe h=>by
 simp only[aH,bY,or_false] at h
 rcases h with rfl|rfl|rfl
 ·exact LF
 ·exact Kr
 ·exact zS) (by decide+kernel)
theorem Ls:aE 149927568276670622397029177:=cL 2 [(4916701379,1),(1676254721,1)] (fun qe h=>by
 simp only[aH,bY,or_false] at h
 rcases h with rfl|rfl
 ·exact J7
 ·exact Q5) (by decide+kernel)
theorem Ir:aE 9999999999999999999999999999999999999983:=cL 2 [(149927568276670622397029177,1)] (fun qe h=>by
 simp only[aH,bY,or_false] at h
 subst h;exact Ls) (by decide+kernel)
end PC
namespace L2
open PC
def eK(p:Int):Prop:=2<=p/\∀d:Int,0<d->d∣p->d=1\/d=p
theorem eB{n:Nat}(h:aE n):eK (n:Int):=by
 refine⟨by have:=h.1;omega,fun d d0 hd=>?_⟩
 obtain⟨k,rfl⟩:=rC (vH d0)
 rcases h.2 k (Int.natCast_dvd_natCast.mp hd) with e|e
 ·left;rw[e];rfl
 ·right;rw[e]
theorem IF{p:Int}(h2:2<=p)(h:tB p):eK p:=by
 obtain⟨n,rfl⟩:=rC (show 0<=p by omega)
 refine eB (B0 (by omega) fun e e1 e2 e3=>?_)
 refine h (e:Int) (by omega) (by rw[<-Int.natCast_mul];exact Int.ofNat_le.mpr e2) ?_
 have:=congrArg (Nat.cast:Nat->Int) e3
 simpa using this
theorem RP:∀p∈rH,eK p:=by
 intro p hp
 simp only[rH,aH,bY,or_false] at hp
 rcases hp with rfl|rfl|rfl|rfl|rfl|rfl|rfl|rfl|rfl|rfl|rfl|rfl|rfl|rfl|rfl|rfl|rfl|rfl|rfl|rfl|rfl|rfl
 ·exact eB Ae
 ·exact eB K3
 ·exact eB Ik
 ·exact eB zS
 ·exact eB Ae
 ·exact eB JJ
 ·exact eB Rw
 ·exact eB ON
 ·exact eB TV
 ·exact eB OG
 ·exact eB PD
 ·exact eB OA
 ·exact eB QO
 ·exact eB SN
 ·exact eB JI
 ·exact eB O2
 ·exact eB JE
 ·exact eB PV
 ·exact eB K8
 ·exact eB Se
 ·exact eB S8
 ·exact eB Ir
def A9:Sp:=fun vs H Q _=>∃p b:Int,vs=[.int p, .int b]/\eK p/\p<10^40/\b%p≠0/\∀u:Int,0<=u->u<p->(∃k,u*b=1+p*k)->Q (.int u) H
end L2
set_option maxRecDepth 100000
set_option maxHeartbeats 4000000
namespace L2
open PySem PySem.Spec PyProof.Rows
theorem O8{p a b:Int}(hp:eK p)(h:p∣a*b)(ha:¬p∣a):p∣b:=by
 have p2:=hp.1
 have g1:((Int.gcd a p:Nat):Int)∣p:=Int.gcd_dvd_right ..
 have g2:((Int.gcd a p:Nat):Int)∣a:=Int.gcd_dvd_left ..
 have g0:0<((Int.gcd a p:Nat):Int):=by
  have:Int.gcd a p≠0:=fun z=>by have:=(Ed.mp z).2;omega
  omega
 rcases hp.2 _ g0 g1 with e|e
 ·have c:Nat.Coprime p.natAbs a.natAbs:=by
   show Nat.gcd p.natAbs a.natAbs=1
   have:Int.gcd a p=1:=by omega
   rw[Nat.gcd_comm];exact this
  have h':p.natAbs∣b.natAbs*a.natAbs:=by rw[p8,<-Int.natAbs_mul];exact EN.mpr h
  exact EN.mp (c.dvd_of_dvd_mul_right h')
 ·rw[e] at g2;exact absurd g2 ha
theorem HZ{p a b:Int}(ha:0<=a)(ha':a<p)(hb:0<=b)(hb':b<p)(h:p∣a-b):a=b:=by
 obtain⟨k,e⟩:=h
 rcases yV k 0 with z|z|z
 ·have:p*k<=p*(-1):=qh (by omega) (by omega)
  omega
 ·subst z;omega
 ·have:p*1<=p*k:=qh (by omega) (by omega)
  omega
end L2
set_option maxRecDepth 100000
set_option maxHeartbeats 4000000
namespace L2
open PySem PySem.Spec PyProof.Rows
section
variable{X:Cx}{pins:List (Addr×Obj)}{σ:List (Option V)}{H:Hp}{s:Shared}{h':Heap}
theorem Inv.IJ{t':Nat}{e it T:Addr}{o:HO}(I:Inv X pins σ H s)(k:∀b u,b≠e->b≠it->s.heap.get? b=some u->h'.get? b=some u)(fe:iu X pins H e)(fi:iu X pins H it)(hT:s.heap.objs.size<=T)(za:T≠e)(uN:T≠it)
  (le:∃u,s.heap.get? e=some u) (li:∃u,s.heap.get? it=some u) (new:bq X.prog X.w (upd H T o) h' T o):Inv X pins σ (upd H T o) {s with heap:=h',toks:=t'}:=by
 have hn:=I.hok.fresh hT
 obtain⟨e0,e1,e2,e3,e4,e5⟩:=fe
 obtain⟨i0,i1,i2,i3,i4,i5⟩:=fi
 have ne:∀b u,H b=some u->b≠e:=fun b u q z=>by rw[z,e0] at q;cases q
 have ni:∀b u,H b=some u->b≠it:=fun b u q z=>by rw[z,i0] at q;cases q
 have nT:∀b u,H b=some u->b≠T:=fun b u q z=>by rw[z,hn] at q;cases q
 refine I.step (g':=s.gens) (d':=s.drawn) (ch:=[e,it]) (fun b hb=>?_) (fun b o _ _ hc q _=>k b o (fun z=>hc (by simp[z])) (fun z=>hc (by simp[z])) q) (fun b o _ _ hc q _=>⟨o.slots,k b o (fun z=>hc (by simp[z])) (fun z=>hc (by simp[z])) q⟩)
  (fun b o hc q n=>?_) (fun b o hc q=>⟨o,k b o (fun z=>hc (by simp[z])) (fun z=>hc (by simp[z])) q⟩) (fun b xs q=>by rw[aq (nT b _ q)];exact q) (fun b o u q=>by rw[aq (nT b _ q)];exact q) (fun b ps q=>⟨#[],by rw[aq (nT b _ q),q];simp⟩) (fun m hm=>?_) (fun b u q=>?_) I.bare
 ·rcases(show b=e\/b=it by simpa using hb) with z|z
  ·subst z;exact⟨e3,e1,e4,e5⟩
  ·subst z;exact⟨i3,i1,i4,i5⟩
 ·rw[aq (fun z=>absurd (dI (aW q) (by rw[z];exact hT)) (iV _))];exact n
 ·obtain⟨o,es,ep,ho,r⟩:=hm
  exact⟨o,es,ep,k _ o (bB e1) (bB i1) ho,r⟩
 ·by_cases hb:b=T
  ·subst hb;rw[aV] at q;cases q;exact new
  ·rw[aq hb] at q
   refine(I.hok b u q).stay (fun c v hc z=>?_) (fun c z=>by rw[aq (nT c _ z)];exact z) fun c xs z=>by rw[aq (nT c _ z)];exact z
   rcases hc with y|y
   ·subst y;exact k _ v (ne _ u q) (ni _ u q) z
   ·exact k c v (ne c _ y) (ni c _ y) z
theorem Inv.RC{t':Nat}{e it:Addr}(I:Inv X pins σ H s)(k:∀b u,b≠e->b≠it->s.heap.get? b=some u->h'.get? b=some u)(fe:iu X pins H e)(fi:iu X pins H it):Inv X pins σ H {s with heap:=h',toks:=t'}:=by
 obtain⟨e0,e1,e2,e3,e4,e5⟩:=fe
 obtain⟨i0,i1,i2,i3,i4,i5⟩:=fi
 have ne:∀b u,H b=some u->b≠e:=fun b u q z=>by rw[z,e0] at q;cases q
 have ni:∀b u,H b=some u->b≠it:=fun b u q z=>by rw[z,i0] at q;cases q
 refine I.step (g':=s.gens) (d':=s.drawn) (ch:=[e,it]) (fun b hb=>?_) (fun b o _ _ hc q _=>k b o (fun z=>hc (by simp[z])) (fun z=>hc (by simp[z])) q) (fun b o _ _ hc q _=>⟨o.slots,k b o (fun z=>hc (by simp[z])) (fun z=>hc (by simp[z])) q⟩)
  (fun _ _ _ _ n=>n) (fun b o hc q=>⟨o,k b o (fun z=>hc (by simp[z])) (fun z=>hc (by simp[z])) q⟩) (fun _ _ q=>q) (fun _ _ _ q=>q) (fun b ps q=>⟨#[],by rw[q];simp⟩) (fun m hm=>?_) (fun b u q=>?_) I.bare
 ·rcases(show b=e\/b=it by simpa using hb) with z|z
  ·subst z;exact⟨e3,e1,e4,e5⟩
  ·subst z;exact⟨i3,i1,i4,i5⟩
 ·obtain⟨o,es,ep,ho,r⟩:=hm
  exact⟨o,es,ep,k _ o (bB e1) (bB i1) ho,r⟩
 ·refine(I.hok b u q).stay (fun c v hc z=>?_) (fun c z=>z) fun c xs z=>z
  rcases hc with y|y
  ·subst y;exact k _ v (ne _ u q) (ni _ u q) z
  ·exact k c v (ne c _ y) (ni c _ y) z
end
def vQ(K:PySem.W.Frag)(a:Addr):It:=
 ⟨fun i H=>∃xs x,aS K H a xs/\xs[i]?=some x,fun i H x H'=>∃p y,x= .ref p/\H p=none/\(∀xs,aS K H a xs->xs[i]?=some y)/\H'=upd H p (.tup [.int i,y]),fun i H=>∃xs,aS K H a xs/\xs.length=i⟩
theorem Nf{P:Program}{w:World}{K:PySem.W.Frag}{elts:List Expr}{k:Nat}{pos:Pos}(a e it:Addr)(hei:e≠it):
  Turn P w K (.Tuple elts k pos) (vQ K a) [e,it] e (fun i h=>(∃old,IsEnum h e it i old)/\h.IsListIter it a i) where
 mem:=by simp
 obj:=fun i h st b hb=>by
  obtain⟨⟨old,s1⟩,⟨o,e1,c,d⟩⟩:=st
  rcases(show b=e\/b=it by simpa using hb) with z|z
  ·subst z
   exact⟨_,s1,fun v z=>by
    have z':Data.fields _=Data.cell v:=z
    cases z'⟩
  ·subst z
   exact⟨o,e1,fun v z=>by rw[d] at z;cases z⟩
 keep:=fun i h h' st k=>⟨let ⟨old,s1⟩:=st.1;⟨old,k e (by simp) _ s1⟩,st.2.at fun o q=>k it (by simp) o q⟩
 item:=by
  intro X hP hw hK hc i pins s σ H E I hf st hg
  subst hP hw hK
  obtain⟨xs,x,hq,hx⟩:=hg
  obtain⟨its,rv,p,hz⟩:=I.list hq
  obtain⟨u,hu,ru⟩:=rv.get hx
  have fe:=hf e (by simp)
  have fi:=hf it (by simp)
  obtain⟨⟨old,s1⟩,s2⟩:=st
  obtain⟨ol,l1,l2,l3⟩:=id p.isList
  obtain⟨oi,i1,i2,i3⟩:=id s2
  have wX:a≠e:=fun z=>by
   subst z
   rw[s1] at l1;cases l1
   exact absurd l2 (by simp)
  have hai:a≠it:=fun z=>by
   subst z
   rw[i1] at l1;cases l1
   rw[i2] at l2
   exact absurd l2 (by simp)
  have W:=WalksT.enumerate (prog:=X.prog) (w:=X.w) (I.ok.hd hc) e it a hei wX hai its.toArray
  have hi:i<its.toArray.size:=by
   have:=(bh.mp hu).1
   simpa using this
  refine W.item i s _ _ hi ⟨⟨old,s1⟩,s2,p.isList⟩ fun T vals h' tk hv hT LP uH kp=>⟨.ref T,rfl,?_⟩
  refine W.go elts k pos i T _ _ _ uH fun h'' st' ET=>?_
  obtain⟨t,x',hx',O9⟩:=hv
  have TH:x'=u:=by
   have:its.toArray[i]?=some u:=by simpa using hu
   rw[hx'] at this;exact fR this
  subst TH O9
  have Ou:=W.apart i T h' uH
  obtain⟨_,_,_,za,uN⟩:=uH
  obtain⟨oT,t1,t2,nT,t3⟩:=LP
  have t1':=ET T oT Ou t1
  refine⟨.ref T,upd H T (.tup [.int i,x]),I.IJ (fun b v h1 h2 q=>ET b v (by simp[h1,h2]) (kp b v (by simp[h1,h2]) q)) fe fi hT za uN ⟨_,s1⟩ ⟨_,i1⟩ ?_,rfl,⟨T,x,rfl,I.hok.fresh hT,fun ys hy=>by rw[I.B7 hy hq];exact hx,rfl⟩,⟨st'.1,st'.2.1⟩,fun b hb=>?_⟩
  ·exact⟨by show 2<=sizeLine;decide,[.int i t,x'], .cons ⟨t,rfl⟩ (.cons ru .nil),oT,t1',t2,nT,t3⟩
  ·rw[aq,(hf b hb).1]
   rcases(show b=e\/b=it by simpa using hb) with z|z
   ·rw[z];exact bB za
   ·rw[z];exact bB uN
 done:=by
  intro X hP hw hK hc i pins s σ H E I hf st hg
  subst hP hw hK
  obtain⟨xs,hq,hx⟩:=hg
  obtain⟨its,rv,p,hz⟩:=I.list hq
  have fe:=hf e (by simp)
  have fi:=hf it (by simp)
  obtain⟨⟨old,s1⟩,s2⟩:=st
  obtain⟨ol,l1,l2,l3⟩:=id p.isList
  obtain⟨oi,i1,i2,i3⟩:=id s2
  have hl:=rv.length
  have wX:a≠e:=fun z=>by
   subst z
   rw[s1] at l1;cases l1
   exact absurd l2 (by simp)
  have hai:a≠it:=fun z=>by
   subst z
   rw[i1] at l1;cases l1
   rw[i2] at l2
   exact absurd l2 (by simp)
  have W:=WalksT.enumerate (prog:=X.prog) (w:=X.w) (I.ok.hd hc) e it a hei wX hai its.toArray
  have hn:its.toArray.size=i:=by rw[cY];omega
  refine W.done s _ _ (by rw[hn];exact⟨⟨old,s1⟩,s2,p.isList⟩) fun h' tk kp=>⟨rfl,?_⟩
  exact I.RC (fun b v h1 h2 q=>kp b v (by simp[h1,h2]) q) fe fi
 self:=fun _ _ _ _ _ st h=>let ⟨old,s1⟩:=st.1;wpAny_pyIter_enum s1 h
def G5(K:PySem.W.Frag)(tl:TE):TI:=fun σ H R=>tl σ H fun x H1=>∃a,x= .ref a/\(∃xs,aS K H1 a xs)/\R (vQ K a) H1
theorem DQ{X:Cx}{K:PySem.W.Frag}{elts:List Expr}{k:Nat}{tpos:Pos}{l:Expr}{tl:TE}{p pos:Pos}(hK:X.K=K)(hg:Gl X "enumerate")(hm:X.mg "enumerate"=none)(hl:PE X l tl)(hs:starEach [l] X.env=[(false,eval l X.env)]:=by rfl):
    PI X (.Tuple elts k tpos) (.Call (.Name "enumerate" p) [l] [] pos) (G5 K tl):=by
  subst hK
  intro pins s σ H R I h
  have ha:PA X [l] (bx tl bR):=aa hl ah (by rw[hs];rfl)
  refine Call_ (nI I hg hm boot_enumerate (uc (aP (ha pos pins s σ H (fun vs H1=>match vs with|[x]=>∃a,x= .ref a/\(∃xs,aS X.K H1 a xs)/\R (vQ X.K a) H1|_=>False) I h) fun us s1 ⟨vs,H1,I1,r1,q1⟩=>?_) hs rfl))
  cases r1 with
  |nil=>exact q1.elim
  | cons r rr =>
    cases rr with
    |cons _ _=>exact q1.elim
    |nil=>
    obtain⟨a,e2,⟨xs,hq⟩,q⟩:=q1
    subst e2
    cases r
    obtain⟨its,rv,p,hz⟩:=I1.list hq
    obtain⟨m,hn,_⟩:=I1.loc
    refine enum_rows (h₀:={objs:= #[]}) (L:=X.env.locals) (m:=m) ⟨hn,fun b o z=>?_,fF _⟩ p.isList fun h' e1 e2 e3 e4 kp ne n1 n2 _ _=>?_
    · cases z
    refine wpAny_pyIter_enum e1 ?_
    have I2:Inv X pins σ H1 {s1 with heap:=h'}:=I1.kept (t':=s1.toks) kp
    refine⟨s1.heap.objs.size+1,[s1.heap.objs.size+1,s1.heap.objs.size],_,_,H1,rfl,I2,Nf a _ _ ne,⟨⟨_,e1⟩,e2⟩,fun b hb=>?_,q⟩
    rcases(show b=s1.heap.objs.size+1\/b=s1.heap.objs.size by simpa using hb) with z|z
    · subst z;exact I1.oF (jc _) (I1.hok.fresh (jc _))
    · subst z;exact I1.oF (aK _) (I1.hok.fresh (aK _))
end L2
set_option maxRecDepth 100000
set_option maxHeartbeats 4000000
namespace L2
open PySem PySem.Spec PyProof.Rows
section
variable{G:Gx}{ρ cV:Rh}{te:TE}{s:TS}{gt:TG}{E:DE}{K:PySem.W.Frag}{Θ:Bool->List PyData->Prop}{tc:TT}{mp:List (Option Nat)}
theorem Sv.Bt(h:Ev G ρ te fun f x=>∃ds,x= .list ds/\∀v,oz (G.hd f (.list ds) v) ρ ds.length (fun i d=>∃e,ds[i]?=some e/\d= .tuple [.int i,e]) f gt s E):Sv G ρ (mT (G5 K te) gt s) E:=fun nb σ H D W KK=>
 h nb σ H _ W fun f v H1 x ⟨ds,ex,q⟩ s1 hv=>by
  subst ex
  obtain⟨I,h0,ht,he⟩:=q v
  have W1:=(W.step s1).hd hv
  obtain⟨a,xs,rfl,n,hx,hd⟩:=hv.dJ
  have key:∀{nb ρ' σ H},Wd (G.hd f (.list ds) (.ref a)) nb ρ' σ H->∃xs,H a=some (.lst xs)/\af (G.S nb f) H ds xs:=fun W=>by
   obtain⟨a',xs',e',_,h',d'⟩:=W.gy.2.dJ
   cases e'
   exact⟨xs',h',d'⟩
  refine⟨a,rfl,⟨xs, .of hx⟩,?_⟩
  refine⟨fun i m σ H=>m=ds.length-i/\i<=ds.length/\∃nb ρ',I i ρ'/\Wd (G.hd f (.list ds) (.ref a)) nb ρ' σ H,⟨ds.length,by simp,fF _,nb,ρ,h0,W1⟩,?_⟩
  rintro i m σ H ⟨rfl,hi,nb,ρ',hI,W⟩
  obtain⟨ys,hy,hD⟩:=key W
  have hl:=hD.length
  by_cases hlt:i<ds.length
  ·refine .inr ⟨⟨ys,ys[i]'(by omega), .of hy,aB _⟩,fun σ H=>∃nb ρ',I (i+1) ρ'/\Wd (G.hd f (.list ds) (.ref a)) nb ρ' σ H,fun σ' H' q=>⟨ds.length-(i+1),by omega,rfl,hlt,q⟩,fun x H' y=>?_⟩
   obtain⟨p,y,e,hn,hz,e2⟩:=y
   subst e e2
   have hx:=hz ys (.of hy)
   obtain⟨x',hx',dx⟩:=hD.get (aB hlt)
   rw[hx] at hx';cases hx'
   have st:Step (G.hd f (.list ds) (.ref a)).B H (upd H p (.tup [.int i,y])):= .same W.az (dg hn)
   refine ht i _ ρ' ⟨_,aB hlt,rfl⟩ hI nb σ _ _ _ (W.step st) (.tup (W.fresh hn) aV (.cons (.int _) (.cons (dx.keep st.dz) .nil))) fun σ2 fK q W2=>q nb σ2 _ _ W2 ?_
   exact⟨fun nb ρ σ H q W=>⟨nb,ρ,q,W⟩,fun nb ρ σ H q W=>KK.nx nb ρ σ H q W.gy.1,fun nb ρ σ H q W=>⟨nb,ρ,q,W⟩,fun nb ρ σ f v H d q W hv=>KK.rt nb ρ σ f v H d q W.gy.1 hv,fun nb ρ σ v H q W=>KK.rw nb ρ σ v H q W.gy.1⟩
  ·have e:i=ds.length:=by omega
   subst e
   exact .inl ⟨⟨ys, .of hy,by omega⟩,KK.nx nb ρ' σ H (he ρ' hI) W.gy.1⟩
end
end L2
set_option maxRecDepth 100000
set_option maxHeartbeats 4000000
namespace L2
open PySem PySem.Spec PyProof.Rows
section
variable{G:Gx}{ρ:Rh}{Φ:Pd}{te:TE}{t:TA}{i n:Nat}{f:Bool}{ds:List PyData}{Θ:List PyData->Prop}
theorem Ev.tupS(h:Av G ρ t fun es=>es.length<=10000/\Φ (jJ es||fM (es.map (·.2))) (.tuple (es.map (·.2)))):Ev G ρ (pV t) Φ:=fun nb σ H Q W z=>
 h nb σ H _ W fun es vs H1 ⟨hl,p⟩ s1 q1=>⟨dH (by rw[q1.len];exact hl) (by decide),fun a ha=>z _ _ _ _ p (s1.trans (.same (W.step s1).az (dg ha))) (by
  cases hs:fM (es.map (·.2)) with
  |true=>rw[sE];exact .tup ((W.step s1).fresh ha) aV ((q1.all (f:=false) fun z=>by cases z).kN hs)
  |false=>rw[l5];exact .tup ((W.step s1).fresh ha) aV ((q1.all fun z=>z).keep (aU.of (dg ha))))⟩
theorem Ev.L0(h:Ev G ρ te fun _ x=>∃n:Int,x= .int n/\2<=n/\n<=10002/\∀r:Int,eK r->r<10^40->Φ true (.int r)):Ev G ρ (ju zJ [] E0 (bx te bR)) Φ:=fun nb σ H Q W z=>
 h nb σ H _ W fun f v H1 d ⟨n,e,h1,h2,p⟩ s1 hv=>by
  subst e
  exact⟨n,by rw[hv.bX];rfl,h1,h2,fun r H' sm r1 r2 r3=>z true _ H' _ (p r (IF r1 r3) (by omega)) (s1.trans (.same (W.step s1).az sm)) (.int r)⟩
theorem Ev.str{x:Str}(h:Φ true (.str x)):Ev G ρ (tC (.str x)) Φ:=fun nb σ H Q W z=>z true _ H _ h (.refl W.az) (by unfold ai;rfl)
end
theorem Eu.fin{p b L lt t:Int}(h:Eu p b L lt 0 t)(hp:eK p)(hb:b%p≠0):∃k,lt%p*b=1+p*k:=by
 obtain⟨g1,g2⟩:=h.dv L (Int.dvd_refl L) (Int.dvd_zero L)
 have m1:=gm b (show p≠0 by have:=hp.1;omega)
 have m2:=fY b (show 0<p by have:=hp.1;omega)
 have hL:L=1:=by
  rcases hp.2 L h.l0 g1 with e|e
  ·exact e
  ·exfalso
   rw[e] at g2
   have:=Int.le_of_dvd (by omega) g2
   omega
 obtain⟨k,hk⟩:=h.lc
 have e:=qb lt p
 refine⟨-k-lt/p*b,?_⟩
 have e2:lt%p=lt-p*(lt/p):=by omega
 rw[e2,Int.sub_mul,qx,Int.mul_neg,qd]
 omega
noncomputable def sol(p b a:Int):Int:=open Classical in if h:∃x,0<=x/\x<p/\∃k,b*x-a=p*k then Classical.choose h else 0
theorem BJ{p b a x:Int}(hp:eK p)(hb:b%p≠0)(h0:0<=x)(h1:x<p)(hx:∃k,b*x-a=p*k):x=sol p b a:=by
 have ex:∃x,0<=x/\x<p/\∃k,b*x-a=p*k:=⟨x,h0,h1,hx⟩
 unfold sol
 rw[dif_pos ex]
 obtain⟨g0,g1,k',hk'⟩:=vL ex
 generalize Classical.choose ex=y at*
 obtain⟨k,hk⟩:=hx
 refine HZ h0 h1 g0 g1 (O8 hp (a:=b) ⟨k-k',?_⟩ fun z=>hb (pI z))
 rw[qx,qx];omega
theorem u6{p b a:Int}(hp:0<p):0<=sol p b a/\sol p b a<p:=by
 unfold sol
 split
 ·rename_i h
  obtain⟨g0,g1,_⟩:=vL h
  exact⟨g0,g1⟩
 ·omega
end L2
set_option maxRecDepth 100000
set_option maxHeartbeats 4000000
namespace L2
open PySem PySem.Spec PyProof.Rows
section
variable{G:Gx}{ρ:Rh}{Φ:Pd}{ta tb te:TE}{E:DE}{K:PySem.W.Frag}
theorem Ev.UT{tl th:TO}(h:Ev G ρ te fun f x=>∃ds,x= .tuple ds/\Ov G ρ tl fun lo=>Ov G ρ th fun hi=>¬(HT.dO ds.length 0 lo=0/\HT.dO ds.length ds.length hi=ds.length)/\Φ f (.tuple (eG ds lo hi))):Ev G ρ (p5 (TR K) te tl th) Φ:=fun nb σ H Q W z=>
 h nb σ H _ W fun f v H1 d ⟨ds,e,q⟩ s1 hv=>q nb σ H1 _ (W.step s1) fun lo H2 q2 s2=>q2 nb σ H2 _ ((W.step s1).step s2) fun hi H3 ⟨hn,q3⟩ s3=>by
  subst e
  obtain⟨a,xs,rfl,n,hx,hd⟩:=((hv.keep s2.dz).keep s3.dz).ofT
  have W3:=((W.step s1).step s2).step s3
  refine⟨a,xs,rfl, .of hx,by rw[hd.length];exact hn,fun p hp=>?_⟩
  exact z f _ _ _ q3 (s1.trans (s2.trans (s3.trans (.same W3.az (dg hp))))) (.tup (W3.fresh hp) aV (hd.cut.keep (aU.of (dg hp))))
theorem Ev.Ur(h:Ev G ρ ta fun f x=>∃ds,x= .tuple ds/\ds≠[]/\Ev G ρ tb fun g y=>∃es,y= .tuple es/\es≠[]/\ds.length+es.length<=10000/\Φ (f && g) (.tuple (ds++es))):Ev G ρ (dw (Lr K) ta tb) Φ:=fun nb σ H Q W z=>
 h nb σ H _ W fun f v H1 d ⟨ds,e,hne,q⟩ s1 hv=>q nb σ H1 _ (W.step s1) fun g u H2 d2 ⟨es,e2,Q0,hl,p⟩ s2 hu=>by
  subst e e2
  obtain⟨a,xs,rfl,n,hx,hd⟩:=(hv.keep s2.dz).ofT
  obtain⟨c,ys,rfl,m,hy,hc⟩:=hu.ofT
  have W2:=(W.step s1).step s2
  have pO:=hd.length
  have hyl:=hc.length
  refine⟨a,c,xs,ys,rfl,rfl, .of hx, .of hy,fun z=>hne (mz.mp (by rw[<-pO,z];rfl)),dH (by rw[pO,hyl];exact hl) (by decide),fun z=>absurd (mz.mp (by rw[<-hyl,z];rfl)) Q0,fun _ q hq=>?_⟩
  refine z (f && g) _ _ _ p (s1.trans (s2.trans (.same W2.az (dg hq)))) (.tup (W2.fresh hq) aV ?_)
  exact(af.append (hd.av (bz (fun z=>(cK _ _▸z).1) fun _ z=>z)) (hc.av (bz (fun z=>(cK _ _▸z).2) fun _ z=>z))).keep (aU.of (dg hq))
end
end L2
set_option maxRecDepth 100000
set_option maxHeartbeats 4000000
namespace L2
open PySem PySem.Spec PyProof.Rows
def sC(es:List Fd):Bool:=es.all fun e=>e.1||jo e.2
section
variable{G:Gx}{ρ:Rh}{Φ:Pd}{t:TA}{te:TE}
theorem jR.FN{nb:Addr->Prop}{H:Hp}:∀{es:List Fd} {vs:List V} {f:Bool},jR G nb H es vs->(f=true->sC es=true)->af (G.S nb f) H (es.map (·.2)) vs
  |[],_,_,h,_=>by unfold jR at h;subst h;exact .nil
  | e :: es, _, f, h, hf => by
    obtain⟨v,ws,rfl,h1,h2⟩:=h
    have hh:f=true->(e.1||jo e.2)=true/\sC es=true:=fun z=>by
      have:=hf z
      unfold sC at this
      rw[nK,cK] at this
      exact this
    refine .cons ?_ (h2.FN fun z=>(hh z).2)
    cases hs:jo e.2 with
    |true=>exact h1.kN hs
    |false=>exact h1.av (bz (fun z=>by have:=(hh z).1;rw[hs,l5] at this;exact this) fun _ z=>z)
theorem Ev.Mg(h:Av G ρ t fun es=>es.length<=10000/\Φ (sC es) (.tuple (es.map (·.2)))):Ev G ρ (pV t) Φ:=fun nb σ H Q W z=>
 h nb σ H _ W fun es vs H1 ⟨hl,p⟩ s1 q1=>⟨dH (by rw[q1.len];exact hl) (by decide),fun a ha=>z _ _ _ _ p (s1.trans (.same (W.step s1).az (dg ha)))
  (.tup ((W.step s1).fresh ha) aV ((q1.FN fun z=>z).keep (aU.of (dg ha))))⟩
end
def Ji:R2:=fun x y H Q=>∃a b:Bool,x= .bl a/\y= .bl b/\Q (.bl (!(a==b))) H
theorem Ev.Vd{G:Gx}{ρ:Rh}{ta:TE}{b:Bool}{Φ:Pd}(h:Ev G ρ ta fun _ x=>∃a,x= .bool a/\Φ true (.bool (!(a==b)))):Ev G ρ (dw Ji ta (tC (.bl b))) Φ:=fun nb σ H Q W z=>
 h nb σ H _ W fun f v H1 d ⟨a,e,q⟩ s1 hv=>by
  subst e
  unfold ai at hv
  subst hv
  exact⟨a,b,rfl,rfl,z true _ H1 _ q s1 (.bl _)⟩
abbrev cJ(r:List Int):PyData:= .list (r.map .int)
end L2
set_option maxRecDepth 100000
set_option maxHeartbeats 4000000
set_option maxRecDepth 100000
namespace L2
open PySem PySem.Spec PyProof.Rows
section
variable{κ:Type}[DecidableEq κ]
def eV(kvs:List (κ×V))(k:κ):Option V:=(kvs.find? fun kv=>decide (kv.1=k)).map (·.2)
def putK(kvs:List (κ×V))(k:κ)(v:V):List (κ×V):=
 if(kvs.any fun kv=>decide (kv.1=k))=true then kvs.map (fun kv=>if kv.1=k then(kv.1,v) else kv) else kvs++[(k,v)]
theorem QM{k:κ}:eV ([]:List (κ×V)) k=none:=rfl
theorem qA{p:κ×V}{r:List (κ×V)}{k:κ}(e:p.1=k):eV (p::r) k=some p.2:=by simp[eV,jE,e]
theorem oB{p:κ×V}{r:List (κ×V)}{k:κ}(e:¬p.1=k):eV (p::r) k=eV r k:=by simp[eV,jE,e]
theorem u9(k:κ):∀kvs:List (κ×V),(kvs.any fun kv=>decide (kv.1=k))=(eV kvs k).isSome
  |[]=>rfl
  | p :: r => by
    rw[mR]
    by_cases e:p.1=k
    · simp only[qA e,decide_eq_true e,Bool.true_or,Option.isSome_some]
    · rw[oB e,decide_eq_false e,pC];exact u9 k r
theorem D9(kvs:List (κ×V))(k:κ)(v:V):(putK kvs k v).length<=kvs.length+1:=by
 unfold putK
 split
 ·rw[aj];omega
 ·rw[cO,ko,List.length_nil];omega
theorem Oa{kvs:List (κ×V)}{k:κ}(v:V)(h:eV kvs k=none):putK kvs k v=kvs++[(k,v)]:=by
 unfold putK
 rw[u9,h]
 exact if_neg (by decide)
theorem jf.Dz{o:Option V}{u:Option Value}(r:jf o u):o.isSome=u.isSome:=by
  cases o with
  | none => cases u with
    |none=>rfl
    |some _=>exact(show False from r).elim
  | some _ => cases u with
    |none=>exact(show False from r).elim
    |some _=>rfl
theorem jf.getD{o:Option V}{u:Option Value}{d:V}{d':Value}(r:jf o u)(rd:RelV d d'):RelV (o.getD d) (u.getD d'):=by
  cases o with
  | none => cases u with
    |none=>exact rd
    |some _=>exact(show False from r).elim
  | some _ => cases u with
    |none=>exact(show False from r).elim
    |some _=>exact r
theorem KV.val{kvs:List (κ×V)}{vs:List (κ×Value)}(r:KV kvs vs)(k:κ):jf (eV kvs k) (valueAt vs k):=by
  unfold KV at r
  induction r with
  |nil=>exact True.intro
  | @cons p q ps qs h t ih =>
    obtain⟨h1,h2⟩:=h
    by_cases e:p.1=k
    · have e':q.1=k:=h1.symm.trans e
      have b:valueAt (q::qs) k=some q.2:=by simp[valueAt,jE,e']
      rw[qA e,b];exact h2
    · have e':¬q.1=k:=fun z=>e (h1.trans z)
      have b:valueAt (q::qs) k=valueAt qs k:=by simp[valueAt,jE,e']
      rw[oB e,b];exact ih
theorem KV.any{kvs:List (κ×V)}{vs:List (κ×Value)}(r:KV kvs vs)(k:κ):(kvs.any fun kv=>decide (kv.1=k))=vs.any fun kv=>decide (kv.1=k):=by
 unfold KV at r
 induction r with
 |nil=>rfl
 |cons h t ih=>rw[mR,mR,ih,h.1]
theorem KV.repl{kvs:List (κ×V)}{vs:List (κ×Value)}(r:KV kvs vs)(k:κ){y:V}{u:Value}(ry:RelV y u):
    KV (kvs.map fun kv=>if kv.1=k then(kv.1,y) else kv) (vs.map fun kv=>if kv.1=k then(kv.1,u) else kv):=by
  unfold KV at r⊢
  induction r with
  |nil=>exact .nil
  | @cons p q ps qs h t ih =>
    rw[bF,bF]
    refine .cons ?_ ih
    obtain⟨h1,h2⟩:=h
    by_cases e:p.1=k
    · rw[if_pos e,if_pos (h1.symm.trans e)];exact⟨h1,ry⟩
    · rw[if_neg e,if_neg (fun z=>e (h1.trans z))];exact⟨h1,h2⟩
theorem KV.put{kvs:List (κ×V)}{vs:List (κ×Value)}(r:KV kvs vs)(k:κ){y:V}{u:Value}(ry:RelV y u):KV (putK kvs k y) (stored vs k u):=by
 unfold putK stored
 rw[r.any k]
 by_cases e:(vs.any fun kv=>decide (kv.1=k))=true
 ·rw[if_pos e,if_pos e];exact r.repl k ry
 ·rw[if_neg e,if_neg e];exact Paired.snoc r ⟨rfl,ry⟩
theorem KV.keys{kvs:List (κ×V)}{vs:List (κ×Value)}(r:KV kvs vs):kvs.map (·.1)=vs.map (·.1):=by
 unfold KV at r
 induction r with
 |nil=>rfl
 |cons h t ih=>rw[bF,bF,ih,h.1]
theorem KV.length{kvs:List (κ×V)}{vs:List (κ×Value)}(r:KV kvs vs):kvs.length=vs.length:=Paired.length r
end
theorem mZ{P:Program}{w:World}{k:Key}{u:Value}(r:RelV (kV k) u):(dG P w).is k u=true:=by
 cases k with
 |inl i=>obtain⟨t,e⟩:=(show∃t,u=Value.int i t from r);subst e;exact NC P w i t
 |inr x=>obtain⟨t,e⟩:=(show∃t,u=Value.str x t from r);subst e;exact La P w x t
theorem ED{P:Program}{w:World}:∀{ks:List Key} {us:List Value},Vals (ks.map kV) us->ItemsAre (dG P w) ks us
  |[],_,r=>by rw[mK] at r;cases r;exact .nil
  | k :: ks, _, r => by
    rw[bF] at r
    cases r with
    |cons h t=>exact .cons (mZ h) (ED t)
abbrev KT(H:Hp):List (List Key×V)->List (List Key×Addr×Value)->Prop:=Paired fun p q=>p.1=q.1/\H q.2.1=some (.tup (p.1.map kV))/\RelV p.2 q.2.2
theorem KT.val{H:Hp}{kvs:List (List Key×V)}{xs:List (List Key×Addr×Value)}(r:KT H kvs xs)(k:List Key):jf (eV kvs k) ((atKey xs k).map (·.2)):=by
  induction r with
  |nil=>exact True.intro
  | @cons p q ps qs h t ih =>
    obtain⟨h1,_,h2⟩:=h
    by_cases e:p.1=k
    · have e':q.1=k:=h1.symm.trans e
      have b:atKey (q::qs) k=some q.2:=by simp[atKey,jE,e']
      rw[qA e,b];exact h2
    · have e':¬q.1=k:=fun z=>e (h1.trans z)
      have b:atKey (q::qs) k=atKey qs k:=by simp[atKey,jE,e']
      rw[oB e,b];exact ih
section
variable{P:Program}{w:World}{H:Hp}{h:Heap}{a:Addr}
theorem Cy{u:HO}(ok:cW P w H h)(e:Rd H a u):bq P w H h a u:=e.ok ok
theorem om{kvs:List (Key×V)}(ok:cW P w H h)(e:Rd H a (.dK kvs)):kvs.length<=sizeLine/\(a==sysModules)=false/\∃vs,KV kvs vs/\h.DictOf (dG P w) a vs:=
 show bq P w H h a (.dK kvs) from Cy ok e
theorem Hq{kvs:List (Key×V)}(ok:cW P w H h)(e:H a=some (.dK kvs)):kvs.length<=sizeLine/\(a==sysModules)=false/\∃vs,KV kvs vs/\h.DictOf (dG P w) a vs:=om ok (.inl e)
theorem EU{ks:List Key}(ok:cW P w H h)(e:H a=some (.tup (ks.map kV))):(tupleKind (dG P w)).is h ks a:=by
 obtain⟨_,its,r,o,h1,h2,n,h3⟩:=(show bq P w H h a (.tup (ks.map kV)) from ok a _ e)
 exact⟨o,its.toArray,n,h1,h2,h3,by simpa using ED r⟩
theorem Jb{kvs:List (List Key×V)}(ok:cW P w H h)(e:Rd H a (.dT kvs)):kvs.length<=sizeLine/\(a==sysModules)=false/\
    ∃xs,KT H kvs xs/\h.DictOfH (tupleKind (dG P w)) a xs:=by
  obtain⟨z,y,xs,r,o,es,ep,h1,h2,h3,h4,h5⟩:=(show bq P w H h a (.dT kvs) from Cy ok e)
  refine⟨z,y,xs,r,o,es,ep,h1,h2,h3,h4,fun x hx=>?_,h5⟩
  have all:∀{l:List (List Key×V)} {m:List (List Key×Addr×Value)},KT H l m->∀x∈m,(tupleKind (dG P w)).is h x.1 x.2.1:=by
    intro l m q
    induction q with
    |nil=>intro x hx;exact nomatch hx
    | @cons p q ps qs hq t ih =>
      intro x hx
      rcases aH.mp hx with e|hx
      · subst e
        exact EU ok (by rw[<-hq.1];exact hq.2.1)
      · exact ih x hx
  exact all r x hx
end
def Dm(H:Hp)(a:Addr)(y:V)(r:Option V):Prop:=
 (∃kvs k,Rd H a (.dK kvs)/\y=kV k/\r=eV kvs k)\/∃kvs k b,Rd H a (.dT kvs)/\y= .ref b/\H b=some (.tup (k.map kV))/\r=eV kvs k
section
variable{X:Cx}{pins:List (Addr×Obj)}{σ:St}{H:Hp}{s:Shared}{a:Addr}{y v:V}{u r:Value}{o:Option V}{A:Around}{E:Value->Shared->Prop}
theorem Inv.big(I:Inv X pins σ H s):sysModules<s.heap.objs.size:=by
 have h:mainGlobals<s.heap.objs.size:=(I.mod.glob.keeps I.bk).lt
 exact kH (by decide) h
theorem Jv{Q:Value->Shared->Prop}(hu:A.units+1<cLine)(I:Inv X pins σ H s)(g:Dm H a y o)(ry:RelV y u)(h:∀s',Inv X pins σ H s'->Q (.bool o.isSome) s'):
  wpAny (model X.prog X.w) A (compareOp .In u (.ref a)) Q E s:=by
 rcases g with ⟨kvs,k,e,ey,l⟩|⟨kvs,k,b,e,ey,eb,l⟩
 ·subst ey
  obtain⟨z,hd,vs,rel,dd⟩:=om I.hok e
  refine wpAny_in_of (mZ ry) hd dd.mapOf ?_
  rw[<-(rel.val k).Dz,<-l]
  exact h _ (I.tok _)
 ·subst ey
  cases (show u=Value.ref b from ry)
  obtain⟨z,hd,xs,rel,dd⟩:=Jb I.hok e
  refine wpAny_in_heap (tupleKind_room_in1 hu) (EU I.hok eb) hd dd ?_
  have q:=(rel.val k).Dz
  rw[Option.isSome_map] at q
  rw[<-q,<-l]
  exact h _ (I.tok _)
theorem JC{h':Heap}{t':Nat}{ob:HO}(I:Inv X pins σ H s)(mu:oJ (H a))(hs:Heap.SameBut a s.heap h')(he:∃q,h'.get? a=some q)(new:bq X.prog X.w (upd H a ob) h' a ob):
  Inv X pins σ (upd H a ob) {s with heap:=h',toks:=t'}:=
 I.write (x:=a) (e:=a) mu (.inl rfl) (fun b q hb z=>(hs.2 b hb).trans z) he new
theorem D6{P:Program}{w:World}{H':Hp}{h':Heap}{kvs:List (Key×V)}{vs:List (Key×Value)}(z:kvs.length<=sizeLine)(hd:(a==sysModules)=false)(rel:KV kvs vs)(dd:h'.DictOf (dG P w) a vs):
  bq P w H' h' a (.dK kvs):=⟨z,hd,vs,rel,dd⟩
end
theorem SI{P:Program}{w:World}{H:Hp}(h:Heap)(hb:sysModules<h.objs.size):bq P w H (h.push {cls:= .type "dict",data:= .dict #[]}) h.objs.size (.dK []):=
 ⟨fF _,beq_eq_false_iff_ne.mpr (bB (bK hb)),[], .nil,Heap.DictOf.new h⟩
def G7:TE:=fun _ H Q=>∀p,H p=none->Q (.ref p) (upd H p (.dK []))
section
variable{X:Cx}{pos:Pos}
theorem MY:PE X (.Dict [] [] pos) G7:=fun pins s σ H Q I h=>
 wpAny_Dict_empty ⟨.ref s.heap.objs.size,_,I.laid (a:=s.heap.objs.size) (o:= .dK []) (t':=s.toks) (fun _ _ q=>bw _ q) (aK _) (SI s.heap I.big),rfl,h _ (I.hok.fresh (aK _))⟩
end
def kr(kvs more:List (Key×V)):List (Key×V):=more.foldl (fun acc kv=>putK acc kv.1 kv.2) kvs
theorem KV.merge:∀{more:List (Key×V)} {rs:List (Key×Value)} {kvs:List (Key×V)} {vs:List (Key×Value)},KV more rs->KV kvs vs->KV (kr kvs more) (merged vs rs):=by
  intro more rs kvs vs r
  unfold KV at r
  induction r generalizing kvs vs with
  |nil=>intro q;exact q
  | @cons p q ps qs h t ih =>
    intro r0
    have e:KV (putK kvs p.1 p.2) (stored vs q.1 q.2):=by
      have:=r0.put p.1 h.2
      rw[<-h.1];exact this
    exact ih e
theorem BY:∀(more kvs:List (Key×V)),(kr kvs more).length<=kvs.length+more.length
  |[],kvs=>by show kvs.length<=kvs.length+0;omega
  | p :: r, kvs => by
    have h1:=BY r (putK kvs p.1 p.2)
    have h2:=D9 kvs p.1 p.2
    show(kr (putK kvs p.1 p.2) r).length<=_
    rw[ko];omega
end L2
/-THE LAST THEOREM (shape;LID,My.*are yours):
   My.Adr:a structure of the addresses that your layer names (classes,functions);My.Txt K t:a structure (Prop) of the equations over K;
   My.txt_mk:{K} {implicit addresses ..} (e1:nsIn K mainGlobals "law"=some (some (.ref f))) (e2:K.lookup f=some ⟨oc,od, .func (fnOf "law" "law" params body scope dV kV doc pm an cdv ct),sl⟩) (e3:codeIn K cdv "law"=true) .. :∃t,My.Txt K t
set_option maxRecDepth 100000 in
set_option maxHeartbeats 0 in
(the tactic k_is has no namespace:write k_is)-/
set_option maxRecDepth 100000
set_option maxHeartbeats 4000000
namespace L2
open PySem PySem.Spec PyProof.Rows
section
variable{prog:Program}{w:World}{A:Around}{E:Value->Shared->Prop}{s:Shared}
theorem O3{T:String}{r d:Addr}{n:Nat}{P:Nat->Value->Prop}{OK:Heap->Prop}{Q:List Value->Shared->Prop}(K:PySem.W.KdlSrc prog w T r d n P OK)(hh:A.handled=none)(hok:OK s.heap)(hn:n<=sizeLine)
  (hQ:∀h' tk' items,(∀b o,s.heap.get? b=some o->h'.get? b=some o)->s.heap.objs.size<=h'.objs.size->items.length=n->(∀(i:Nat) v,items[i]?=some v->P i v)->Q items {s with heap:=h',toks:=tk'}):wpAny (model prog w) A (collect (.ref r)) Q E s:=by
 obtain⟨lr,ld⟩:=K.there _ hok
 unfold collect
 refine wpAny_bind (wpAny_runValue (codeAny_builtin GP ?_))
 rw[kh C7 _]
 show wpAny _ A.in1 (newList []>>=fun l=>again (.builtin "list.__iadd__" ⟨[l, .ref r],[]⟩)) _ _ s
 refine wpAny_bind (wpAny_newObj_type ?_)
 refine wpAny_pure ⟨plainId_quiet t8 _,codeAny_builtin Ge ?_⟩
 rw[kh t8 _]
 have gL:(s.heap.push ({cls:= .type "list",data:= .seq ([]:List Value).toArray}:Obj)).get? s.heap.objs.size=some {cls:= .type "list",data:= .seq ([]:List Value).toArray}:=eF _ rfl
 show wpAny _ A.in1 (Builtin.List.listExtendWith (.ref s.heap.objs.size) (.ref r) (.ref s.heap.objs.size)) _ _ {s with heap:=s.heap.push ({cls:= .type "list",data:= .seq ([]:List Value).toArray}:Obj)}
 refine PySem.W.kdl_extend (A:=A) (R:=fun r s'=>match r with
    | .ok (.ret v)=>wpAny (model prog w) A (match v with| .ref x=>(do match(<-load x).data with| .seq xs _=>pure xs.toList|_=>unsupported "internal:collect")|_=>unsupported "internal:collect") Q E s'
    | .ok _=>False
    | .error e=>E e s') (s:={s with heap:=s.heap.push ({cls:= .type "list",data:= .seq ([]:List Value).toArray}:Obj)}) K hh (K.keep _ _ hok fun b _ o e=>bw _ e) s.heap.objs.size (lC lr) (lC ld) _ _ gL (fun h' tk acc' c' hk hS hacc=>?_) hn
 refine wpAny_bind (wpAny_load hS (wpAny_pure ?_))
 refine hQ h' tk acc'.toList (fun b o e=>hk b o (bK (aW e)) (bw _ e)) (ir (aW hS)) (by rw[gb];exact hacc.1) fun i v e=>hacc.2 i v (by rw[<-lz];exact e)
theorem Mw{a:Addr}{vs:List (Key×Value)}{ms:List Int}{Q:Value->Shared->Prop}(hh:A.handled=none)(lo:(a==sysModules)=false)(hd:s.heap.DictOf (dG prog w) a vs)(hk:vs.map (·.1)=ms.map Sum.inl)(h64:ms.length<64)
    (h:∀h' tk' (l:Addr) (out:List Value) (ns:List Int) (e:Nat),(∀b o,s.heap.get? b=some o->h'.get? b=some o)->s.heap.objs.size<=l->h'.get? l=some (seqObj "list" out.toArray e)->IntsAre out ns->ns.Pairwise (· <= ·)->ns.Perm ms->
      Q (.ref l) {s with heap:=h',toks:=tk'}):wpAny (model prog w) A (call (.builtin "sorted") [.ref a]) Q E s:=by
  obtain⟨ep,hat⟩:=hd.dictAt
  have hvl:vs.length=ms.length:=by have:=congrArg List.length hk;simpa using this
  refine qO kind_sorted plain_sorted entry_sorted (args_sorted1 _) ?_
  unfold Builtin.«sorted»
  refine wpAny_bind (m:=checkCount "sorted" 1 1 _) (wpAny_pure (wpAny_bind ?_))
  refine O3 (A:=A.in1) (PySem.W.kdl_dict lo) hh hat (by rw[hvl];exact dH (ir h64) (by decide)) fun h1 yk items k1 k2 hil hit=>?_
  have hI:IntsAre items ms:=by
    have key:∀(its:List Value) (us:List (Key×Value)) (ms:List Int),us.map (·.1)=ms.map Sum.inl->its.length=us.length->(∀(i:Nat) v,its[i]?=some v->∃k x,us[i]?=some (k,x)/\(dG prog w).is k v=true)->IntsAre its ms:=by
      intro its
      induction its with
      | nil =>
        intro us ms e l _
        cases us with
        | nil => cases ms with
          |nil=>exact .nil
          |cons _ _=>cases e
        |cons _ _=>cases l
      | cons v its ih =>
        intro us ms e l hp
        cases us with
        |nil=>cases l
        | cons u us => cases ms with
          |nil=>cases e
          | cons m ms =>
            have e1:u.1=Sum.inl m:=by injection e
            have e2:us.map (·.1)=ms.map Sum.inl:=by injection e
            obtain⟨k,x,q1,q2⟩:=hp 0 v rfl
            have q1:u=(k,x):=by simpa using q1
            subst q1
            have e1:k=Sum.inl m:=e1
            subst e1
            obtain⟨t,rfl⟩:=qt (k:=m) (v:=v) q2
            exact .cons m t (ih us ms e2 (by simpa using l) fun i v q=>by simpa using hp (i+1) v (by simpa using q))
    exact key items vs ms hk hil hit
  have hlen:items.length=ms.length:=by rw[hil,hvl]
  refine wpAny_bind (wpAny_newList ?_)
  have gL:(h1.push (seqObj "list" items.toArray 0)).get? h1.objs.size=some (seqObj "list" items.toArray 0):=eF _ rfl
  refine wpAny_bind (wpAny_holding (wpAny_call_entry slot_list_sort ⟨_,gL,rfl⟩ entry_list_sort (list_sort_tree gL hI (by omega) fun out ns' a1 a2 a3=>⟨_,rfl,?_⟩) (args_list_sort _)))
  obtain⟨e,he⟩:=sortedHeap_at (out:=out) gL
  refine wpAny_pure ⟨_,rfl,h _ yk h1.objs.size out.toList ns' e (fun b o q=>?_) k2 (by simpa using he) a1 a3 a2⟩
  have lb:=aW (k1 b o q)
  rw[sortedHeap_old (bK lb) (by rw[lg];exact jq lb)]
  exact bw _ (k1 b o q)
end
def ve:List V->Hp->VK->Prop:=fun xs H Q=>∃a,∃kvs:List (Key×V),∃ms:List Int,xs=[.ref a]/\Rd H a (.dK kvs)/\kvs.map (·.1)=ms.map Sum.inl/\ms.length<64/\
 ∀l (rs:List Int),H l=none->rs.Pairwise (· <= ·)->rs.Perm ms->Q (.ref l) (upd H l (.lst (rs.map V.int)))
theorem Ua{X:Cx}(hc:X.calm=true):eE X (.builtin "sorted") ve:=by
 intro pins s σ H xs us Q I rv h
 obtain⟨a,kvs,ms,rfl,hH,hk,h64,q⟩:=h
 obtain⟨u,rfl,ru⟩:=vals1 rv
 cases ru
 obtain⟨z,hd,vs,rel,dd⟩:=om I.hok hH
 refine Mw (I.ok.hd hc) hd dd (by rw[<-rel.keys];exact hk) h64 fun h' tk' l out ns e kp hl gl hI pw pp=>?_
 have new:bq X.prog X.w (upd H l (.lst (ns.map V.int))) h' l (.lst (ns.map V.int)):=by
  refine⟨?_,out,e,yD hI,gl⟩
  rw[aj,pp.length_eq];exact dH (ir h64) (by decide)
 exact⟨.ref l,_,I.laid (t':=tk') kp hl new,rfl,q _ _ (I.hok.fresh hl) pw pp⟩
section
variable{X:Cx}
def jD:R2:=fun x y H Q=>∃a kvs k v,x= .ref a/\y=kV k/\Rd H a (.dK kvs)/\eV kvs k=some v/\Q v H
theorem m9:jO X jD:=by
 intro value slice pins s σ H x y v u Q I rx ry h hs
 obtain⟨a,kvs,k,z,rfl,rfl,hH,hv,q⟩:=h
 cases rx
 obtain⟨hz,hd,vs,rel,dd⟩:=om I.hok hH
 have hT:=dd.typeIs (s:=s)
 obtain⟨w',hw,rw'⟩:=jf.some_of (v:=z) (o:=valueAt vs k) (by rw[<-hv];exact rel.val k)
 unfold subscriptTail
 refine wpAny_bind ?_
 rw[getitemInPython_of_ne hT.not_modules]
 refine wpAny_bind (wpAny_specialOf hT PySem.F.slot_dict_getitem.lookup ?_)
 have fin:wpAny (model X.prog X.w) X.A (subscripted slice false (.ref a) u) (fun r s₃=>wpAny (model X.prog X.w) X.A (letTemporaryGo value (.ref a) r>>=fun _=>pure r) (EP X pins σ Q) X.xe s₃) X.xe s:=by
  rw[hs]
  refine wpAny_operating (wpAny_getItem_of (mZ ry) dd.mapOf hw ?_)
  exact wpAny_bind (wpAny_letTemporaryGo (wpAny_pure ⟨z,H,I.tok _,rw',q⟩))
 first
  |exact wpAny_pure (wpAny_bind fin)
  |exact wpAny_bind (wpAny_pure (wpAny_bind fin))
  |exact wpAny_bind fin
def wL:V->V->V->Hp->(Hp->Prop)->Prop:=fun o i v H Q=>∃a kvs k,o= .ref a/\i=kV k/\H a=some (.dK kvs)/\kvs.length<sizeLine/\Q (upd H a (.dK (putK kvs k v)))
theorem set_dict:yd X wL:=by
 intro pins s σ H o i v ov iv u Q I ro ri rv h
 obtain⟨a,kvs,k,rfl,rfl,hH,Vn,q⟩:=h
 cases ro
 obtain⟨z,hd,vs,rel,dd⟩:=Hq I.hok hH
 have hz:vs.length<=sizeLine:=by rw[<-rel.length];exact z
 have hl:(putK kvs k v).length<=sizeLine:=by have:=D9 kvs k v;omega
 refine wpAny_setItem_pairs (hsz:=hz) (mZ ri) dd fun h' Ek hs=>?_
 have he:∃q,h'.get? a=some q:=let ⟨q,_,_,hq,_⟩:=Ek;⟨q,hq⟩
 exact⟨_,JC I (by rw[hH];exact True.intro) hs he (D6 hl hd (rel.put k rv) Ek),q⟩
def Hj:V->List V->Hp->VK->Prop:=fun x vs H Q=>∃a kvs k d,x= .ref a/\vs=[kV k,d]/\Rd H a (.dK kvs)/\Q ((eV kvs k).getD d) H
theorem Ml:nu X "dict.get" Hj:=by
  intro pins s σ H x xs v us Q I rx rv h
  obtain⟨a,kvs,k,d,rfl,rfl,hH,q⟩:=h
  cases rx
  cases rv with
  | cons r1 r2 =>
    obtain⟨r,rfl,rd⟩:=vals1 r2
    obtain⟨z,hd,vs,rel,dd⟩:=om I.hok hH
    refine call_meetsIn FJ dd.typeIs PySem.F.entry_dict_get (PySem.F.args_dict_get_3 _ _ _) (meets_dict_get_default (dG X.prog X.w) a (mZ r1) hd r) ⟨_,dd.mapOf,?_⟩
    exact⟨_,H,I.tok _,(rel.val k).getD rd,q⟩
end
end L2
set_option maxRecDepth 100000
set_option maxHeartbeats 4000000
set_option maxRecDepth 100000
set_option maxHeartbeats 4000000
namespace L2
open PySem PySem.Spec PyProof.Rows
theorem Ew:∀{a b:List Int},a.Pairwise (· < ·)->b.Pairwise (· < ·)->(∀k,k∈a↔k∈b)->a=b
  |[],[],_,_,_=>rfl
  |[],y::b,_,_,h=>absurd ((h y).mpr (bG ..)) (by simp)
  |x::a,[],_,_,h=>absurd ((h x).mp (bG ..)) (by simp)
  | x :: a, y :: b, ha, hb, h => by
    obtain⟨ha1,ha2⟩:=tU.mp ha
    obtain⟨hb1,hb2⟩:=tU.mp hb
    have e:x=y:=by
      rcases aH.mp ((h x).mp (bG ..)) with z|z
      · exact z
      · rcases aH.mp ((h y).mpr (bG ..)) with w|w
        · exact w.symm
        · have:=hb1 x z;have:=ha1 y w;omega
    subst e
    have:a=b:=Ew ha2 hb2 fun k=>by
      constructor
      · intro hk
        rcases aH.mp ((h k).mp (cA _ hk)) with z|z
        · have:=ha1 k hk;omega
        · exact z
      · intro hk
        rcases aH.mp ((h k).mpr (cA _ hk)) with z|z
        · have:=hb1 k hk;omega
        · exact z
    rw[this]
end L2
namespace L2
abbrev Cn:=List (Int×Int)
structure Hl(cs:Cn):Prop where
 lu:∀c∈cs,0<=c.1/\c.1<=12/\0<=c.2/\c.2<=10^7
 nd:(cs.map (·.1)).Nodup
 len:cs.length<=14
 pos:∃c∈cs,0<c.1/\0<c.2
def Gq:Cn->Rat->Rat
 |[],_=>0
 |c::r,v=>(if 0<c.1 then((c.1*c.2:Int):Rat)*v^(c.1.toNat-1) else 0)+Gq r v
def E2:Cn->Int
 |[]=>0
 |c::r=>c.1*c.2+E2 r
def Cg(cs:Cn)(v:Rat):Rat:=Gq cs v/(E2 cs:Int)
def Jo(l c:Cn)(s v:Rat):Rat:=s*Cg l (1-Cg c (1-v))
section
variable{l c:Cn}{s:Rat}(hl:Hl l)(hc:Hl c)(s0:0<=s)
include hl hc s0
end
def EG(x:Rat):Int:= -((-x).floor)
end L2
namespace L2
structure Gw where
 l:Cn
 c:Cn
 s:Rat
 u:Int
def Gw.gr(g:Gw)(x:Int):Rat:=Jo g.l g.c g.s ((x:Rat)/g.u)*g.u
def Gw.lo(g:Gw):Nat->Int
 |0=>(g.s*g.u).floor
 |k+1=>(g.gr (g.lo k)).floor
def Gw.hi(g:Gw):Nat->Int
 |0=>EG (g.s*g.u)
 |k+1=>EG (g.gr (g.hi k))
end L2
set_option maxRecDepth 100000
set_option maxHeartbeats 4000000
namespace L2
open PySem PySem.Spec PyProof.Rows
@[reducible] def Uq(g:Gw)(k:Nat):PyData:= .tuple [.int (g.lo k), .int (g.hi k)]
@[reducible] def U6(n:Nat):PyData:= .tuple [.str "falls", .int n]
@[reducible] def UH(x:Int):PyData:= .tuple [.str "stays", .int x]
@[reducible] def UQ:PyData:= .tuple [.str "open"]
def Px(K:PySem.W.Frag)(n:Nat)(t:gX):TG:=fun v σ H Q=>∃a xs,v= .ref a/\aS K H a xs/\xs.length=n/\t xs σ H Q
theorem Gv.lst{G:Gx}{ρ:Rh}{f:Bool}{ds:List PyData}{K:PySem.W.Frag}{Θ:Rh->Prop}{n:Nat}{u:gX}(hl:ds.length=n)(h:kU G ρ u f ds Θ):Gv G ρ (Px K n u) f (.list ds) Θ:=fun nb σ H v Q W hv z=>by
 obtain⟨a,xs,rfl,m,hx,hd⟩:=hv.dJ
 exact⟨a,xs,rfl, .of hx,by rw[hd.length];exact hl,h nb σ H xs Q W hd z⟩
end L2
set_option maxRecDepth 100000
set_option maxHeartbeats 4000000
namespace L2
open PySem PySem.Spec PyProof.Rows PySem.W
section
variable{n:Nat}{cmp:Nat->Nat->(Bool->Shared->Prop)->Shared->Prop}{s:Shared}
def VP(n:Nat)(p:Array Nat):Prop:=p.toList.Perm (List.range n)
theorem VP.of{p q:Array Nat}(h:VP n p)(z:q.Perm p):VP n q:=(Array.perm_iff_toList_perm.mp z).trans h
theorem VP.lt{p:Array Nat}(h0:0<n)(h:VP n p)(k:Nat):p.getD k 0<n:=by
 by_cases hk:k<p.size
 ·have e:p.getD k 0=p[k]:=by simp[Array.getD,hk]
  rw[e]
  have m:p[k]∈p.toList:=by simp
  exact fQ.mp (h.mem_iff.mp m)
 ·have e:p.getD k 0=0:=by simp[Array.getD,hk]
  rw[e];exact h0
variable(h0:0<n)(hc:∀i j C,i<n->j<n->(∀b,C b s)->cmp i j C s)
include h0 hc
end
def yN(h:Heap)(v:Value):Prop:=∃a o i j t u m,v= .ref a/\h.get? a=some o/\o.cls= .type "tuple" /\o.data= .seq #[.int i t, .int j u] m
section
variable{prog:Program}{w:World}{A:Around}{E:Value->Shared->Prop}{s:Shared}
theorem Kq{M:Model}{vs:List Value}{Q:SortKind->Shared->Prop}(hp:∀v∈vs,yN s.heap v)(hne:0<vs.length)(h:Q (tuples' true) s):wpAny M A (keyKind' vs.toArray) Q E s:=by
  obtain⟨fs,hf,hl,hT⟩:∃fs:List Value,KatTups s.heap vs fs/\fs.length=vs.length/\∀v∈fs,∃i t,v= .int i t:=by
    clear hne h
    induction vs with
    |nil=>exact⟨[], .nil,rfl,fun _ h=>nomatch h⟩
    | cons v r ih =>
      obtain⟨fs,h1,h2,h3⟩:=ih fun x hx=>hp x (cA _ hx)
      obtain⟨a,o,i,j,t,u,m,rfl,g1,g2,g3⟩:=hp v (bG ..)
      refine⟨.int i t::fs, .cons g1 g2 g3 rfl h1,by simp[h2],fun x hx=>?_⟩
      rcases aH.mp hx with e|hx
      · exact⟨i,t,e⟩
      · exact h3 x hx
  refine kat_kind (T:= .type "int") hf (by omega) (fun v hv=>?_) (by decide) h
  obtain⟨i,t,rfl⟩:=hT v hv
  exact Looks.of_pure rfl
end
end L2
set_option maxRecDepth 100000
set_option maxHeartbeats 4000000
namespace L2
open PySem PySem.Spec PyProof.Rows PySem.W
section
variable{n:Nat}{key:Nat->Int}{cmp:Nat->Nat->(Bool->Shared->Prop)->Shared->Prop}{s:Shared}
def aX(key:Nat->Int)(p:Array Nat)(x:Nat):Int:=key (p.getD x 0)
def So(key:Nat->Int)(p:Array Nat)(b:Nat):Prop:=∀i j,i<=j->j<b->aX key p i<=aX key p j
def Ni(key:Nat->Int)(p:Array Nat)(b:Nat):Prop:=∀i j,i<=j->j<b->aX key p j<=aX key p i
theorem VP.size{p:Array Nat}(h:VP n p):p.size=n:=by
 have:=h.length_eq
 rw[fU,gb] at this
 exact this
theorem lR(p:Array Nat)(x:Nat):aX key p x=key ((p[x]?).getD 0):=by unfold aX;rw[q9]
theorem xE{p:Array Nat}{i j:Nat}(hj:j<=p.size)(k:Nat):aX key (kas_rev p i j) k=if i<=k/\k<j then aX key p (i+j-1-k) else aX key p k:=by
 rw[lR,lR,lR]
 unfold kas_rev
 rw[getElem?_mirror_all hj k]
 split<;>rfl
theorem CY{p:Array Nat}{k d:Nat}(hk:k<p.size)(hd:d<=k)(x:Nat):aX key (bubble p k d) x=if x=k-d then aX key p k else if k-d<x/\x<=k then aX key p (x-1) else aX key p x:=by
 rw[lR,lR,lR,lR,getElem?_bubble hk d hd x]
 split
 ·rfl
 ·split<;>rfl
theorem VP.rev{p:Array Nat}(h:VP n p)(i j:Nat):VP n (kas_rev p i j):=h.of (mirror_perm _ _ _ _)
theorem xx{p:Array Nat}{i j:Nat}(hj:j<=p.size)(he:∀a b,i<=a->a<j->i<=b->b<j->aX key p a=aX key p b)(k:Nat):aX key (kas_rev p i j) k=aX key p k:=by
 rw[xE hj]
 split
 ·exact he _ _ (by omega) (by omega) (by omega) (by omega)
 ·rfl
theorem Qt{p:Array Nat}{m:Nat}(hm:m<=p.size)(h:Ni key p m):So key (kas_rev p 0 m) m:=by
 intro i j hij hj
 rw[xE hm,xE hm,if_pos (by omega),if_pos (by omega)]
 exact h _ _ (by omega) (by omega)
variable(h0:0<n)(hc:∀i j C,i<n->j<n->C (decide (key i<key j)) s->cmp i j C s)
include h0 hc
theorem A0{p:Array Nat}(hp:VP n p){Q:Nat->Shared->Prop}:∀f m,1<=m->m+f<=n->So key p m->(∀r,m<=r->r<=m+f->So key p r->(r=m+f\/aX key p r<aX key p (r-1))->Q r s)->(kas_asc p f m).kasWp cmp Q s
  |0,m,_,_,hs,hQ=>hQ m (aK _) (aK _) hs (.inl rfl)
  | f + 1, m, m1, hm, hs, hQ => hc _ _ _ (hp.lt h0 _) (hp.lt h0 _) (by
    by_cases c:aX key p m<aX key p (m-1)
    · rw[show decide (key (p.getD m 0)<key (p.getD (m-1) 0))=true from decide_eq_true c]
      exact hQ m (aK _) (by omega) hs (.inr c)
    · rw[show decide (key (p.getD m 0)<key (p.getD (m-1) 0))=false from decide_eq_false c]
      refine A0 hp f (m+1) (by omega) (by omega) (fun i j hij hj=>?_) fun r r1 r2 r3 r4=>hQ r (by omega) (by omega) r3 (r4.elim (fun z=> .inl (by omega)) .inr)
      by_cases e:j=m
      · subst e
        by_cases e2:i=j
        · subst e2;exact jL _
        · have:=hs i (j-1) (by omega) (by omega)
          omega
      · exact hs i j hij (by omega))
theorem uD{Q:Array Nat×Nat×Nat->Shared->Prop}:∀f p m q,VP n p->1<=m->m+f<=n->q+1<=m->Ni key p m->(∀a b,m-(q+1)<=a->a<m->m-(q+1)<=b->b<m->aX key p a=aX key p b)->
    (∀p' m' q',VP n p'->m<=m'->m'<=m+f->q'+1<=m'->Ni key p' m'->(∀a b,m'-(q'+1)<=a->a<m'->m'-(q'+1)<=b->b<m'->aX key p' a=aX key p' b)->Q (p',m',q') s)->(kas_desc f p m q).kasWp cmp Q s
  |0,p,m,q,hp,m1,hm,hq,hn,he,hQ=>hQ p m q hp (aK _) (aK _) hq hn he
  | f + 1, p, m, q, hp, m1, hm, hq, hn, he, hQ => hc _ _ _ (hp.lt h0 _) (hp.lt h0 _) (by
    have hps:=hp.size
    by_cases c:aX key p m<aX key p (m-1)
    · rw[show decide (key (p.getD m 0)<key (p.getD (m-1) 0))=true from decide_eq_true c]
      have hn1:Ni key p (m+1):=fun i j hij hj=>by
        by_cases e:j=m
        · subst e
          by_cases e2:i=j
          · subst e2;exact jL _
          · have:=hn i (j-1) (by omega) (by omega)
            omega
        · exact hn i j hij (by omega)
      simp only[if_true]
      split
      · have hk:=xx (key:=key) (p:=p) (i:=m-(q+1)) (j:=m) (by omega) he
        refine uD f _ _ _ (hp.rev _ _) (by omega) (by omega) (by omega) (fun i j hij hj=>by rw[hk,hk];exact hn1 i j hij hj) (fun a b a1 a2 b1 b2=>by rw[show a=b by omega]) fun p' m' q' g1 g2 g3 g4 g5 g6=>hQ p' m' q' g1 (by omega) (by omega) g4 g5 g6
      · exact uD f _ _ _ hp (by omega) (by omega) (by omega) hn1 (fun a b a1 a2 b1 b2=>by rw[show a=b by omega]) fun p' m' q' g1 g2 g3 g4 g5 g6=>hQ p' m' q' g1 (by omega) (by omega) g4 g5 g6
    · rw[show decide (key (p.getD m 0)<key (p.getD (m-1) 0))=false from decide_eq_false c]
      simp only[jQ,if_false]
      refine hc _ _ _ (hp.lt h0 _) (hp.lt h0 _) ?_
      by_cases c2:aX key p (m-1)<aX key p m
      · rw[show decide (key (p.getD (m-1) 0)<key (p.getD m 0))=true from decide_eq_true c2]
        simp only[if_true]
        exact hQ p m q hp (aK _) (by omega) hq hn he
      · rw[show decide (key (p.getD (m-1) 0)<key (p.getD m 0))=false from decide_eq_false c2]
        simp only[jQ,if_false]
        have ee:aX key p m=aX key p (m-1):=by omega
        have hn1:Ni key p (m+1):=fun i j hij hj=>by
          by_cases e:j=m
          · subst e
            by_cases e2:i=j
            · subst e2;exact jL _
            · have:=hn i (j-1) (by omega) (by omega)
              omega
          · exact hn i j hij (by omega)
        have hel:∀a,m-(q+1)<=a->a<m+1->aX key p a=aX key p (m-1):=fun a a1 a2=>by
          by_cases e:a=m
          · rw[e,ee]
          · exact he a (m-1) a1 (by omega) (by omega) (by omega)
        refine uD f p (m+1) (q+1) hp (by omega) (by omega) (by omega) hn1 (fun a b a1 a2 b1 b2=>by rw[hel a (by omega) a2,hel b (by omega) b2]) fun p' m' q' g1 g2 g3 g4 g5 g6=>hQ p' m' q' g1 (by omega) (by omega) g4 g5 g6)
theorem Dd{p:Array Nat}(hp:VP n p){Q:Nat×Array Nat->Shared->Prop}{m:Nat}(m1:1<=m)(hm:m<=n)(hn:Ni key p m)(hQ:∀m p,VP n p->m<=n->So key p m->Q (m,p) s):(kas_tail3 m n p).kasWp cmp Q s:=by
 unfold kas_tail3
 rw[qv]
 have uC:VP n (kas_rev p 0 m):=hp.of (mirror_perm _ _ _ _)
 have hps:=hp.size
 exact A0 h0 hc uC (n-m) m m1 (by omega) (Qt (by omega) hn) fun r r1 r2 r3 _=>hQ r _ uC (by omega) r3
theorem Ft{p:Array Nat}(hp:VP n p){Q:Nat×Array Nat->Shared->Prop}{m:Nat}(m1:1<=m)(hm:m+1<=n)(hn:Ni key p (m+1))(hQ:∀m p,VP n p->m<=n->So key p m->Q (m,p) s):(kas_descPart m n p).kasWp cmp Q s:=by
 unfold kas_descPart
 rw[qv]
 refine uD h0 hc (n-(m+1)) p (m+1) 0 hp (by omega) (by omega) (by omega) hn (fun a b a1 a2 b1 b2=>by rw[show a=b by omega]) fun p' m' q' g1 g2 g3 g4 g5 g6=>?_
 have hps:=g1.size
 dsimp only
 split
 ·have hk:=xx (key:=key) (p:=p') (i:=m'-(q'+1)) (j:=m') (by omega) g6
  exact Dd h0 hc (g1.rev _ _) (by omega) (by omega) (fun i j hij hj=>by rw[hk,hk];exact g5 i j hij hj) hQ
 ·exact Dd h0 hc g1 (by omega) (by omega) g5 hQ
theorem KG{p:Array Nat}(hp:VP n p){Q:Nat×Array Nat->Shared->Prop}(hQ:∀m p,VP n p->m<=n->So key p m->Q (m,p) s):(kas_count n p).kasWp cmp Q s:=by
 unfold kas_count
 rw[qv]
 have hps:=hp.size
 refine A0 h0 hc hp (n-1) 1 (by omega) (by omega) (fun i j hij hj=>by rw[show i=j by omega];exact jL _) fun m m1 m2 m3 m4=>?_
 split
 ·exact hQ _ _ hp (by omega) m3
 rename_i c1
 have c1:m≠n:=by simpa using c1
 have hlt:aX key p m<aX key p (m-1):=m4.elim (fun z=>absurd z (by omega)) id
 split
 ·refine hc _ _ _ (hp.lt h0 _) (hp.lt h0 _) ?_
  by_cases c2:aX key p 0<aX key p (m-1)
  ·rw[show decide (key (p.getD 0 0)<key (p.getD (m-1) 0))=true from decide_eq_true c2]
   simp only[if_true]
   exact hQ _ _ hp (by omega) m3
  ·rw[show decide (key (p.getD 0 0)<key (p.getD (m-1) 0))=false from decide_eq_false c2]
   simp only[jQ,if_false]
   have he:∀a,a<m->aX key p a=aX key p 0:=fun a ha=>by
    have e1:=m3 0 a (by omega) ha
    have e2:=m3 a (m-1) (by omega) (by omega)
    omega
   have hk:=xx (key:=key) (p:=p) (i:=0) (j:=m) (by omega) fun a b _ a2 _ b2=>by rw[he a a2,he b b2]
   refine Ft h0 hc (hp.rev _ _) m1 (by omega) (fun i j hij hj=>?_) hQ
   rw[hk,hk]
   by_cases e:j=m
   ·subst e
    by_cases e2:i=j
    ·subst e2;exact jL _
    ·have e3:=he i (by omega)
     have e4:=he (j-1) (by omega)
     omega
   ·rw[he i (by omega),he j (by omega)]
    exact jL _
 ·have:m=1:=by omega
  subst this
  refine Ft h0 hc hp m1 (by omega) (fun i j hij hj=>?_) hQ
  by_cases e:i=j
  ·subst e;exact jL _
  ·have:i=0:=by omega
   have:j=1:=by omega
   subst i j
   exact vH hlt
theorem zI{p:Array Nat}(hp:VP n p){k:Nat}(hs:So key p k){Q:Nat->Shared->Prop}(hQ:∀l,l<=k->(∀i,i<l->aX key p i<=aX key p k)->(∀i,l<=i->i<k->aX key p k<aX key p i)->Q l s):
    ∀f l r,l<=r->r<=k->r-l<=f->(∀i,i<l->aX key p i<=aX key p k)->(∀i,r<=i->i<k->aX key p k<aX key p i)->(kas_place p k f l r).kasWp cmp Q s
  |0,l,r,h1,h2,h3,h4,h5=>hQ l (by omega) h4 (by rw[show l=r by omega];exact h5)
  | f + 1, l, r, h1, h2, h3, h4, h5 => by
    unfold kas_place
    split
    · exact hQ l (by omega) h4 (by rw[show l=r by omega];exact h5)
    · refine hc _ _ _ (hp.lt h0 _) (hp.lt h0 _) ?_
      by_cases c:aX key p k<aX key p ((l+r)/2)
      · rw[show decide (key (p.getD k 0)<key (p.getD ((l+r)/2) 0))=true from decide_eq_true c]
        simp only[if_true]
        exact zI hp hs hQ f _ _ (by omega) (by omega) (by omega) h4 fun i i1 i2=>by have:=hs _ i i1 i2;omega
      · rw[show decide (key (p.getD k 0)<key (p.getD ((l+r)/2) 0))=false from decide_eq_false c]
        simp only[jQ,if_false]
        exact zI hp hs hQ f _ _ (by omega) (by omega) (by omega) (fun i i1=>by have:=hs i ((l+r)/2) (by omega) (by omega);omega) h5
theorem Bk{Q:Array Nat->Shared->Prop}(hQ:∀p,VP n p->So key p n->Q p s):∀f p k,VP n p->f+k=n->So key p k->(kas_bin f p k).kasWp cmp Q s
  |0,p,k,hp,hf,hs=>hQ p hp (by rw[show n=k by omega];exact hs)
  | f + 1, p, k, hp, hf, hs => by
    unfold kas_bin
    rw[qv]
    have hps:=hp.size
    refine zI h0 hc hp hs (fun l l1 l2 l3=>?_) k 0 k (by omega) (by omega) (by omega) (fun i hi=>by omega) (fun i i1 i2=>by omega)
    refine Bk hQ f _ _ (hp.of (bubble_perm _ _ _)) (by omega) fun i j hij hj=>?_
    rw[CY (by omega) (by omega),CY (by omega) (by omega),show k-(k-l)=l by omega]
    by_cases e1:i=l
    · rw[if_pos e1]
      by_cases e2:j=l
      · rw[if_pos e2];exact jL _
      · rw[if_neg e2,if_pos (by omega)]
        exact vH (l3 _ (by omega) (by omega))
    · rw[if_neg e1]
      by_cases e2:j=l
      · rw[if_pos e2,if_neg (by omega)]
        exact l2 i (by omega)
      · rw[if_neg e2]
        by_cases e3:l<i/\i<=k
        · rw[if_pos e3,if_pos (by omega)]
          exact hs _ _ (by omega) (by omega)
        · rw[if_neg e3]
          by_cases e4:l<j/\j<=k
          · rw[if_pos e4]
            exact hs _ _ (by omega) (by omega)
          · rw[if_neg e4]
            exact hs _ _ (by omega) (by omega)
theorem Fq{Q:Array Nat->Shared->Prop}(hQ:∀p,VP n p->So key p n->Q p s):(kas_sort n).kasWp cmp Q s:=by
 unfold kas_sort
 rw[qv]
 refine KG h0 hc (p:=List.toArray (List.range n)) (by unfold VP;exact .refl _) fun m p hp hm hs=>?_
 dsimp only
 split
 ·refine Bk h0 hc hQ _ _ _ hp (by omega) fun i j hij hj=>?_
  by_cases e:i=j
  ·rw[e];exact jL _
  ·exact hs i j hij (by omega)
 ·exact hQ _ hp (by rw[show n=m by omega];exact hs)
end
end L2
set_option maxRecDepth 100000
set_option maxHeartbeats 4000000
namespace L2
open PySem PySem.Spec PyProof.Rows PySem.W
def i6(c d:Int×Int):Bool:=if c.1=d.1 then decide (c.2<d.2) else decide (c.1<d.1)
def encP(M:Int)(c:Int×Int):Int:=c.1*M+c.2
theorem qU:∀cs:List (Int×Int),∃M:Int,0<M/\∀c∈cs,-M<2*c.2/\2*c.2<M
  |[]=>⟨1,by decide,fun _ h=>nomatch h⟩
  | c :: cs => by
    obtain⟨M,h0,h⟩:=qU cs
    refine⟨M+2*c.2.natAbs+1,by omega,fun d hd=>?_⟩
    rcases aH.mp hd with e|e
    · subst e;omega
    · have:=h d e;omega
theorem tW{M:Int}{c d:Int×Int}(h0:0<M)(hc: -M<2*c.2/\2*c.2<M)(hd: -M<2*d.2/\2*d.2<M):i6 c d=decide (encP M c<encP M d):=by
 unfold i6 encP
 split
 ·rename_i e
  rw[e]
  apply decide_eq_decide.mpr
  omega
 ·rename_i e
  apply decide_eq_decide.mpr
  constructor
  ·intro z
   have:(c.1+1)*M<=d.1*M:=wN (by omega) (by omega)
   rw[sV,tZ] at this
   omega
  ·intro z
   rcases yV c.1 d.1 with y|y|y
   ·exact y
   ·exact absurd y e
   ·have:(d.1+1)*M<=c.1*M:=wN (by omega) (by omega)
    rw[sV,tZ] at this
    omega
def k8(h:Heap)(c:Int×Int)(v:Value):Prop:=∃a o t u m,v= .ref a/\h.get? a=some o/\o.cls= .type "tuple" /\o.data= .seq #[.int c.1 t, .int c.2 u] m
def oS(h:Heap)(cs:List (Int×Int))(vs:List Value):Prop:=vs.length=cs.length/\∀k,k<cs.length->k8 h (cs.getD k (0,0)) (vs.getD k .none)
theorem k8.at{h:Heap}{c:Int×Int}{v:Value}(x:k8 h c v):yN h v:=by
 obtain⟨a,o,t,u,m,e,h1,h2,h3⟩:=x
 exact⟨a,o,_,_,t,u,m,e,h1,h2,h3⟩
theorem k8.keep{h h':Heap}{c:Int×Int}{v:Value}(x:k8 h c v)(k:∀b o,v= .ref b->h.get? b=some o->h'.get? b=some o):k8 h' c v:=by
 obtain⟨a,o,t,u,m,e,h1,h2,h3⟩:=x
 exact⟨a,o,t,u,m,e,k _ _ e h1,h2,h3⟩
theorem oS.at{h:Heap}{cs:List (Int×Int)}{vs:List Value}(x:oS h cs vs):∀v∈vs,yN h v:=fun v hv=>by
 obtain⟨k,hk,e⟩:=Cw.mp hv
 have:=x.2 k (by rw[<-x.1];exact hk)
 rw[bA (l:=vs),aB hk,e] at this
 exact this.at
section
variable{prog:Program}{w:World}{A:Around}{E:Value->Shared->Prop}{s:Shared}
theorem Pp{x y:Value}{c d:Int×Int}{C:Bool->Shared->Prop}(hx:k8 s.heap c x)(hy:k8 s.heap d y)(h:C (i6 c d) s):wpAny (model prog w) A (keyLt' (tuples' true) x y) C E s:=by
 obtain⟨a,o,t,u,m,rfl,h1,h2,h3⟩:=hx
 obtain⟨a',o',t',u',m',rfl,xT,h2',h3'⟩:=hy
 unfold i6 at h
 refine kat_lt h1 h3 xT h3' ?_
 refine kat_cons (wpAny_eqBool_int ?_)
 by_cases e1:c.1=d.1
 ·rw[if_pos e1] at h
  rw[show(c.1==d.1)=true from beq_iff_eq.mpr e1]
  refine kat_yes (kat_cons (wpAny_eqBool_int ?_))
  by_cases e2:c.2=d.2
  ·rw[show(c.2==d.2)=true from beq_iff_eq.mpr e2]
   refine kat_yes (kat_nil ?_)
   rw[decide_eq_false (by omega)] at h
   exact h
  ·rw[show(c.2==d.2)=false from beq_eq_false_iff_ne.mpr e2]
   refine kat_no ?_
   refine kat_one _ _ (lt_int ?_)
   exact h
 ·rw[if_neg e1] at h
  rw[show(c.1==d.1)=false from beq_eq_false_iff_ne.mpr e1]
  refine kat_no ?_
  exact oneLt_int h
theorem Mx{a:Addr}{vs:List Value}{cs:List (Int×Int)}{n:Nat}{P:Fin->Shared->Prop}(ho:s.heap.get? a=some (seqObj "list" vs.toArray n))(hp:oS s.heap cs vs)(hna:∀v∈vs,v≠ .ref a)(h64:vs.length<64)
  (h:∀(out:Array Value) (ix:List Nat),ix.Perm (List.range vs.length)->out.toList=ix.map (fun i=>vs.getD i .none)->(ix.map fun i=>cs.getD i (0,0)).Pairwise (fun c d=>i6 d c=false)->P (.done (.ret .none)) {s with heap:=sortedHeap s.heap a vs out}):
  wpAny (model prog w) A (Builtin.«list.sort» ⟨[.ref a],[]⟩) P E s:=by
 rw[list_sort_plain]
 have ha:a<s.heap.objs.size:=aW ho
 refine wpAny_bind (listItems_at ho rfl ?_)
 refine wpAny_bind (listUpdate_at ho rfl ?_)
 obtain⟨e1,qu⟩:∃e1,(s.heap.update a (Obj.mapSeq fun _=> #[])).get? a=some (seqObj "list" #[] e1):=⟨_,get?_update_seq ho (fun _=> #[])⟩
 refine wpAny_bind (seqEpoch_at qu rfl ?_)
 refine wpAny_bind (wpAny_newTuple ?_)
 refine wpAny_bind (wpAny_newList ?_)
 refine wpAny_holding ?_
 have ho6:(((s.heap.update a (Obj.mapSeq fun _=> #[])).push (seqObj "tuple" vs.toArray 0)).push (seqObj "list" #[] 0)).get? a=some (seqObj "list" #[] e1):=by
  rw[kZ _ _ _ (by rw[size_push',nO];exact bK (jq ha)),kZ _ _ _ (by rw[nO];exact bK ha)]
  exact qu
 show wpAny (model prog w) A _ P E {s with heap:=((s.heap.update a (Obj.mapSeq fun _=> #[])).push (seqObj "tuple" vs.toArray 0)).push (seqObj "list" #[] 0)}
 dsimp only
 have hsz:vs.toArray.size=vs.length:=by simp
 have lX:oS (((s.heap.update a (Obj.mapSeq fun _=> #[])).push (seqObj "tuple" vs.toArray 0)).push (seqObj "list" #[] 0)) cs vs:=⟨hp.1,fun k hk=>by
  have hm:vs.getD k .none∈vs:=by
   have:k<vs.length:=by rw[hp.1];exact hk
   rw[bA,aB this]
   exact dZ _
  refine(hp.2 k hk).keep fun b o e g1=>bw _ (bw _ ?_)
  have hb:b≠a:=fun z=>hna _ hm (by rw[e,z])
  rw[sR _ _ _ _ hb];exact g1⟩
 by_cases h2:vs.toArray.size<2
 ·rw[if_pos h2,if_pos h2]
  refine wpAny_bind (wpAny_pure ?_)
  rw[StateT.run_pure]
  refine wpAny_bind (wpAny_pure ?_)
  dsimp only
  refine wpAny_bind (seqEpoch_at ho6 rfl ?_)
  refine wpAny_bind (listUpdate_at ho6 rfl ?_ (hsz2:=by rw[Array.size_map];show(pairsOf vs).size<=_;rw[pairsOf_size,sizeLine_eq];omega))
  simp only[bne_self_eq_false,jQ,if_false]
  refine wpAny_pure (h _ (List.range vs.length) (.refl _) ?_ ?_)
  ·have e:(Array.map (fun x=>x.2) (vs.toArray.zip vs.toArray)).toList=vs:=by
    rw[Array.toList_map,Array.toList_zip]
    simp[List.map_snd_zip]
   show(Array.map (fun x=>x.2) (vs.toArray.zip vs.toArray)).toList=_
   rw[e]
   refine eH fun k=>?_
   rw[aI]
   by_cases hk:k<vs.length
   ·rw[nE hk,aB hk];simp[hk]
   ·rw[cQ (by omega),cQ (by rw[fU];omega)];rfl
  ·have:vs.length<2:=by omega
   rcases tR vs.length 1 with z|z
   ·rw[show vs.length=0 by omega];exact .nil
   ·rw[show vs.length=1 by omega]
    show List.Pairwise _ [_]
    exact Be _ _
 ·rw[if_neg h2,if_neg h2]
  refine wpAny_bind (Kq lX.at (by omega) ?_)
  obtain⟨M,M0,hM⟩:=qU cs
  have j4:∀i,i<vs.length-> -M<2*(cs.getD i (0,0)).2/\2*(cs.getD i (0,0)).2<M:=fun i hi=>by
   have:i<cs.length:=by rw[<-hp.1];exact hi
   rw[bA,aB this]
   exact hM _ (dZ _)
  refine wpAny_bind (wpAny_mono (kat_run (κ:=tuples' true) (vs:=vs) (ks:=vs) (s:={s with heap:=((s.heap.update a (Obj.mapSeq fun _=> #[])).push (seqObj "tuple" vs.toArray 0)).push (seqObj "list" #[] 0)}) (Q:=fun st' s'=>s'={s with heap:=((s.heap.update a (Obj.mapSeq fun _=> #[])).push (seqObj "tuple" vs.toArray 0)).push (seqObj "list" #[] 0)}/\failedOf st'=none/\∃ix:List Nat,ix.Perm (List.range vs.length)/\((arrOf st').map (·.2)).toList=ix.map (fun i=>vs.getD i .none)/\(ix.map fun i=>cs.getD i (0,0)).Pairwise (fun c d=>i6 d c=false))
   (G:=fun p s'=>s'={s with heap:=((s.heap.update a (Obj.mapSeq fun _=> #[])).push (seqObj "tuple" vs.toArray 0)).push (seqObj "list" #[] 0)}/\VP vs.length p/\So (fun i=>encP M (cs.getD i (0,0))) p vs.length) rfl (by omega) h64 (fun p st' s' g1 g2 g3 ⟨g4,g5,g6⟩=>⟨g4,g3,p.toList,g5,?_,?_⟩) (Fq (n:=vs.length) (key:=fun i=>encP M (cs.getD i (0,0))) (by omega) (fun i j C hi hj hC=>?_) fun p hp hs=>⟨rfl,hp,hs⟩)) ?_ fun _ _ e=>e)
  ·rw[kat_snds rfl g2]
  ·rw[pW]
   have hps:=g5.length_eq
   rw[fU,gb] at hps
   rw[qa]
   intro i j hi hj hij
   rw[gb] at hi hj
   have:=g6 i j (by omega) (by omega)
   unfold aX at this
   have ei:p.getD i 0=p.toList[i]:=by simp[Array.getD,hi]
   have ej:p.getD j 0=p.toList[j]:=by simp[Array.getD,hj]
   rw[ei,ej] at this
   dsimp only at this
   have li:p.toList[i]<vs.length:=fQ.mp (g5.mem_iff.mp (dZ _))
   have lj:p.toList[j]<vs.length:=fQ.mp (g5.mem_iff.mp (dZ _))
   rw[tW M0 (j4 _ lj) (j4 _ li)]
   apply decide_eq_false
   omega
  ·rw[kat_ask_eq (vs:=vs) rfl]
   unfold kas_cmp
   rw[kat_item rfl,kat_item rfl]
   refine Pp (lX.2 i (by rw[<-hp.1];exact hi)) (lX.2 j (by rw[<-hp.1];exact hj)) ?_
   rw[tW M0 (j4 _ hi) (j4 _ hj)]
   exact hC
  rintro⟨⟨⟩,st'⟩ s' ⟨rfl,hf,ix,hs,hs2,hs3⟩
  dsimp only
  refine wpAny_bind (seqEpoch_at ho6 rfl ?_)
  refine wpAny_bind (listUpdate_at ho6 rfl ?_ (hsz2:=by
   have e:=congrArg List.length hs2
   rw[gb,aj,hs.length_eq,fU] at e
   rw[sizeLine_eq]
   have e':(Array.map (fun x=>x.2) (arrOf st')).size=vs.length:=e
   omega))
  rw[hf]
  simp only[bne_self_eq_false,jQ,if_false]
  exact wpAny_pure (h _ ix hs hs2 hs3)
theorem Je{l:Addr}{vs:List Value}{cs:List (Int×Int)}{Q:Value->Shared->Prop}(hl:s.heap.IsList l vs.toArray)(hp:oS s.heap cs vs)(h64:vs.length<64)
  (h:∀(out:Array Value) (ix:List Nat),ix.Perm (List.range vs.length)->out.toList=ix.map (fun i=>vs.getD i .none)->(ix.map fun i=>cs.getD i (0,0)).Pairwise (fun c d=>i6 d c=false)->Q (.ref (s.heap.objs.size+1)) {s with heap:=sortedAll s.heap vs out}):
  wpAny (model prog w) A (call (.builtin "sorted") [.ref l]) Q E s:=by
 refine qO kind_sorted plain_sorted entry_sorted (args_sorted1 _) ?_
 unfold Builtin.«sorted»
 refine wpAny_bind (m:=checkCount "sorted" 1 1 _) (wpAny_pure ?_)
 refine wpAny_bind (collect_list hl ?_)
 refine wpAny_bind (wpAny_newList ?_)
 have hsz:((s.heap.push (seqObj "list" #[] 0)).update s.heap.objs.size (Obj.mapSeq (· ++vs.toArray))).objs.size=s.heap.objs.size+1:=by
  rw[nO,size_push']
 have mC:(((s.heap.push (seqObj "list" #[] 0)).update s.heap.objs.size (Obj.mapSeq (· ++vs.toArray))).push (seqObj "list" vs.toArray 0)).get? (s.heap.objs.size+1)=some (seqObj "list" vs.toArray 0):=by
  rw[<-hsz];exact eF _ rfl
 have keep:∀b o,s.heap.get? b=some o->(((s.heap.push (seqObj "list" #[] 0)).update s.heap.objs.size (Obj.mapSeq (· ++vs.toArray))).push (seqObj "list" vs.toArray 0)).get? b=some o:=fun b o q=>by
  have hlt:b<s.heap.objs.size:=aW q
  rw[kZ _ _ _ (by rw[hsz];exact bK (jq hlt)),sR _ _ _ _ (bK hlt),kZ _ _ _ (bK hlt)]
  exact q
 show wpAny _ _ _ _ _ {s with heap:=((s.heap.push (seqObj "list" #[] 0)).update s.heap.objs.size (Obj.mapSeq (· ++vs.toArray))).push (seqObj "list" vs.toArray 0)}
 rw[hsz]
 refine wpAny_bind (wpAny_holding (wpAny_call_entry slot_list_sort ⟨_,mC,rfl⟩ entry_list_sort (Mx mC ⟨hp.1,fun k hk=>(hp.2 k hk).keep fun b o _=>keep b o⟩ (fun v hv z=>?_) h64 fun out ix a1 a2 a3=>⟨_,rfl,?_⟩) (args_list_sort _)))
 ·obtain⟨b,o,i,j,t,u,m,rfl,g1,_⟩:=hp.at v hv
  have:=aW g1
  have z':b=s.heap.objs.size+1:=by cases z;rfl
  rw[z'] at this
  exact absurd this (Nat.not_lt.mpr (jc _))
 ·exact wpAny_pure ⟨_,rfl,h out ix a1 a2 a3⟩
end
def AY(K:PySem.W.Frag):List V->Hp->VK->Prop:=fun xs H Q=>∃(p:Addr) (ys:List V) (cs:List (Int×Int)),xs=[.ref p]/\aS K H p ys/\ys.length=cs.length/\ys.length<64/\(∀k,k<cs.length->∃a,ys.getD k (.int 0)= .ref a/\H a=some (.tup [.int (cs.getD k (0,0)).1, .int (cs.getD k (0,0)).2]))/\
 ∀ix:List Nat,ix.Perm (List.range ys.length)->(ix.map fun i=>cs.getD i (0,0)).Pairwise (fun c d=>i6 d c=false)->∀l,H l=none->Q (.ref l) (upd H l (.lst (ix.map fun i=>ys.getD i (.int 0))))
theorem A8{ys:List V}{vs:List Value}(h:Vals ys vs):∀ix:List Nat,(∀i∈ix,i<ys.length)->Vals (ix.map fun i=>ys.getD i (.int 0)) (ix.map fun i=>vs.getD i Value.none)
  |[],_=> .nil
  | i :: ix, hi => by
    have hl:=hi i (bG ..)
    obtain⟨v,hv,rv⟩:=h.get (i:=i) (x:=ys[i]) (aB hl)
    refine .cons ?_ (A8 h ix fun j hj=>hi j (cA _ hj))
    dsimp only
    rw[bA,aB hl,bA,hv]
    exact rv
theorem Pg{X:Cx}:eE X (.builtin "sorted") (AY X.K):=by
  intro pins s σ H xs us Q I rv h
  obtain⟨p,ys,cs,rfl,hp,hyc,h64,hy,q⟩:=h
  obtain⟨u,rfl,ru⟩:=vals1 rv
  cases ru
  obtain⟨its,rs,il,hz⟩:=I.list hp
  have hl:=rs.length
  refine Je (vs:=its) (cs:=cs) il.isList ⟨by omega,fun k hk=>?_⟩ (by omega) fun out ix ho ho2 AR=>?_
  · have hk':k<ys.length:=by omega
    obtain⟨v',hv',oN⟩:=rs.get (i:=k) (x:=ys[k]) (aB hk')
    obtain⟨a,ea,ha⟩:=hy k hk
    rw[bA,aB hk'] at ea
    have ea:ys[k]= .ref a:=ea
    rw[ea] at oN
    rw[bA (l:=its),hv']
    cases oN
    obtain⟨_,its2,qK,o,g1,g2,m,g3⟩:=(show bq X.prog X.w H s.heap a (.tup [.int (cs.getD k (0,0)).1, .int (cs.getD k (0,0)).2]) from I.hok a _ ha)
    cases qK with
    | cons x1 x2 =>
      cases x2 with
      | cons y1 y2 =>
        cases y2
        obtain⟨t,rfl⟩:=x1
        obtain⟨t2,rfl⟩:=y1
        exact⟨a,o,t,t2,m,rfl,g1,g2,g3⟩
  · rw[hl.symm] at ho
    obtain⟨e,ge⟩:=sortedAll_at s.heap its out
    have hlt:∀i∈ix,i<ys.length:=fun i hi=>fQ.mp (ho.mem_iff.mp hi)
    have h1:=A8 rs ix hlt
    rw[<-ho2] at h1
    have new:bq X.prog X.w (upd H (s.heap.objs.size+1) (.lst (ix.map fun i=>ys.getD i (.int 0)))) (sortedAll s.heap its out) (s.heap.objs.size+1) (.lst (ix.map fun i=>ys.getD i (.int 0))):=by
      refine⟨?_,out.toList,e,h1,by simpa using ge⟩
      rw[aj,ho.length_eq,fU];exact dH (ir h64) (by decide)
    exact⟨.ref (s.heap.objs.size+1),_,I.laid (t':=s.toks) (fun b o z=>sortedAll_old z) (jc _) new,rfl,q ix ho AR _ (I.hok.fresh (jc _))⟩
theorem rM{nb:Addr->Prop}{H:Hp}:∀{ds:List PyData} {xs:List V},af nb H ds xs->∀k,k<ds.length->ai nb H (ds.getD k .none) (xs.getD k (.int 0))
  |[],xs,h,k,hk=>absurd hk (Nat.not_lt_zero _)
  | d :: ds, xs, h, k, hk => by
    unfold af at h
    obtain⟨z,zs,rfl,h1,h2⟩:=h
    cases k with
    |zero=>exact h1
    |succ k=>exact rM h2 k (Nat.lt_of_succ_lt_succ hk)
theorem wo{nb:Addr->Prop}{H:Hp}{ds:List PyData}{xs:List V}(h:af nb H ds xs):∀ix:List Nat,(∀i∈ix,i<ds.length)->af nb H (ix.map fun i=>ds.getD i .none) (ix.map fun i=>xs.getD i (.int 0))
 |[],_=> .nil
 |i::ix,hi=> .cons (rM h i (hi i (bG ..))) (wo h ix fun j hj=>hi j (cA _ hj))
theorem Gk{α:Type}{x:α}{l:List α}{ix:List Nat}(h:ix.Perm (List.range l.length)):(ix.map fun i=>l.getD i x).Perm l:=by
 have:=h.map fun i=>l.getD i x
 refine this.trans (List.Perm.of_eq ?_)
 refine eH fun k=>?_
 rw[aI]
 by_cases hk:k<l.length
 ·rw[nE hk,aB hk];simp[hk]
 ·rw[cQ (by rw[fU];omega),cQ (by omega)];rfl
theorem aA.M3{G:Gx}{ρ:Rh}{te:TE}{K:PySem.W.Frag}{Θ:Bool->List PyData->Prop}(h:Ev G ρ te fun f x=>∃cs:Cn,x= .list (cs.map pairD)/\cs.length<64/\∀(cs':Cn) (g:Bool),cs'.Perm cs->cs'.Pairwise (fun c d=>i6 d c=false)->Θ g (cs'.map pairD)):aA G ρ (eS (AY K) (bx te bR)) Θ:=fun nb σ H Q W z=>
 h nb σ H _ W fun f v H1 x ⟨cs,ex,hn,q⟩ s1 hv=>by
  subst ex
  obtain⟨a,xs,rfl,na,hx,hd⟩:=hv.dJ
  have hl:=hd.length
  rw[aj] at hl
  refine⟨a,xs,cs,rfl, .of hx,hl,by omega,fun k hk=>?_,fun ix hix hr l n5=>?_⟩
  ·have hk':k<xs.length:=by omega
   have hm:xs.getD k (.int 0)∈xs:=by rw[bA,aB hk'];exact dZ _
   have h1:=rM hd k (by rw[aj];exact hk)
   have e:(cs.map pairD).getD k .none=pairD (cs.getD k (0,0)):=by rw[bA,aI,bA,aB hk];rfl
   rw[e] at h1
   obtain⟨b,ws,eb,n,hx,hd⟩:=h1.ofT
   have:ws=[V.int (cs.getD k (0,0)).1,V.int (cs.getD k (0,0)).2]:=ly (is:=[(cs.getD k (0,0)).1,(cs.getD k (0,0)).2]) hd
   subst this
   exact⟨b,eb,hx⟩
  ·rw[hl] at hix
   have hlt:∀i∈ix,i<cs.length:=fun i hi=>fQ.mp (hix.mem_iff.mp hi)
   have e:(ix.map fun i=>(cs.map pairD).getD i .none)=(ix.map fun i=>cs.getD i (0,0)).map pairD:=by
    rw[c6]
    apply e7
    intro i hi
    show(cs.map pairD).getD i .none=pairD (cs.getD i (0,0))
    rw[bA,aI,bA,aB (hlt i hi)];rfl
   have h2:=wo hd ix fun i hi=>by rw[aj];exact hlt i hi
   rw[e] at h2
   exact aA.fin (f:=f) W s1 n5 h2 (q _ _ (Gk hix) hr) z
end L2
set_option maxRecDepth 100000
set_option maxHeartbeats 4000000
namespace L2
open PySem PySem.Spec PyProof.Rows
@[reducible] def Ve(l c:Cn)(u p:Int):Gw:=⟨l,c,(p:Rat)/u,u⟩
end L2
set_option maxRecDepth 100000
set_option maxHeartbeats 4000000
set_option maxRecDepth 100000
set_option maxHeartbeats 4000000
namespace L2
open PySem PySem.Spec PyProof.Rows
theorem QF:typeLookup (.type "list") "keys"=pure none:=by rw[typeLookup_type,builtinLookup_eq_fast];kernel_rfl
theorem Iw:typeLookup (.type "list") "__getattr__"=pure none:=by rw[typeLookup_type,builtinLookup_eq_fast];kernel_rfl
section
variable{prog:Program}{w:World}{A:Around}{E:Value->Shared->Prop}{h:Heap}{g:Array GenState}{d:Drawn}{t:Nat}{os:OsState}{a:Addr}{o:Obj}
theorem NY{tk:Tok}{Q:Fin->Shared->Prop}{xs:Array Value}{n:Nat}(hh:A.handled=none)(hx:h.get? a=some (seqObj "list" xs n))
  (hq:∀h' tk e,Heap.NewAttrErr h h' e (.ref a) "keys" ->E (.ref e) ⟨h',g,d,tk,os⟩):
  wpAny (model prog w) A (Builtin.«object.__getattribute__» ⟨[.ref a, .str "keys" tk],[]⟩) Q E ⟨h,g,d,t,os⟩:=by
 have hT:(⟨h,g,d,t,os⟩:Shared).TypeIs (.ref a) "list":=⟨_,hx,rfl⟩
 have f4:=QF
 unfold Builtin.«object.__getattribute__»
 repeat (any_goals (first|assumption|wp_step))
 exact wpAny_raiseAttrError hh hq (attrMsg_fits (by decide+kernel) (by size_fits))
theorem QG{tk:Tok}{R:Result->Shared->Prop}{xs:Array Value}{n:Nat}(hh:A.handled=none)(hx:h.get? a=some (seqObj "list" xs n))(hq:∀h' tk e,Heap.NewAttrErr h h' e (.ref a) "keys" ->R (.error (.ref e)) ⟨h',g,d,tk,os⟩):
  codeAny (model prog w) A (.call (.builtin "list.__getattribute__") ⟨[.ref a, .str "keys" tk],[]⟩) R ⟨h,g,d,t,os⟩:=
 codeAny_call_builtin sF.plain PySem.F.entry_list_ga (sF.check _ _ _ _ _ _ _ _ (show(⟨h,g,d,t,os⟩:Shared).TypeIs (.ref a) "list" from⟨_,hx,rfl⟩) (PySem.F.args_list_getattribute_2 _ _) (NY (by exact hh) hx hq))
theorem Ja{Q:Option Value->Shared->Prop}{xs:Array Value}{n:Nat}(hh:A.handled=none)(hx:h.get? a=some (seqObj "list" xs n))
  (hq:∀h' tk,(∀b ob,h.get? b=some ob->h'.get? b=some ob)->Q none ⟨h',g,d,tk,os⟩):wpAny (model prog w) A (getAttr? (.ref a) "keys") Q E ⟨h,g,d,t,os⟩:=by
 have hT:(⟨h,g,d,t,os⟩:Shared).TypeIs (.ref a) "list":=⟨_,hx,rfl⟩
 have f1:=sub_AttributeError
 have f2:=sF.lookup
 have f3:=sF.bind (.ref a)
 have f5:=Iw
 unfold getAttr? getAttrBy? getAttrBy
 repeat (any_goals (first|assumption|wp_step))
 refine QG hh hx fun h' tk e hx'=>?_
 obtain⟨t',u',he⟩:=hx'.there
 unfold getattributeRaised
 repeat (any_goals (first|assumption|wp_step))
 exact hq _ _ hx'.keeps
end
end L2
set_option maxRecDepth 100000
set_option maxHeartbeats 4000000
namespace L2
open PySem PySem.Spec PyProof.Rows
theorem DX:entryFor table "dict.update.loop"=some Builtin.«dict.update.loop» :=entryFor_of_tree (by kernel_rfl)
theorem sj:plainId "dict.update.loop"=true:=by decide+kernel
def tK(P:Program)(w:World)(h:Heap)(v:Value)(p:Key×Value):Prop:=∃a o m ku,v= .ref a/\h.get? a=some o/\o.cls= .type "tuple" /\o.data= .seq #[ku,p.2] m/\(dG P w).is p.1 ku=true
section
variable{prog:Program}{w:World}{A:Around}{E:Value->Shared->Prop}{s:Shared}
theorem RQ{R:Result->Shared->Prop}{d it l:Addr}{its:List Value}{ps:List (Key×Value)}(hh:A.in1.handled=none)(hdl:d≠l)(hdi:d≠it)(hil:l≠it)(hlen:its.length=ps.length)(hsz:its.length<=10000):
    ∀(k i:Nat) (s:Shared) (t:Tok),its.length-i=k->i<=its.length->s.heap.IsListIter it l i->s.heap.IsList l its.toArray->(∀(j:Nat) (v:Value) (p:Key×Value),its[j]?=some v->ps[j]?=some p->tK prog w s.heap v p)->(∀(j:Nat) (v:Value),its[j]?=some v->v≠Value.ref d/\v≠Value.ref it)->
      s.heap.DictOf (dG prog w) d (merged [] (ps.take i))->(merged [] (ps.take i)).length<=i->
      (∀h' tk,(∀b o,b≠d->b≠it->s.heap.get? b=some o->h'.get? b=some o)->h'.DictOf (dG prog w) d (merged [] ps)->R (.ok (.ret .none)) {s with heap:=h',toks:=tk})->
      codeAny (model prog w) A (.builtin "dict.update.loop" ⟨[.ref d, .ref it, .int i t, .none],[]⟩) R s:=by
  intro k
  induction k with
  | zero =>
    intro i s t hk hi hit hl hp hne hD hDl hR
    have hin:i=its.length:=by omega
    subst hin
    refine codeAny_builtin DX ?_
    rw[kh sj _]
    show wpAny _ A.in1 (pyNext (.ref it)>>=_) _ _ s
    refine wpAny_bind (wpAny_pyNext_list_end hh hit hl (by simp) fun h' he=>?_)
    show wpAny _ A.in1 (ret Value.none) _ _ _
    rw[hlen,iF] at hD
    exact wpAny_pure (hR h' s.toks (fun b o _ n e=>he b o n e) (hD.extBut he hdi))
  | succ k ih =>
    intro i s t hk hi hit hl hp hne hD hDl hR
    have hlt:i<its.length:=by omega
    obtain⟨v,hv⟩:∃v,its[i]?=some v:=⟨_,aB hlt⟩
    obtain⟨p,hpp⟩:∃p,ps[i]?=some p:=⟨_,aB (by omega)⟩
    obtain⟨hn1,hn2⟩:=hne i v hv
    obtain⟨a,o,m,ku,rfl,g1,g2,g3,g4⟩:=hp i v p hv hpp
    have had:a≠d:=fun z=>hn1 (by rw[z])
    have hai:a≠it:=fun z=>hn2 (by rw[z])
    refine codeAny_builtin DX ?_
    rw[kh sj _]
    show wpAny _ A.in1 (pyNext (.ref it)>>=_) _ _ s
    refine wpAny_bind (wpAny_pyNext_list_item hit hl (x:= .ref a) (by simpa using hv) fun h1 Mk zZ=>?_)
    have n6:h1.get? a=some o:=(zZ.2 a hai).trans g1
    have hT:(⟨h1,s.gens,s.drawn,s.toks,s.os⟩:Shared).TypeIs (.ref a) "tuple":=⟨o,n6,g2⟩
    show wpAny _ A.in1 (holding [Value.ref a] _>>=_) _ _ _
    refine wpAny_bind (wpAny_holding (wpAny_bind (wpAny_tryCatch ?_)))
    show wpAny _ A.in1 (Builtin.Dict.pairItems (.ref a)) _ _ _
    unfold Builtin.Dict.pairItems
    refine wpAny_bind (wpAny_typeOf hT ?_)
    rw[if_pos (by decide)]
    refine wpAny_bind (wpAny_seqItems n6 g3 (wpAny_pure ?_))
    show wpAny _ A.in1 (holding [ku,p.2] (dictSet d ku p.2)) _ _ _
    have qT:h1.DictOf (dG prog w) d (merged [] (ps.take i)):=hD.sameBut zZ hdi
    refine wpAny_holding (wpAny_dictSet_pairs (s:=⟨h1,s.gens,s.drawn,s.toks,s.os⟩) g4 qT (fun h2 HJ Gi=>?_) (dH hDl (dH hi (dH hsz (by decide)))))
    have e:stored (merged [] (ps.take i)) p.1 p.2=merged [] (ps.take (i+1)):=by rw[take_snoc hpp];unfold merged;rw[List.foldl_append];rfl
    rw[e] at HJ
    have kk:∀b o,b≠d->b≠it->s.heap.get? b=some o->h2.get? b=some o:=fun b o n1 n2 z=>(Gi.2 b n1).trans ((zZ.2 b n2).trans z)
    refine wpAny_pure ⟨plainId_quiet sj _,ih (i+1) ⟨h2,s.gens,s.drawn,s.toks+1,s.os⟩ _ (by omega) hlt ?_ ?_ ?_ hne HJ ?_ fun h' tk k' yF=>?_⟩
    · exact Mk.at fun o z=>(Gi.2 it (bB hdi)).trans z
    · exact hl.at fun o z=>kk l o (bB hdl) hil z
    · intro j v' p' hv' uC
      obtain⟨hn1,hn2⟩:=hne j v' hv'
      obtain⟨a,o,m,ku,rfl,q1,q2,q3,q4⟩:=hp j v' p' hv' uC
      exact⟨a,o,m,ku,rfl,kk a o (fun z=>hn1 (by rw[z])) (fun z=>hn2 (by rw[z])) q1,q2,q3,q4⟩
    · rw[<-e]
      unfold stored
      split
      · rw[aj];omega
      · rw[cO,gQ];omega
    · exact hR h' tk (fun b o n1 n2 z=>k' b o n1 n2 (kk b o n1 n2 z)) yF
theorem Lo{l:Addr}{its:List Value}{n:Nat}{ps:List (Key×Value)}{Q:Value->Shared->Prop}(hh:A.handled=none)(hlo:s.heap.get? l=some (seqObj "list" its.toArray n))(hlen:its.length=ps.length)(hsz:its.length<=10000)
  (hp:∀(j:Nat) (v:Value) (p:Key×Value),its[j]?=some v->ps[j]?=some p->tK prog w s.heap v p)
  (h:∀h' tk,h'.DictOf (dG prog w) s.heap.objs.size (merged [] ps)->(∀b o,s.heap.get? b=some o->h'.get? b=some o)->Q (.ref s.heap.objs.size) {s with heap:=h',toks:=tk}):
  wpAny (model prog w) A (call (.type "dict") [.ref l]) Q E s:=by
 refine callType_codes (Q₁:=fun obj s₁=>obj= .ref s.heap.objs.size/\s₁={s with heap:=s.heap.push {cls:= .type "dict",data:= .dict #[]}}) PySem.F.kt_called_dict (PySem.F.kt_typeCall_dict_1 _) PySem.F.entry_dict_init (kt_code_dict_new _ ⟨rfl,rfl⟩) ?_
 rintro obj s₁ ⟨rfl,rfl⟩
 have hnew:(s.heap.push {cls:= .type "dict",data:= .dict #[]}).DictOf (dG prog w) s.heap.objs.size []:=Heap.DictOf.new s.heap
 have hl1:(s.heap.push {cls:= .type "dict",data:= .dict #[]}).get? l=some (seqObj "list" its.toArray n):=bw _ hlo
 have n5:l<s.heap.objs.size:=aW hlo
 refine⟨hnew.typeIs,PySem.F.args_dict_init_2 _ _,?_⟩
 unfold Builtin.«dict.__init__»
 refine wpAny_bind ?_
 unfold Builtin.Dict.selfAndRest
 refine wpAny_bind (wpAny_notOrdered_dict hnew.typeIs ?_)
 show wpAny _ _ (pure (s.heap.objs.size,[Value.ref l])) _ _ _
 refine wpAny_pure ?_
 show wpAny _ _ (Builtin.Dict.updateFrom "dict.__init__" s.heap.objs.size (.ref l) [] .none) _ _ _
 unfold Builtin.Dict.updateFrom
 refine wpAny_bind (wpAny_typeOf (T:="list") ⟨_,hl1,rfl⟩ ?_)
 rw[if_pos (by decide)]
 refine wpAny_bind (Ja (A:=A.in1.in1) hh hl1 fun h1 tk k1=>?_)
 rw[if_pos (show(none:Option Value).isNone=true from rfl)]
 refine wpAny_bind (wpAny_rule (wpAny_bind ?_))
 have hl2:h1.get? l=some (seqObj "list" its.toArray n):=k1 _ _ hl1
 have qT:h1.DictOf (dG prog w) s.heap.objs.size []:=let ⟨o',es,ep,ho,r⟩:=hnew;⟨o',es,ep,k1 _ _ ho,r⟩
 have hs1:s.heap.objs.size<h1.objs.size:=by obtain⟨o',es,ep,ho,_⟩:=qT;exact aW ho
 have FZ:h1.IsList l its.toArray:=⟨_,hl2,rfl,n,rfl⟩
 refine wpAny_pyIter_list FZ ?_
 refine wpAny_pure ⟨plainId_quiet sj _,?_⟩
 refine RQ (A:=A.in1) (its:=its) (ps:=ps) hh (bB (bK n5)) (bK hs1) (bK (kH n5 hs1)) hlen hsz its.length 0 _ _ (by omega) (fF _) ⟨_,eF _ rfl,rfl,rfl⟩ (FZ.push _) ?_ ?_ (qT.push _) (aK _) fun h' tk' k' yF=>?_
 ·intro j v p hv hpp
  obtain⟨a,o,m,ku,rfl,q1,q2,q3,q4⟩:=hp j v p hv hpp
  exact⟨a,o,m,ku,rfl,bw _ (k1 _ _ (bw _ q1)),q2,q3,q4⟩
 ·intro j v hv
  obtain⟨p,hpp⟩:∃p,ps[j]?=some p:=⟨_,aB (by have:=(bh.mp hv).1;omega)⟩
  obtain⟨a,o,m,ku,rfl,q1,_⟩:=hp j v p hv hpp
  have la:=aW q1
  refine⟨fun z=>?_,fun z=>?_⟩
  ·cases z;exact absurd la (iV _)
  ·have z':a=h1.objs.size:=by cases z;rfl
   rw[z'] at la
   exact absurd (kH la hs1) (iV _)
 ·refine⟨rfl,h h' tk' yF fun b o z=>?_⟩
  have lb:=aW z
  exact k' b o (bK lb) (bK (kH lb hs1)) (bw _ (k1 _ _ (bw _ z)))
end
def zT:List V->Hp->VK->Prop:=fun xs H Q=>∃(l:Addr) (ys:List V) (kvs:List (Key×V)),xs=[.ref l]/\H l=some (.lst ys)/\ys.length=kvs.length/\ys.length<=10000/\
 (∀(j:Nat) (y:V) (p:Key×V),ys[j]?=some y->kvs[j]?=some p->∃a,y= .ref a/\H a=some (.tup [kV p.1,p.2]))/\∀d,H d=none->Q (.ref d) (upd H d (.dK (kr [] kvs)))
theorem HU{X:Cx}(hc:X.calm=true):eE X (.type "dict") zT:=by
  intro pins s σ H xs us Q I rv h
  obtain⟨l,ys,kvs,rfl,hH,hlen,hsz,hy,q⟩:=h
  obtain⟨u,rfl,ru⟩:=vals1 rv
  cases ru
  obtain⟨_,its,n,rs,h1⟩:=(show bq X.prog X.w H s.heap l (.lst ys) from I.hok l _ hH)
  have hli:=rs.length
  have key:∃ps:List (Key×Value),KV kvs ps/\∀(j:Nat) (v:Value) (p:Key×Value),its[j]?=some v->ps[j]?=some p->tK X.prog X.w s.heap v p:=by
    have gen:∀(ys:List V) (its:List Value) (kvs:List (Key×V)),Vals ys its->ys.length=kvs.length->(∀(j:Nat) (y:V) (p:Key×V),ys[j]?=some y->kvs[j]?=some p->∃a,y= .ref a/\H a=some (.tup [kV p.1,p.2]))->∃ps:List (Key×Value),KV kvs ps/\∀(j:Nat) (v:Value) (p:Key×Value),its[j]?=some v->ps[j]?=some p->tK X.prog X.w s.heap v p:=by
      intro ys
      induction ys with
      | nil =>
        intro its kvs r e _
        cases r
        cases kvs with
        |nil=>exact⟨[], .nil,fun j v p z=>by simp at z⟩
        |cons _ _=>cases e
      | cons y ys ih =>
        intro its kvs r e hq
        cases r with
        | cons r1 r2 =>
          cases kvs with
          |nil=>cases e
          | cons kv kvs =>
            obtain⟨ps,g1,g2⟩:=ih _ kvs r2 (by simpa using e) fun j y p a b=>hq (j+1) y p (by simpa using a) (by simpa using b)
            obtain⟨a,rfl,ha⟩:=hq 0 y kv rfl rfl
            cases r1
            obtain⟨_,its2,qK,o,w1,w2,m,w3⟩:=(show bq X.prog X.w H s.heap a (.tup [kV kv.1,kv.2]) from I.hok a _ ha)
            cases qK with
            | cons x1 x2 =>
              cases x2 with
              | cons y1 y2 =>
                cases y2
                refine⟨(kv.1,_)::ps, .cons ⟨rfl,y1⟩ g1,fun j v p a b=>?_⟩
                cases j with
                | zero =>
                  simp at a b
                  subst a b
                  exact⟨_,o,m,_,rfl,w1,w2,w3,mZ x1⟩
                |succ j=>exact g2 j v p (by simpa using a) (by simpa using b)
    exact gen ys its kvs rs hlen hy
  obtain⟨ps,rel,hps⟩:=key
  have hpl:=rel.length
  refine Lo (I.ok.hd hc) h1 (by omega) (by omega) hps fun h' tk' hD k=>?_
  have hml:=BY kvs []
  have new:bq X.prog X.w (upd H s.heap.objs.size (.dK (kr [] kvs))) h' s.heap.objs.size (.dK (kr [] kvs)):=by
    refine D6 (dH hml (dH (show _<=10000 by simp;omega) (by decide))) ?_ (rel.merge .nil) hD
    have hb:=I.big
    have:s.heap.objs.size≠sysModules:=lC hb
    simpa using this
  exact⟨.ref s.heap.objs.size,_,I.laid (t':=tk') k (aK _) new,rfl,q _ (I.hok.fresh (aK _))⟩
end L2
set_option maxRecDepth 100000
set_option maxHeartbeats 4000000
namespace L2
open PySem PySem.Spec PyProof.Rows
abbrev Ks:=List (Int×PyData)
def gc(ks:Ks)(k:Int):Option PyData:=(ks.find? fun p=>decide (p.1=k)).map (·.2)
def lH(ks:Ks)(k:Int):Bool:=ks.any fun p=>decide (p.1=k)
def lG(ks:Ks)(k:Int)(d:PyData):Ks:=if lH ks k then ks.map fun p=>if p.1=k then(p.1,d) else p else ks++[(k,d)]
theorem RE(ks:Ks)(k:Int):(gc ks k).isSome=lH ks k:=by
  unfold gc lH
  rw[Option.isSome_map]
  induction ks with
  |nil=>rfl
  | cons p r ih =>
    rw[jE,mR]
    by_cases h:p.1=k
    · simp[h]
    · simp only[h,decide_false,pC];exact ih
theorem P4{ks:Ks}{k:Int}:lH ks k=true↔k∈ks.map (·.1):=by
 unfold lH
 rw[rP,bU]
 constructor
 ·rintro⟨p,h1,h2⟩;exact⟨p,h1,by simpa using h2⟩
 ·rintro⟨p,h1,h2⟩;exact⟨p,h1,by simpa using h2⟩
theorem Km{k:Int}:gc [] k=none:=rfl
theorem oh{p:Int×PyData}{r:Ks}{k:Int}:gc (p::r) k=if p.1=k then some p.2 else gc r k:=by
 unfold gc
 rw[jE]
 by_cases h:p.1=k<;>simp[h]
theorem Up{ks:Ks}{k j:Int}{d:PyData}:gc (ks++[(k,d)]) j=match gc ks j with|some x=>some x|none=>if j=k then some d else none:=by
  induction ks with
  | nil =>
    rw[List.nil_append,oh,Km]
    by_cases h:k=j
    · subst h;simp
    · have h':¬j=k:=fun z=>h z.symm
      simp[h,h']
  | cons p r ih =>
    rw[lJ,oh,oh,ih]
    by_cases h:p.1=j<;>simp[h]
section
variable{S:Addr->Prop}{H:Hp}
theorem ay.val:∀{ks:Ks} {ps:List (Key×V)} (k:Int),ay S H (ks.map cE) ps->match gc ks k with|some d=>∃v,eV ps (Sum.inl k)=some v/\ai S H d v|none=>eV ps (Sum.inl k)=none
  |[],ps,k,h=>by unfold ay at h;subst h;exact QM
  | p :: r, ps, k, h => by
    rw[bF] at h
    unfold ay at h
    obtain⟨q,qs,rfl,h1,h2⟩:=h
    unfold cG at h1
    obtain⟨h3,h4⟩:=h1
    have h3:q.1=Sum.inl p.1:=h3
    rw[oh]
    have ih:=ay.val k h2
    by_cases e:p.1=k
    · rw[if_pos e]
      refine⟨q.2,?_,h4⟩
      rw[qA (by rw[h3,e])]
    · rw[if_neg e,oB (fun z=>e (by rw[h3] at z;exact wB z))]
      exact ih
theorem ay.snoc:∀{ks:Ks} {ps:List (Key×V)} {k:Int} {d:PyData} {v:V},ay S H (ks.map cE) ps->ai S H d v->ay S H ((ks++[(k,d)]).map cE) (ps++[(Sum.inl k,v)])
  | [], ps, k, d, v, h, hd => by
    unfold ay at h;subst h
    show ay S H [cE (k,d)] [(Sum.inl k,v)]
    unfold ay
    exact⟨_,_,rfl,by unfold cG;exact⟨rfl,hd⟩,by unfold ay;rfl⟩
  | p :: r, ps, k, d, v, h, hd => by
    rw[bF] at h
    unfold ay at h
    obtain⟨q,qs,rfl,h1,h2⟩:=h
    rw[lJ,bF,lJ]
    unfold ay
    exact⟨q,_,rfl,h1,ay.snoc h2 hd⟩
theorem ay.repl:∀{ks:Ks} {ps:List (Key×V)} {k:Int} {d:PyData} {v:V},ay S H (ks.map cE) ps->ai S H d v->ay S H ((ks.map fun p=>if p.1=k then(p.1,d) else p).map cE) (ps.map fun kv=>if kv.1=Sum.inl k then(kv.1,v) else kv)
  |[],ps,k,d,v,h,hd=>by unfold ay at h;subst h;simp only[mK];unfold ay;rfl
  | p :: r, ps, k, d, v, h, hd => by
    rw[bF] at h
    unfold ay at h
    obtain⟨q,qs,rfl,h1,h2⟩:=h
    rw[bF,bF,bF]
    unfold cG at h1
    obtain⟨h3,h4⟩:=h1
    have h3:q.1=Sum.inl p.1:=h3
    unfold ay
    refine⟨_,_,rfl,?_,ay.repl h2 hd⟩
    by_cases e:p.1=k
    · rw[if_pos e,if_pos (by rw[h3,e])]
      unfold cG
      exact⟨h3,hd⟩
    · rw[if_neg e,if_neg (fun z=>e (by rw[h3] at z;exact wB z))]
      unfold cG
      exact⟨h3,h4⟩
theorem ay.any:∀{ks:Ks} {ps:List (Key×V)} (k:Int),ay S H (ks.map cE) ps->(ps.any fun kv=>decide (kv.1=Sum.inl k))=lH ks k:=fun{ks ps} k h=>by
 rw[u9,<-RE]
 have:=ay.val k h
 cases hv:gc ks k with
 |none=>rw[hv] at this;rw[this];rfl
 |some d=>rw[hv] at this;obtain⟨v,e,_⟩:=this;rw[e];rfl
theorem ay.put{ks:Ks}{ps:List (Key×V)}{k:Int}{d:PyData}{v:V}(h:ay S H (ks.map cE) ps)(hd:ai S H d v):ay S H ((lG ks k d).map cE) (putK ps (Sum.inl k) v):=by
 unfold lG putK
 rw[ay.any k h]
 split
 ·exact ay.repl h hd
 ·exact ay.snoc h hd
theorem ay.len:∀{ks:Ks} {ps:List (Key×V)},ay S H (ks.map cE) ps->ps.length=ks.length
  |[],ps,h=>by unfold ay at h;subst h;rfl
  | p :: r, ps, h => by
    rw[bF] at h
    unfold ay at h
    obtain⟨q,qs,rfl,_,h2⟩:=h
    simp[ay.len h2]
theorem ay.keys:∀{ks:Ks} {ps:List (Key×V)},ay S H (ks.map cE) ps->ps.map (·.1)=(ks.map (·.1)).map Sum.inl
  |[],ps,h=>by unfold ay at h;subst h;rfl
  | p :: r, ps, h => by
    rw[bF] at h
    unfold ay at h
    obtain⟨q,qs,rfl,h1,h2⟩:=h
    unfold cG at h1
    have h3:q.1=Sum.inl p.1:=h1.1
    simp[ay.keys h2,h3]
end
def sD(G:Gx)(ρ:Rh)(te:TE)(Φ:Bool->Ks->Prop):Prop:=∀nb σ H (Q:VK),Wd G nb ρ σ H->
 (∀f a ps H' ks,Φ f ks->Step G.B H H'->H a=none->H' a=some (.dK ps)->ay (fun x=>G.S nb f x\/x=a) H' (ks.map cE) ps->Q (.ref a) H')->te σ H Q
section
variable{G:Gx}{ρ cV:Rh}{Φ Ψ:Pd}{ta tb te:TE}{t:TA}{i:Nat}{f g:Bool}{d e:PyData}{ks:Ks}{K:PySem.W.Frag}{E:DE}{Θ:Bool->Ks->Prop}
theorem Wd.grow{nb:Addr->Prop}{σ:St}{H H1:Hp}{a:Addr}{o:HO}(W:Wd G nb ρ σ H)(s1:Step G.B H H1)(ha:H a=none)(e:H1 a=some o):Wd G (fun x=>nb x\/x=a) ρ σ H1/\NB G.B a/\∀f x,G.S (fun x=>nb x\/x=a) f x->(G.S nb f x\/x=a):=by
  have hN:NB G.B a:=NB.new W.az ha
  have hA:∀f x,G.S (fun x=>nb x\/x=a) f x->(G.S nb f x\/x=a):=fun f x z=>by
    rcases z with (z|z)|z|z|z
    · exact .inl (.inl z)
    · exact .inr z
    · exact .inl (.inr (.inl z))
    · exact .inl (.inr (.inr (.inl z)))
    · exact .inl (.inr (.inr (.inr z)))
  have W1:=W.step s1
  refine⟨?_,hN,hA⟩
  refine⟨W1.az,fun x n=>?_,W1.old,fun x n q=>?_,W.gA,W.len,W.gB,fun h m=>(((W.dW h m).fresh ha).keep (s1.but fun x z=> .inl (.inr (.inr (.inl z))))).av (hA h.1),fun j s e'=>?_,W.apart,W.eg,W.cP⟩
  · rcases n with n|n
    · exact W1.live x n
    · subst n;rw[e];exact jm _
  · rcases n with n|n
    · exact W.cM x n q
    · subst n
      cases z:G.H0 x with
      |none=>rfl
      |some o=>rw[W.old x o q z] at ha;cases ha
  · obtain⟨x,e1,h⟩:=W.ok j s e'
    refine⟨x,e1,?_⟩
    cases s with
    |no=>trivial
    |d f d=>obtain⟨v,e,h⟩:=h;exact⟨v,e,((h.fresh ha).keep (s1.but fun x z=> .inl (.inr (.inr (.inl z))))).av (hA f)⟩
    |own c f es=>obtain⟨e,n,q,xs,hx,hd⟩:=h;exact⟨e, .inl n,q,xs,s1.1 _ _ q hx,((hd.fresh ha).keep (s1.but fun x z=> .inl (.inr (.inr (.inl z))))).av (hA f)⟩
    |az=>exact h
    |raw v=>exact h
    |bI c f es=>obtain⟨e,n,q,xs,hx,hd⟩:=h;exact⟨e, .inl n,q,xs,s1.1 _ _ q hx,((hd.fresh ha).keep (s1.but fun x z=> .inl (.inr (.inr (.inl z))))).av (hA f)⟩
    | cu c =>
      obtain⟨e,n,q⟩:=h
      refine⟨e,fun a ha=>⟨.inl (n a ha).1,(n a ha).2⟩,c.av (hA c.f) (c.keep (.of fun x o hx e=>s1.1 x o ?_ e) (c.fresh ha q))⟩
      rcases hx with hx|hx
      · exact iI fun z=>hx (.inl (.inr (.inr (.inl z))))
      · exact(n x hx).2
theorem KQ{nb:Addr->Prop}{σ:St}{H H1:Hp}{a:Addr}{ps:List (Key×V)}(W:Wd G nb ρ σ H)(s1:Step G.B H H1)(ha:H a=none)(e:H1 a=some (.dK ps))(hd:ay (fun x=>G.S nb f x\/x=a) H1 (ks.map cE) ps):
  Wd G (fun x=>nb x\/x=a) (ρ.set i (.bI a f ks)) (σ.set i (some (.ref a))) H1:=by
 obtain⟨W2,hN,hA⟩:=W.grow s1 ha e
 refine W2.set ⟨rfl, .inr rfl,hN,ps,e,hd.av (hA f)⟩ (fun _ _ _ z=>by cases z) ?_ (fun x hx j t hj ht hc=>?_)
 rotate_left
 ·have hx:x=a:=bS.mp hx
  subst hx
  rcases hc with ⟨c,z⟩|⟨c,rfl⟩
  ·cases z
  ·exact fun z=>W.live x ((W.ok j _ ht).choose_spec.2.2.1 x z).1 ha
 rintro a' f' ds' ⟨rfl,rfl,rfl⟩ j c g cs hj hc z
 subst z
 obtain⟨x,e1,h1,h2,h3,ys,hy,_⟩:=W.ok j _ hc
 rw[hy] at ha;cases ha
theorem Sv.MA(h:sD G ρ te fun f ks=>∀a,E.nx (ρ.set i (.bI a f ks))):Sv G ρ (jb te (gG i)) E:=fun nb σ H D W K=>h nb σ H _ W fun f a ps H1 ks q s1 ha e hd=>K.nx _ _ _ H1 (q a) (KQ W s1 ha e hd)
theorem sD.new(h:Θ true []):sD G ρ G7 Θ:=fun nb σ H Q W z p hp=>z true p [] _ [] h (.same W.az (dg hp)) hp aV (by unfold ay;rfl)
@[reducible] def Uj(p:Int×PyData):PyData:= .tuple [.int p.1,p.2]
theorem Ii{nb:Addr->Prop}{σ:St}{H:Hp}{a:Addr}{ps:List (Key×V)}{ks':Ks}(W:Wd G nb ρ σ H)(e:ρ[i]?=some (.bI a f ks))(hd:ay (G.S nb g) H (ks'.map cE) ps):Wd G nb (ρ.set i (.bI a g ks')) σ (upd H a (.dK ps)):=by
 obtain⟨x,e1,h1,h2,h3,ys,hy,_⟩:=W.ok i _ e
 subst h1
 have hil:i<ρ.length:=(bh.mp e).1
 have W0:Wd G nb (ρ.set i .no) (σ.set i (some (.ref a))) H:=W.set trivial fun _ _ _ z=>by cases z
 have W1:Wd G nb (ρ.set i .no) (σ.set i (some (.ref a))) (upd H a (.dK ps)):=W0.write h2 h3 (fun j c f' cs hc z=>by
   subst z
   have hij:i≠j:=fun z=>by subst z;rw[cN hil] at hc;cases hc
   rw[bE hij] at hc
   obtain⟨_,_,_,_,_,ps,hp,_⟩:=W.ok j _ hc
   rw[hy] at hp;cases hp) (fun j c f' cs hc=>by
   by_cases hij:i=j
   ·subst hij;rw[cN hil] at hc;cases hc
   ·rw[bE hij] at hc
    exact(W.eg i j _ _ _ _ _ _ hij e hc).symm) (fun j c hc z=>by
   have hij:i≠j:=fun z=>by subst z;rw[cN hil] at hc;cases hc
   rw[bE hij] at hc
   exact W.cP j i c _ (bB hij) hc e a z (bS.mpr rfl))
 have W2:=W1.set (i:=i) (s:= .bI a g ks') (x:=some (.ref a)) ⟨rfl,h2,h3,ps,aV,hd.keep (aU.set (.inl h2))⟩ (fun _ _ _ z=>by cases z) (by
  rintro a' f' ds' ⟨rfl,rfl,rfl⟩ j c g' cs hj hc
  rw[bE (bB hj)] at hc
  exact W.eg i j _ _ _ _ _ _ (bB hj) e hc) (fun x hx j t hj ht hc z=>by
  rw[bE (bB hj)] at ht
  have hx:x=a:=bS.mp hx
  subst hx
  rcases hc with ⟨c,q⟩|⟨c,rfl⟩
  ·cases q
  ·exact W.cP j i c _ hj ht e x z (bS.mpr rfl))
 rw[iZ,iZ] at W2
 have:σ.set i (some (.ref a))=σ:=by
  apply eH
  intro j
  by_cases hij:i=j
  ·subst hij;rw[cN (by rw[W.len];exact hil),e1]
  ·rw[bE hij]
 rwa[this] at W2
theorem Sv.S9{a:Addr}(e:ρ[i]?=some (.bI a f ks))(h:Ev G ρ te fun g d=>Ev G ρ tb fun _ y=>∃k,y= .int k/\ks.length<10000/\E.nx (ρ.set i (.bI a (f && g) (lG ks k d)))):Sv G ρ (jb te (pS (eU i) tb wL)) E:=fun nb σ H D W KK=>
 h nb σ H _ W fun g v H1 d q s1 hv=>by
  obtain⟨x,e1,h1,h2,h3,ps,hp,hd⟩:=(W.step s1).ok i _ e
  subst h1
  refine⟨.ref a,e1,q nb σ H1 _ (W.step s1) fun g' u H2 y ⟨k,ey,hl,p⟩ s2 hu=>?_⟩
  subst ey
  have W2:=(W.step s1).step s2
  have hlen:=hd.len
  refine⟨a,ps, .inl k,rfl,hu.bX,s2.1 _ _ h3 hp,dI (by rw[hlen];exact hl) (by decide),KK.nx nb _ _ _ p (Ii W2 e ?_)⟩
  exact ay.put ((hd.keep s2.dz).av (bz (fun z=>(cK _ _▸z).1) fun _ z=>z)) ((hv.keep s2.dz).av (bz (fun z=>(cK _ _▸z).2) fun _ z=>z))
namespace Ev
theorem Uo{a:Addr}(e:ρ[i]?=some (.bI a f ks))(h:Ev G ρ tb fun _ y=>∃k,y= .int k/\∃d,gc ks k=some d/\Φ f d):Ev G ρ (dw jD (eU i) tb) Φ:=fun nb σ H Q W z=>by
 obtain⟨x,e1,h1,h2,h3,ps,hp,hd⟩:=W.ok i _ e
 subst h1
 refine⟨.ref a,e1,h nb σ H _ W fun g w H1 y ⟨k,ey,d,hv,p⟩ s1 hw=>?_⟩
 subst ey
 have:=ay.val k (hd.keep s1.dz)
 rw[hv] at this
 obtain⟨v,hv',hD⟩:=this
 exact⟨a,ps, .inl k,v,rfl,hw.bX, .inl (s1.1 _ _ h3 hp),hv',z f _ H1 _ p s1 hD⟩
theorem Nv{a:Addr}(e:ρ[i]?=some (.bI a f ks))(h:Ev G ρ ta fun _ y=>∃k,y= .int k/\Ev G ρ tb fun g x=>Φ (f && g) ((gc ks k).getD x)):Ev G ρ (kj K "dict" Hj (eU i) (bx ta (bx tb bR))) Φ:=fun nb σ H Q W z=>by
  obtain⟨x,e1,h1,h2,h3,ps,hp,hd⟩:=W.ok i _ e
  subst h1
  refine⟨.ref a,e1, .inr (.inr (.inl ⟨rfl, .inl ⟨_,hp⟩⟩)),?_⟩
  refine h nb σ H _ W fun g w H1 y ⟨k,ey,q⟩ s1 hw=>q nb σ H1 _ (W.step s1) fun g' u H2 x p s2 hu=>?_
  subst ey
  have hd2:=(hd.keep s1.dz).keep s2.dz
  have hv:=ay.val k hd2
  refine⟨a,ps, .inl k,u,rfl,by rw[hw.bX];rfl, .inl (s2.1 _ _ h3 (s1.1 _ _ h3 hp)),?_⟩
  cases hk:gc ks k with
  | none =>
    rw[hk] at hv p
    rw[hv]
    exact z _ _ H2 _ p (s1.trans s2) (hu.av (bz (fun z=>(cK _ _▸z).2) fun _ z=>z))
  | some d =>
    rw[hk] at hv p
    obtain⟨v,e',hD⟩:=hv
    rw[e']
    exact z _ _ H2 _ p (s1.trans s2) (hD.av (bz (fun z=>(cK _ _▸z).1) fun _ z=>z))
end Ev
end
def DO(ng:Bool):R2:=fun x y H Q=>∃a o,y= .ref a/\Dm H a x o/\Q (.bl (o.isSome !=ng)) H
theorem O0{X:Cx}(hu:X.A.units+64<cLine):dX X (compareOp .In) (DO false):=by
 intro pins s σ H x y v u Q I rx ry h
 obtain⟨a,o,rfl,g,q⟩:=h
 cases ry
 exact Jv (by omega) I g rx fun s' I'=>⟨.bl o.isSome,H,I',rfl,by simpa using q⟩
section
variable{G:Gx}{ρ:Rh}{Φ:Pd}{ta tb te:TE}{i:Nat}{f:Bool}{ks:Ks}{K:PySem.W.Frag}{E:DE}
theorem RL{nb:Addr->Prop}{σ:St}{H:Hp}{a:Addr}(W:Wd G nb ρ σ H)(e:ρ[i]?=some (.bI a f ks)):Wd G (fun x=>nb x/\x≠a) (ρ.set i (.d f (.dict (ks.map cE)))) σ H:=by
  obtain⟨x,e1,h1,h2,h3,xs,hx,hd⟩:=W.ok i _ e
  subst h1
  have hil:i<ρ.length:=(bh.mp e).1
  have W0:Wd G nb (ρ.set i .no) (σ.set i (some (.ref a))) H:=W.set trivial fun _ _ _ z=>by cases z
  have W1:Wd G (fun x=>nb x/\x≠a) (ρ.set i .no) (σ.set i (some (.ref a))) H:=by
    refine⟨W0.az,fun x n=>W0.live x n.1,W0.old,fun x n=>W0.cM x n.1,W0.gA,W0.len,W0.gB,fun h m=>(W0.dW h m).av (bz (fun z=>z) fun _ z=>z.1),fun j s e'=>?_,W0.apart,W0.eg,W0.cP⟩
    obtain⟨x,iE,h⟩:=W0.ok j s e'
    refine⟨x,iE,?_⟩
    have hij:s≠ .no->i≠j:=fun n z=>by subst z;rw[cN hil] at e';cases e';exact n rfl
    cases s with
    |no=>trivial
    |d f d=>obtain⟨v,e,h⟩:=h;exact⟨v,e,h.av (bz (fun z=>z) fun _ z=>z.1)⟩
    | own c f es =>
      obtain⟨e2,n,q,ys,hy,hd'⟩:=h
      have hca:c≠a:=fun z=>by subst z;rw[hx] at hy;cases hy
      exact⟨e2,⟨n,hca⟩,q,ys,hy,hd'.av (bz (fun z=>z) fun _ z=>z.1)⟩
    |az=>exact h
    |raw v=>exact h
    | bI c f es =>
      obtain⟨e2,n,q,ps,hp,hd'⟩:=h
      have hij:=hij (by intro z;cases z)
      rw[bE hij] at e'
      exact⟨e2,⟨n,(W.eg i j _ _ _ _ _ _ hij e e').symm⟩,q,ps,hp,hd'.av (bz (fun z=>z) fun _ z=>z.1)⟩
    | cu c =>
      obtain⟨e2,n,q⟩:=h
      have hij:=hij (by intro z;cases z)
      rw[bE hij] at e'
      exact⟨e2,fun x hx=>⟨⟨(n x hx).1,fun z=>W.cP j i c _ (bB hij) e' e x hx (by rw[z];exact bS.mpr rfl)⟩,(n x hx).2⟩,c.av (bz (fun z=>z) fun _ z=>z.1) q⟩
  have W2:=W1.mD (i:=i) (f:=f) (d:= .dict (ks.map cE)) (v:= .ref a) (by
    unfold ai
    refine⟨a,xs,rfl,fun z=>?_, .inl hx,hd.av (bz (fun z=>z) fun _ z=>z.1)⟩
    rcases z with z|z|z|z
    · exact z.2 rfl
    · exact W.gA a z (W.cM a h2 h3)
    · exact z h3
    · exact z.2 (W.cM a h2 h3))
  rw[iZ,iZ] at W2
  have:σ.set i (some (.ref a))=σ:=by
    apply eH
    intro j
    by_cases hij:i=j
    · subst hij;rw[cN (by rw[W.len];exact hil),e1]
    · rw[bE hij]
  rwa[this] at W2
theorem Sv.Uc{s:TS}{a:Addr}(i:Nat)(e:ρ[i]?=some (.bI a f ks))(h:Sv G (ρ.set i (.d f (.dict (ks.map cE)))) s E):Sv G ρ s E:=fun nb σ H D W K=>h _ σ H D (RL W e) K
theorem Ev.qC(h:Ev G ρ ta fun f x=>∃ks:Ks,x= .dict (ks.map cE)/\Ev G ρ tb fun _ y=>∃k,y= .int k/\∃d,gc ks k=some d/\Φ f d):Ev G ρ (dw jD ta tb) Φ:=
 Ev.i7 (h.mono fun f x ⟨ks,ex,q⟩=>q.mono fun g y ⟨k,ey,d,hv',p⟩ nb σ H u v Q W hu hv z=>by
  subst ex ey
  unfold ai at hu
  obtain⟨a,ps,rfl,n,hp,hd⟩:=hu
  have:=ay.val k hd
  rw[hv'] at this
  obtain⟨w,hw,hD⟩:=this
  exact⟨a,ps, .inl k,w,rfl,hv.bX,hp,hw,z f _ H _ p (.refl W.az) hD⟩)
end
end L2
set_option maxRecDepth 100000
set_option maxHeartbeats 4000000
set_option maxRecDepth 100000
set_option maxHeartbeats 4000000
namespace L2
open PySem PySem.Spec PyProof.Rows
theorem Pc{X:Cx}{K:PySem.W.Frag}{e:Expr}{T:String}{r:V->List V->Hp->VK->Prop}{to:TE}{t:TA}(hK:X.K=K)(h:PE X e (kj X.K T r to t)):PE X e (kj K T r to t):=by subst hK;exact h
structure KJ(n:Int)(cs:List ao):Prop where
 n0:1<=n
 n1:n<=10
 c0:cs≠[]
 c1:cs.length<=8
 ok:∀prs∈cs,prs≠[]/\prs.length<=4/\(prs.map (·.1)).Pairwise (· < ·)/\∀pr∈prs,0<=pr.1/\pr.1<n
section
variable{n:Int}{cs:List ao}(h:KJ n cs)
include h
end
end L2
set_option maxRecDepth 100000
set_option maxHeartbeats 4000000
namespace L2
open PySem PySem.Spec PyProof.Rows
theorem RU:∀m n:Nat,∃u v:Int,u*m+v*n=(Nat.gcd m n:Int):=fun m n=>by
  induction m,n using Nat.gcd.induction with
  |H0 n=>exact⟨0,1,by simp⟩
  | H1 m n hm ih =>
    obtain⟨u,v,e⟩:=ih
    rw[Nat.gcd_rec]
    refine⟨v-u*(n/m:Nat),u,?_⟩
    rw[<-e]
    have h:(n:Int)=((n%m:Nat):Int)+(m:Int)*((n/m:Nat):Int):=by exact_mod_cast (Nat.mod_add_div n m).symm
    generalize ((n/m:Nat):Int)=z at h⊢
    generalize ((n%m:Nat):Int)=y at h⊢
    rw[h]
    grind
theorem GD{p b a:Int}(hp:eK p)(hb:b%p≠0):∃k,b*sol p b a-a=p*k:=by
 have p2:=hp.1
 have hex:∃x,0<=x/\x<p/\∃k,b*x-a=p*k:=by
  have hg:Nat.gcd p.natAbs b.natAbs=1:=by
   have d1:(Int.gcd p b:Int)∣p:=Int.gcd_dvd_left ..
   have d2:(Int.gcd p b:Int)∣b:=Int.gcd_dvd_right ..
   have h0:0<(Int.gcd p b:Int):=by
    have:Int.gcd p b≠0:=fun z=>by have:=(Ed.mp z).1;omega
    omega
   rcases hp.2 _ h0 d1 with e|e
   ·show Int.gcd p b=1
    omega
   ·rw[e] at d2;exact absurd (pI d2) hb
  obtain⟨u,v,e⟩:=RU p.natAbs b.natAbs
  rw[hg] at e
  obtain⟨v',e'⟩:∃v',u*p+v'*b=1:=by
   have IT:(p.natAbs:Int)=p:=by omega
   rw[IT] at e
   rcases(show(b.natAbs:Int)=b\/(b.natAbs:Int)= -b by omega) with h|h<;>rw[h] at e
   ·exact⟨v,e⟩
   ·exact⟨-v,by have e2:u*p+v* -b=1:=e;rw[<-e2];grind⟩
  refine⟨(v'*a)%p,gm _ (by omega),fY _ (by omega),?_⟩
  have h1:=GZ (v'*a) p
  generalize v'*a/p=t at h1
  generalize hx:v'*a%p=x at h1
  refine⟨-u*a-b*t,?_⟩
  have:b*x=b*(v'*a)-b*(p*t):=by rw[<-h1];grind
  rw[this]
  have h2:b*(v'*a)=(1-u*p)*a:=by rw[<-e'];grind
  rw[h2]
  grind
 unfold sol
 rw[dif_pos hex]
 exact(vL hex).2.2
end L2
set_option maxRecDepth 100000
set_option maxHeartbeats 4000000
namespace L2
open PySem PySem.Spec PyProof.Rows
theorem af.era{nb:Addr->Prop}{H:Hp}:∀{ds:List PyData} {xs:List V} (m:Nat),af nb H ds xs->af nb H (ds.eraseIdx m) (xs.eraseIdx m)
 |[],_,m,h=>by unfold af at h;subst h;exact .nil
 |e::ds,_,0,h=>by unfold af at h;obtain⟨y,ys,rfl,h1,h2⟩:=h;exact h2
 |e::ds,_,m+1,h=>by unfold af at h;obtain⟨y,ys,rfl,h1,h2⟩:=h;exact .cons h1 (af.era m h2)
section
variable{G:Gx}{ρ:Rh}{te:TE}{E:DE}{i j:Nat}{f:Bool}{ds:List PyData}{K:PySem.W.Frag}
theorem Sv.IG{K2:PySem.W.Frag}{a c:Addr}{g:Bool}{es:List PyData}(hij:i≠j)(e:ρ[i]?=some (.own a f ds))(ej:ρ[j]?=some (.own c g es))
  (h:Ev G ρ te fun _ y=>∃(m:Nat) (d:PyData),y= .int (m:Int)/\m<2^62/\es[m]?=some d/\ds.length<10000/\E.nx ((ρ.set j (.own c g (es.eraseIdx m))).set i (.own a (f && g) (ds++[d])))):
  Sv G ρ (ua (kj K "list" qZ (eU i) (bx (kj K2 "list" GH (eU j) (bx te bR)) bR))) E:=fun nb σ H D W KK=>by
 obtain⟨x,e1,h1,h2,h3,xs,hx,hd⟩:=W.ok i _ e
 subst h1
 obtain⟨y,e2,k1,k2,k3,ys,hy,he⟩:=W.ok j _ ej
 subst k1
 have hac:a≠c:=W.apart i j _ _ _ _ _ _ hij e ej
 refine⟨.ref a,e1, .inl ⟨rfl,_,aS.of hx⟩, .ref c,e2, .inl ⟨rfl,_,aS.of hy⟩,h nb σ H _ W fun b v H1 z ⟨m,d,ez,hm,Jq,hl,q⟩ s1 hv=>?_⟩
 subst ez
 have hk:=hv.bX
 subst hk
 have W1:=W.step s1
 have zu:=s1.1 _ _ h3 hx
 have hy1:=s1.1 _ _ k3 hy
 have hd1:=hd.keep s1.dz
 have Dk:=he.keep s1.dz
 obtain⟨y',hy',hD⟩:=Dk.get Jq
 have hml:m<ys.length:=(bh.mp hy').1
 have hix:seqIndex? (m:Int) ys.length=some m:=by
  have:gz ys.length (m:Int)=some m:=by
   unfold gz
   rw[if_pos (by omega),if_pos (by omega),iT]
  exact(zC this).1
 refine⟨c,ys,(m:Int),m,y',rfl,rfl,hy1,by omega,by omega,hix,hy',?_⟩
 have W2:=uv W1 ej (Dk.era m)
 have bt:=(aU.set (.inl k2):aU (G.S nb true) H1 (upd H1 c (.lst (ys.eraseIdx m))))
 have eI:(ρ.set j (.own c g (es.eraseIdx m)))[i]?=some (.own a f ds):=by rw[bE (bB hij)];exact e
 refine⟨a,xs,y',rfl,rfl,by rw[aq hac];exact zu,dI (by rw[hd.length];exact hl) (by decide),KK.nx nb _ _ _ q (uv W2 eI ?_)⟩
 exact af.snoc ((hD.keep (aU.set (.inl k2))).av (bz (fun z=>(cK _ _▸z).2) fun _ z=>z)) ((hd1.keep (aU.set (.inl k2))).av (bz (fun z=>(cK _ _▸z).1) fun _ z=>z))
end
end L2
set_option maxRecDepth 100000
set_option maxHeartbeats 4000000
set_option maxRecDepth 100000
set_option maxHeartbeats 1000000
set_option maxRecDepth 100000
set_option maxHeartbeats 4000000
namespace L2
open PySem PySem.Spec PyProof.Rows
def NL(j6:List Int)(prs:ao):Nat:=(prs.filter fun pr=>decide (pr.1∈j6)).length
def GA(cs:List ao)(j6:List Int):Bool:=cs.all fun prs=>decide (NL j6 prs≠1)
def jM(L:List Int)(ks:Ks):Prop:=∃ms:List Int,ms.Nodup/\(∀c,c∈ms↔c∈L)/\ks=ms.map fun c=>(c,PyData.int (L.count c))
theorem o8{g:Int->PyData}{c:Int}:∀{ms:List Int},gc (ms.map fun c=>(c,g c)) c=if c∈ms then some (g c) else none
  |[]=>rfl
  | m :: ms => by
    rw[bF,oh,o8]
    by_cases h:m=c
    · subst h;simp
    · have h':¬c=m:=fun z=>h z.symm
      simp[h,h']
theorem jM.nil:jM [] []:=⟨[],AI,fun _=>Iff.rfl,rfl⟩
theorem jM.get{L:List Int}{ks:Ks}(h:jM L ks)(c:Int):(gc ks c).getD (.int 0)= .int (L.count c):=by
 obtain⟨ms,nd,hm,rfl⟩:=h
 rw[o8]
 by_cases e:c∈ms
 ·rw[if_pos e];rfl
 ·rw[if_neg e]
  have:L.count c=0:=AB.mpr fun z=>e ((hm c).mpr z)
  rw[this];rfl
theorem jM.put{L:List Int}{ks:Ks}(h:jM L ks)(c:Int):jM (L++[c]) (lG ks c (.int ((L.count c:Int)+1))):=by
 obtain⟨ms,nd,hm,rfl⟩:=h
 have hcc:∀x,(L++[c]).count x=L.count x+if c=x then 1 else 0:=fun x=>by
  rw[List.count_append,BS]
  by_cases e:c=x
  ·subst e;simp
  ·simp[e]
 unfold lG
 have hk:lH (ms.map fun c=>(c,PyData.int (L.count c))) c=decide (c∈ms):=by
  rw[kM,P4,c6,decide_eq_true_eq]
  have:(ms.map ((·.1)∘fun c=>(c,PyData.int (L.count c))))=ms:=List.map_id'' (fun _=>rfl) ms
  rw[this]
 rw[hk]
 by_cases e:c∈ms
 ·rw[if_pos (decide_eq_true e)]
  refine⟨ms,nd,fun x=>?_,?_⟩
  ·rw[iQ,bS,hm x]
   exact⟨.inl,fun z=>z.elim id fun z=>by rw[z];exact(hm c).mp e⟩
  ·rw[c6]
   apply e7
   intro x hx
   show(if x=c then(x,PyData.int ((L.count c:Int)+1)) else(x, .int (L.count x)))=_
   rw[hcc x]
   by_cases z:x=c
   ·subst z;simp
   ·rw[if_neg z,if_neg (fun w=>z w.symm)];rfl
 ·rw[if_neg (by simpa using e)]
  refine⟨ms++[c],?_,fun x=>?_,?_⟩
  ·rw[yQ]
   exact⟨nd,by simp,fun a ha b hb z=>by rw[bS.mp hb] at z;exact e (z▸ha)⟩
  ·rw[iQ,iQ,hm x]
  ·rw[fP]
   congr 1
   ·apply e7
    intro x hx
    rw[hcc x,if_neg (fun w=>by subst w;exact e hx)];rfl
   ·show[(c,PyData.int ((L.count c:Int)+1))]=[(c,PyData.int (((L++[c]).count c:Nat):Int))]
    rw[hcc c,if_pos rfl];rfl
end L2
set_option maxRecDepth 100000
set_option maxHeartbeats 4000000
namespace L2
open PySem PySem.Spec PyProof.Rows
theorem CG{α:Type}{d:α}:∀{ds:List α} {r:Nat},ds[r]?=some d->(d::ds.eraseIdx r).Perm ds
 |x::ds,0,e=>by simp at e;subst e;exact .refl _
 |x::ds,r+1,e=>(List.Perm.swap x d _).trans ((CG (ds:=ds) (r:=r) (by simpa using e)).cons x)
 |[],r,e=>by simp at e
end L2
set_option maxRecDepth 100000
set_option maxHeartbeats 4000000
namespace L2
open PySem PySem.Spec PyProof.Rows
structure HC(cs:List ao)(j6 g:List Int):Prop where
 sub:∃q:Int->Bool,g=j6.filter q
 out:GA cs g=true
 max:∀T:List Int,(∀x∈T,x∈j6)->GA cs T=true->∀x∈T,x∈g
@[reducible] def Us(S:List Int):Ks:=S.map fun x=>(x,PyData.bool true)
end L2
set_option maxRecDepth 100000
set_option maxHeartbeats 4000000
namespace L2
open PySem PySem.Spec PyProof.Rows
theorem HC.mem{cs:List ao}{j6 g:List Int}(h:HC cs j6 g):∀x∈g,x∈j6:=fun x hx=>by
 obtain⟨q,e⟩:=h.sub
 rw[e] at hx
 exact(ki.mp hx).1
end L2
set_option maxRecDepth 100000
set_option maxHeartbeats 4000000
namespace L2
open PySem PySem.Spec PyProof.Rows
def Gf(row:List Int):Int:=match row.getLast? with|none=>0|some l=>l+1
def OM(n:Int)(row:List Int):List Int:=(List.range (n-Gf row).toNat).map fun(i:Nat)=>Gf row+(i:Int)
def ext(n:Int)(row:List Int):List (List Int):=(OM n row).map fun p=>row++[p]
@[reducible] def Va:Option (List Int)->PyData
 |none=> .none
 |some r=>cJ r
end L2
set_option maxRecDepth 100000
set_option maxHeartbeats 4000000
set_option maxRecDepth 100000
set_option maxHeartbeats 4000000
set_option maxRecDepth 100000
set_option maxHeartbeats 4000000
set_option maxRecDepth 100000
set_option maxHeartbeats 4000000
namespace L2
open PySem PySem.Spec PyProof.Rows
def gI(r:List Int)(i:Nat):Int:=r.getD i 0
theorem Ev.inv{G:Gx}{ρ:Rh}{t:TA}{Φ:Pd}(h:Av G ρ t fun es=>∃p b:Int,es.map (·.2)=[.int p, .int b]/\eK p/\p<10^40/\b%p≠0/\∀u:Int,0<=u->u<p->(∃k,u*b=1+p*k)->Φ true (.int u)):
  Ev G ρ (ju A9 [] E0 t) Φ:=fun nb σ H Q W z=>
 h nb σ H _ W fun es vs H1 ⟨p,b,e,h1,h2,h3,q⟩ s1 q1=>by
  have hd:=q1.all (f:=false) (fun z=>by cases z)
  rw[e] at hd
  unfold af at hd
  obtain⟨x,ys,rfl,d1,hd⟩:=hd
  unfold af at hd
  obtain⟨y,zs,rfl,d2,hd⟩:=hd
  unfold af at hd
  subst hd
  rw[d1.bX,d2.bX]
  exact⟨p,b,rfl,h1,h2,h3,fun u u0 u1 u2=>z true _ H1 _ (q u u0 u1 u2) s1 (.int u)⟩
def co(prs:ao)(j:Nat):Int:=(prs.map fun pr=>if pr.1.toNat=j then pr.2 else 0).sum
def iH(p:Int)(m:Nat)(prs:ao):Prop:=(prs.map (·.1)).Nodup/\prs.length<=1000/\∀pr∈prs,0<=pr.1/\pr.1<m/\1<=pr.2/\pr.2<p
end L2
set_option maxRecDepth 100000
set_option maxHeartbeats 4000000
namespace L2
open PySem PySem.Spec PyProof.Rows
def mh(a:Addr)(o:Obj)(ps:List (Key×V)):It:=
 ⟨fun i H=>H a=some (.bL o (.dK ps))/\i<ps.length,fun i H x H'=>H'=H/\∃p,ps[i]?=some p/\x=kV p.1,fun i H=>H a=some (.bL o (.dK ps))/\ps.length=i⟩
theorem Kn{P:Program}{w:World}{k:Key}{v:Value}(h:(dG P w).is k v=true):RelV (kV k) v:=by
 cases k with
 |inl i=>obtain⟨t,rfl⟩:=qt (k:=i) (v:=v) h;exact⟨t,rfl⟩
 |inr x=>obtain⟨t,rfl⟩:=Value.isStrOf_shape (v:=v) h;exact⟨t,rfl⟩
theorem R7{P:Program}{w:World}{K:PySem.W.Frag}{tg:Expr}(a it:Addr)(hne:a≠it){o:Obj}{ps:List (Key×V)}{vs:List (Key×Value)}{ep:Nat}(rel:KV ps vs)
  (hD:∀h:Heap,h.get? a=some o->h.DictAt (dG P w) a vs ep):Turn P w K tg (mh a o ps) [it] it (fun i h=>h.IsKeyIter it a i vs.length ep) where
 mem:=by simp
 obj:=fun i h st b hb=>by
  have e:b=it:=by simpa using hb
  subst e
  obtain⟨o,e,c,d⟩:=st
  exact⟨o,e,fun v z=>by rw[d] at z;cases z⟩
 keep:=fun i h h' st k=>st.at fun o e=>k it (by simp) o e
 item:=by
  intro X hP hw hK hc i pins s σ H E I hf st hg
  subst hP hw hK
  obtain⟨hq,hi⟩:=hg
  obtain⟨ho,_⟩:=(show bq X.prog X.w H s.heap a (.bL o (.dK ps)) from I.hok a _ hq)
  have W:=Walks.dictKeys (knd:=dG X.prog X.w) (A:=X.A) (I.ok.hd hc) it a hne vs ep
  obtain⟨f0,f1,f2,f3,f4,f5⟩:=hf it (by simp)
  refine W.item i s _ _ (by rw[<-rel.length];exact hi) ⟨st,hD _ ho⟩ fun v h' tk hv st' kp=>?_
  obtain⟨k,x,hk,hkv⟩:=hv
  have I1:Inv X pins σ H {s with heap:=h',toks:=tk}:=I.turned (t':=tk) (fun b o hb e=>kp b o (by simpa using hb) e) f0 f1 f3 f4 f5
  obtain⟨oi,e,c,d⟩:=id st'.1
  have hpk:∃p,ps[i]?=some p/\kV k=kV p.1:=by
   have h1:(ps.map (·.1))[i]?=(vs.map (·.1))[i]?:=by rw[rel.keys]
   rw[aI,aI,hk,aB hi] at h1
   exact⟨_,aB hi,congrArg kV (fR h1).symm⟩
  exact⟨v,rfl,zG (s:={s with heap:=h',toks:=tk}) e c d (by decide) ⟨kV k,H,I1,Kn hkv,⟨rfl,hpk⟩,st'.1,fun b hb=>(hf b hb).1⟩⟩
 done:=by
  intro X hP hw hK hc i pins s σ H E I hf st hg
  subst hP hw hK
  obtain⟨hq,hi⟩:=hg
  obtain⟨ho,_⟩:=(show bq X.prog X.w H s.heap a (.bL o (.dK ps)) from I.hok a _ hq)
  have W:=Walks.dictKeys (knd:=dG X.prog X.w) (A:=X.A) (I.ok.hd hc) it a hne vs ep
  obtain⟨f0,f1,f2,f3,f4,f5⟩:=hf it (by simp)
  have hl:=rel.length
  refine W.done s _ _ ⟨by rw[<-hl,hi];rw[<-hl,hi] at st;exact st,hD _ ho⟩ fun h' tk kp=>⟨rfl,?_⟩
  exact I.turned (t':=tk) (fun b o hb e=>kp b o (by simpa using hb) e) f0 f1 f3 f4 f5
 self:=fun _ _ _ _ _ st h=>wpAny_pyIter_keyiter st h
def tH(X:Cx)(a:Addr):Prop:=∀o u,X.H₀ a≠some (.bL o u)
section
variable{X:Cx}{pins:List (Addr×Obj)}{σ:List (Option V)}{H:Hp}{s:Shared}
theorem Inv.freeze{a:Addr}{ps:List (Key×V)}{o:Obj}(I:Inv X pins σ H s)(h:H a=some (.dK ps))(ho:s.heap.get? a=some o):Inv X pins σ (upd H a (.bL o (.dK ps))) s:=by
 have ne:∀b u,H b=some u->(∀z,u≠ .dK z)->b≠a:=fun b u q z e=>by subst e;rw[h] at q;cases q;exact z _ rfl
 have nn:∀b,H b=none->b≠a:=fun b q e=>by subst e;rw[h] at q;cases q
 refine I.step (h':=s.heap) (g':=s.gens) (d':=s.drawn) (t':=s.toks) (ch:=[]) (fun _ z=>nomatch z) (fun b o _ _ _ e _=>e) (fun b o _ _ _ e _=>⟨o.slots,e⟩) (fun b o _ e n=>by rw[aq (nn b n)];exact n) (fun b o _ e=>⟨o,e⟩)
  (fun b xs q=>by rw[aq (ne b _ q (fun z=>nofun))];exact q) (fun b o u q=>by rw[aq (ne b _ q (fun z=>nofun))];exact q) (fun b p q=>⟨#[],by rw[aq (ne b _ q (fun z=>nofun)),q];simp⟩) (fun m hm=>hm) (fun b u q=>?_) I.bare
 by_cases hb:b=a
 ·subst hb
  rw[aV] at q;cases q
  refine⟨ho,(I.hok b _ h).stay (fun c v hc z=>z) (fun c z=>?_) fun c xs z=>?_⟩
  ·rw[aq (ne c _ z (fun z=>nofun))];exact z
  ·rw[aq (ne c _ z (fun z=>nofun))];exact z
 ·rw[aq hb] at q
  refine(I.hok b u q).stay (fun c v hc z=>z) (fun c z=>?_) fun c xs z=>?_
  ·rw[aq (ne c _ z (fun z=>nofun))];exact z
  ·rw[aq (ne c _ z (fun z=>nofun))];exact z
theorem Inv.lq{a:Addr}{ps:List (Key×V)}{o:Obj}(I:Inv X pins σ H s)(h:H a=some (.bL o (.dK ps)))(nf:tH X a):Inv X pins σ (upd H a (.dK ps)) s:=by
 have ne:∀b u,H b=some u->(∀z z',u≠ .bL z z')->b≠a:=fun b u q z e=>by subst e;rw[h] at q;cases q;exact z _ _ rfl
 have nn:∀b,H b=none->b≠a:=fun b q e=>by subst e;rw[h] at q;cases q
 refine⟨I.ok,I.os,I.bare,⟨I.base.keep,I.base.slot,fun b o q n hx=>?_,I.base.there,fun b xs q=>?_,fun b o u q=>?_,fun b p q=>?_⟩,I.loc,I.cell,?_,fun x c e=>?_,fun p hp=>?_,fun b u q=>?_,I.len⟩
 ·have z:=I.base.free b o q n hx
  rw[aq (nn b z)];exact z
 ·have z:=I.base.tups b xs q
  rw[aq (ne b _ z (fun _ z=>nofun))];exact z
 ·have z:=I.base.jl b o u q
  have:b≠a:=fun e=>by subst e;exact nf _ _ q
  rw[aq this];exact z
 ·obtain⟨m,z⟩:=I.base.jZ b p q
  exact⟨m,by rw[aq (ne b _ z (fun _ z=>nofun))];exact z⟩
 ·rw[aq (nn _ I.free)];exact I.free
 ·rw[aq (nn _ (I.iJ x c e))];exact I.iJ x c e
 ·obtain⟨z1,z2,z3⟩:=I.pin p hp
  exact⟨z1,by rw[aq (nn _ z2)];exact z2,z3⟩
 ·by_cases hb:b=a
  ·subst hb
   rw[aV] at q;cases q
   have w:=(show bq X.prog X.w H s.heap b (.dK ps) from(Rd.ok (.inr ⟨o,h⟩) I.hok))
   refine w.stay (fun c v hc z=>z) (fun c z=>?_) fun c xs z=>?_
   ·rw[aq (ne c _ z (fun _ z=>nofun))];exact z
   ·rw[aq (ne c _ z (fun _ z=>nofun))];exact z
  ·rw[aq hb] at q
   refine(I.hok b u q).stay (fun c v hc z=>z) (fun c z=>?_) fun c xs z=>?_
   ·rw[aq (ne c _ z (fun _ z=>nofun))];exact z
   ·rw[aq (ne c _ z (fun _ z=>nofun))];exact z
end
def jI(NF:Addr->Prop)(Q:Hp->Prop)(H:Hp):Prop:=Q H\/∃a o ps,H a=some (.bL o (.dK ps))/\NF a/\Q (upd H a (.dK ps))
def Lm(NF:Addr->Prop)(D:Ends):Ends:={nx:=fun σ=>jI NF (D.nx σ),rt:=fun v=>jI NF (D.rt v),bk:=fun σ=>jI NF (D.bk σ),ct:=fun σ=>jI NF (D.ct σ)}
def G3(NF:Addr->Prop)(ts:TS):TS:=fun D σ H=>ts (Lm NF D) σ H
section
variable{X:Cx}
theorem jI.inv{pins:List (Addr×Obj)}{σ:St}{H:Hp}{s:Shared}{Q:Hp->Prop}(I:Inv X pins σ H s)(h:jI (tH X) Q H):∃H',Inv X pins σ H' s/\Q H':=by
 rcases h with h|⟨a,o,ps,e,nf,q⟩
 ·exact⟨H,I,h⟩
 ·exact⟨_,I.lq e nf,q⟩
theorem Oc{st:Stmt}{ts:TS}(h:PS X st ts):PS X st (G3 (tH X) ts):=by
 intro pins s σ H D I q
 refine aP (h pins s σ H _ I q) fun f s7 q7=>?_
 cases f with
 |next=>obtain⟨fu,H7,I7,n7⟩:=q7;obtain⟨H8,I8,q8⟩:=jI.inv I7 n7;exact⟨fu,H8,I8,q8⟩
 |cont=>obtain⟨fu,H7,I7,n7⟩:=q7;obtain⟨H8,I8,q8⟩:=jI.inv I7 n7;exact⟨fu,H8,I8,q8⟩
 |brk=>obtain⟨fu,H7,I7,n7⟩:=q7;obtain⟨H8,I8,q8⟩:=jI.inv I7 n7;exact⟨fu,H8,I8,q8⟩
 |ret v=>obtain⟨x7,fu,H7,I7,r7,n7⟩:=q7;obtain⟨H8,I8,q8⟩:=jI.inv I7 n7;exact⟨x7,fu,H8,I8,r7,q8⟩
def DV(NF:Addr->Prop)(tl:TE):TI:=fun σ H R=>tl σ H fun x H1=>∃a ps,x= .ref a/\((H1 a=some (.dK ps)/\∀o,NF a->R (mh a o ps) (upd H1 a (.bL o (.dK ps))))\/∃o,H1 a=some (.bL o (.dK ps))/\R (mh a o ps) H1)
theorem Jl{tg l:Expr}{tl:TE}(hl:PE X l tl):PI X tg l (DV (tH X) tl):=by
 intro pins s σ H R I h
 refine aP (hl pins s σ H _ I h) fun v s1 ⟨x,H1,I1,r1,q1⟩=>?_
 obtain⟨a,ps,e,q⟩:=q1
 subst e
 cases r1
 have key:∃o H2,s1.heap.get? a=some o/\H2 a=some (.bL o (.dK ps))/\Inv X pins σ H2 s1/\R (mh a o ps) H2:=by
  rcases q with ⟨h1,q⟩|⟨o,h1,q⟩
  ·obtain⟨z,hd,vs,rel,o,es,ep,ho,r⟩:=Hq I1.hok h1
   refine⟨o,_,ho,aV,I1.freeze h1 ho,q o fun o' u' z=>?_⟩
   rw[I1.base.jl _ _ _ z] at h1;cases h1
  ·obtain⟨ho,_⟩:=(show bq X.prog X.w H1 s1.heap a (.bL o (.dK ps)) from I1.hok a _ h1)
   exact⟨o,H1,ho,h1,I1,q⟩
 obtain⟨o,H2,ho,h2,I2,q⟩:=key
 obtain⟨z,hd,vs,rel,dd⟩:=om I2.hok (.inr ⟨o,h2⟩)
 obtain⟨ep,hat⟩:=dd.dictAt
 refine wpAny_pyIter_dict hd hat ?_
 refine⟨s1.heap.objs.size,[s1.heap.objs.size],_,_,H2,rfl,I2.kept (t':=s1.toks) fun b o e=>bw _ e,R7 a _ (bK (aW ho)) rel (fun h hh=>hat.at' fun o' e=>by rw[ho] at e;cases e;exact hh),⟨_,eF _ rfl,rfl,rfl⟩,fun b hb=>?_,q⟩
 have e:b=s1.heap.objs.size:=by simpa using hb
 subst e
 exact I2.oF (aK _) (I2.hok.fresh (aK _))
end
structure Mv(H H':Hp):Prop where
 lst:∀b xs,H b=some (.lst xs)->H' b=some (.lst xs)
 tup:∀b xs,H b=some (.tup xs)->H' b=some (.tup xs)
 bI:∀b ps,Rd H b (.dK ps)->Rd H' b (.dK ps)
mutual
theorem ai.mv{S:Addr->Prop}{H H':Hp}(m:Mv H H'):∀{d:PyData} {v:V},ai S H d v->ai S H' d v
 | .none,_,h=>by unfold ai at h⊢;exact h
 | .bool _,_,h=>by unfold ai at h⊢;exact h
 | .int _,_,h=>by unfold ai at h⊢;exact h
 | .str _,_,h=>by unfold ai at h⊢;exact h
 | .list ds,_,h=>by unfold ai at h⊢;obtain⟨a,xs,e,n,s,r⟩:=h;exact⟨a,xs,e,n,m.lst _ _ s,af.mv m r⟩
 | .tuple ds,_,h=>by unfold ai at h⊢;obtain⟨a,xs,e,n,s,r⟩:=h;exact⟨a,xs,e,n,m.tup _ _ s,af.mv m r⟩
 | .dict kvs,_,h=>by unfold ai at h⊢;obtain⟨a,xs,e,n,s,r⟩:=h;exact⟨a,xs,e,n,m.bI _ _ s,ay.mv m r⟩
theorem af.mv{S:Addr->Prop}{H H':Hp}(m:Mv H H'):∀{ds:List PyData} {vs:List V},af S H ds vs->af S H' ds vs
 |[],_,h=>by unfold af at h⊢;exact h
 |d::ds,_,h=>by unfold af at h⊢;obtain⟨y,ys,e,h1,h2⟩:=h;exact⟨y,ys,e,ai.mv m h1,af.mv m h2⟩
theorem ay.mv{S:Addr->Prop}{H H':Hp}(m:Mv H H'):∀{ds:List (PyData×PyData)} {vs:List (Key×V)},ay S H ds vs->ay S H' ds vs
 |[],_,h=>by unfold ay at h⊢;exact h
 |d::ds,_,h=>by unfold ay at h⊢;obtain⟨y,ys,e,h1,h2⟩:=h;exact⟨y,ys,e,cG.mv m h1,ay.mv m h2⟩
theorem cG.mv{S:Addr->Prop}{H H':Hp}(m:Mv H H'):∀{d:PyData×PyData} {v:Key×V},cG S H d v->cG S H' d v
 |(k,d),_,h=>by unfold cG at h⊢;exact⟨h.1,ai.mv m h.2⟩
end
theorem Mv.bL{H:Hp}{a:Addr}{o:Obj}{ps:List (Key×V)}(h:H a=some (.dK ps)):Mv H (upd H a (.bL o (.dK ps))) where
 lst:=fun b xs q=>by rw[aq (fun e=>by subst e;rw[h] at q;cases q)];exact q
 tup:=fun b xs q=>by rw[aq (fun e=>by subst e;rw[h] at q;cases q)];exact q
 bI:=fun b qs q=>by
  by_cases e:b=a
  ·subst e
   rcases q with q|⟨u,q⟩
   ·rw[h] at q;cases q;exact .inr ⟨o,aV⟩
   ·rw[h] at q;cases q
  ·rcases q with q|⟨u,q⟩
   ·exact .inl (by rw[aq e];exact q)
   ·exact .inr ⟨u,by rw[aq e];exact q⟩
theorem Mv.lq{H:Hp}{a:Addr}{o:Obj}{ps:List (Key×V)}(h:H a=some (.bL o (.dK ps))):Mv H (upd H a (.dK ps)) where
 lst:=fun b xs q=>by rw[aq (fun e=>by subst e;rw[h] at q;cases q)];exact q
 tup:=fun b xs q=>by rw[aq (fun e=>by subst e;rw[h] at q;cases q)];exact q
 bI:=fun b qs q=>by
  by_cases e:b=a
  ·subst e
   rcases q with q|⟨u,q⟩
   ·rw[h] at q;cases q
   ·rw[h] at q;cases q;exact .inl aV
  ·rcases q with q|⟨u,q⟩
   ·exact .inl (by rw[aq e];exact q)
   ·exact .inr ⟨u,by rw[aq e];exact q⟩
def iX(a:Addr)(u:HO)(H:Hp):Hp:=fun b=>if b=a/\H a≠none then some u else H b
theorem nU{a b:Addr}{u:HO}{H:Hp}:iX a u H b=none↔H b=none:=by
 unfold iX
 by_cases c:b=a/\H a≠none
 ·rw[if_pos c]
  constructor
  ·intro z;cases z
  ·intro z;rw[c.1] at z;exact absurd z c.2
 ·rw[if_neg c]
theorem rW{a b:Addr}{u:HO}{H:Hp}(h:b≠a):iX a u H b=H b:=by
 unfold iX;rw[if_neg (fun z=>h z.1)]
abbrev Gx.fz(G:Gx)(a:Addr)(o:Obj)(ps:List (Key×V)):Gx:={G with H0:=iX a (.bL o (.dK ps)) G.H0,hold:=(false, .fz o ps, .ref a)::G.hold}
section
variable{G:Gx}{ρ cV:Rh}{Φ Ψ:Pd}{ta tb te:TE}{t:TA}{i:Nat}{f g:Bool}{d e:PyData}{ds es:List PyData}{K:PySem.W.Frag}{nb:Addr->Prop}{σ:St}{H:Hp}{a:Addr}{o:Obj}{ps:List (Key×V)}
theorem Gx.sH{b:Addr}:(G.fz a o ps).S nb f b↔G.S nb f b:=by
 unfold Gx.S
 constructor
 ·rintro(z|z|z|⟨z,q⟩)
  ·exact .inl z
  ·exact .inr (.inl z)
  ·exact .inr (.inr (.inl z))
  ·exact .inr (.inr (.inr ⟨z,fun w=>q (nU.mpr w)⟩))
 ·rintro(z|z|z|⟨z,q⟩)
  ·exact .inl z
  ·exact .inr (.inl z)
  ·exact .inr (.inr (.inl z))
  ·exact .inr (.inr (.inr ⟨z,fun w=>q (nU.mp w)⟩))
theorem cU.mv{H H':Hp}{b l:Addr}(h:cU H b l)(k:∀c xs,H c=some (.lst xs)->H' c=some (.lst xs)):cU H' b l:=by
 obtain⟨ns,x1,x2,x3,x4,h1,h2,h3⟩:=h
 exact⟨ns,x1,x2,x3,x4,k _ _ h1,k _ _ h2,h3⟩
theorem Wd.freeze(W:Wd G nb ρ σ H)(h:H a=some (.dK ps))(hS:¬G.S nb false a)(hT:∀f c v,(f,HD.th c,v)∈G.hold->a∉c.F):Wd (G.fz a o ps) nb ρ σ (upd H a (.bL o (.dK ps))):=by
  have mv:=Mv.bL (o:=o) h
  have hN:NB G.B a:=iI fun z=>hS (.inr (.inr (.inl z)))
  have hnb:¬nb a:=fun z=>hS (.inl z)
  have hG:∀u,G.H0 a=some u->u= .dK ps:=fun u e=>by have:=W.old a u hN e;rw[h] at this;exact(fR this).symm
  have toS:∀f b,(G.fz a o ps).S nb f b->G.S nb f b:=fun f b z=>Gx.sH.mp z
  refine⟨fun b l e=>(W.az b l e).mv mv.lst,fun b n=>?_,fun b u n e=>?_,fun b n q=>nU.mpr (W.cM b n q),fun b n e=>W.gA b n (nU.mp e),W.len,fun b l e=>(W.gB b l e).mv fun c xs q=>?_,fun x m=>?_,fun i s e=>?_,W.apart,W.eg,W.cP⟩
  · by_cases hb:b=a
    · subst hb;exact absurd n hnb
    · rw[aq hb];exact W.live b n
  · by_cases hb:b=a
    · subst hb
      rw[aV]
      change iX b _ G.H0 b=some u at e
      unfold iX at e
      by_cases c:b=b/\G.H0 b≠none
      · rw[if_pos c] at e;exact e
      · rw[if_neg c] at e;exact absurd ⟨rfl,by rw[e];exact jm _⟩ c
    · rw[aq hb]
      change iX a _ G.H0 b=some u at e
      rw[rW hb] at e
      exact W.old b u n e
  · have hc:c≠a:=fun z=>by subst z;have:=hG _ q;cases this
    show iX a _ G.H0 c=_
    rw[rW hc];exact q
  · rcases aH.mp m with e|m
    · subst e
      exact⟨a,rfl,fun z=>hS (toS _ _ z),aV⟩
    · have w:=W.dW x m
      obtain⟨f,x,v⟩:=x
      cases x with
      |d x=>exact(ai.mv mv w).av (toS f)
      | fz u qs =>
        obtain⟨c,e1,e2,e3⟩:=w
        by_cases hc:c=a
        · subst hc
          rw[h] at e3;cases e3
        · exact⟨c,e1,fun z=>e2 (toS _ _ z),by rw[aq hc];exact e3⟩
      | th c =>
        have hc:=hT f c v m
        obtain⟨e,n,q⟩:=w
        exact⟨e,fun b hb=>⟨fun z=>(n b hb).1 (toS _ _ z),by rw[aq (fun z=>by subst z;exact hc hb)];exact(n b hb).2⟩,c.av (toS f) (c.keep ⟨fun b hb o e=>by rw[aq (fun z=>by subst z;exact hc hb)];exact e,fun b xs _=>mv.lst b xs,fun b xs _=>mv.tup b xs,fun b qs _=>mv.bI b qs⟩ q)⟩
  · obtain⟨x,e1,w⟩:=W.ok i s e
    refine⟨x,e1,?_⟩
    cases s with
    |no=>trivial
    |d f d=>obtain⟨v,e,w⟩:=w;exact⟨v,e,(ai.mv mv w).av (toS f)⟩
    |own c f es=>obtain⟨e,n,q,xs,hx,hd⟩:=w;exact⟨e,n,q,xs,mv.lst _ _ hx,(af.mv mv hd).av (toS f)⟩
    |az=>exact w
    |raw v=>exact w
    | bI c f es =>
      obtain⟨e,n,q,xs,hx,hd⟩:=w
      exact⟨e,n,q,xs,by rw[aq (fun z=>by subst z;exact hnb n)];exact hx,(ay.mv mv hd).av (toS f)⟩
    | cu c =>
      obtain⟨e,n,q⟩:=w
      exact⟨e,n,c.av (toS c.f) (c.keep ⟨fun b hb o e=>by rw[aq (fun z=>by subst z;exact hnb (n _ hb).1)];exact e,fun b xs _=>mv.lst b xs,fun b xs _=>mv.tup b xs,fun b qs _=>mv.bI b qs⟩ q)⟩
theorem Wd.lq(W:Wd (G.fz a o ps) nb ρ σ H)(hG:∀u,G.H0 a=some u->u= .dK ps)(hF:∀f o' qs v,(f,HD.fz o' qs,v)∈G.hold->v≠ .ref a)(hT:∀f c v,(f,HD.th c,v)∈G.hold->a∉c.F):Wd G nb ρ σ (upd H a (.dK ps))/\H a=some (.bL o (.dK ps)):=by
  obtain⟨a',ea,hS',h⟩:=(show fW ((G.fz a o ps).S nb false) H (.fz o ps) (.ref a) from W.dW _ (bG ..))
  cases ea
  have mv:=Mv.lq h
  have toS:∀f b,G.S nb f b->(G.fz a o ps).S nb f b:=fun f b z=>Gx.sH.mpr z
  have hS:¬G.S nb false a:=fun z=>hS' (toS _ _ z)
  have hN:NB G.B a:=iI fun z=>hS (.inr (.inr (.inl z)))
  have hnb:¬nb a:=fun z=>hS (.inl z)
  refine⟨⟨fun b l e=>(W.az b l e).mv mv.lst,fun b n=>?_,fun b u n e=>?_,fun b n q=>nU.mp (W.cM b n q),fun b n e=>W.gA b n (nU.mpr e),W.len,fun b l e=>(W.gB b l e).mv fun c xs q=>?_,fun x m=>?_,fun i s e=>?_,W.apart,W.eg,W.cP⟩,h⟩
  · by_cases hb:b=a
    · subst hb;exact absurd n hnb
    · rw[aq hb];exact W.live b n
  · by_cases hb:b=a
    · subst hb
      rw[aV,hG u e]
    · rw[aq hb]
      exact W.old b u n (by show iX a _ G.H0 b=_;rw[rW hb];exact e)
  · change iX a _ G.H0 c=_ at q
    by_cases hc:c=a
    · subst hc
      unfold iX at q
      by_cases z:c=c/\G.H0 c≠none
      · rw[if_pos z] at q;cases q
      · rw[if_neg z] at q;exact q
    · rw[rW hc] at q;exact q
  · have w:=W.dW x (cA _ m)
    obtain⟨f,x,v⟩:=x
    cases x with
    |d x=>exact(ai.mv mv w).av (toS f)
    | fz u qs =>
      obtain⟨c,e1,e2,e3⟩:=w
      subst e1
      have hc:c≠a:=fun z=>hF f u qs _ m (by rw[z])
      exact⟨c,rfl,fun z=>e2 (toS _ _ z),by rw[aq hc];exact e3⟩
    | th c =>
      have hc:=hT f c v m
      obtain⟨e,n,q⟩:=w
      exact⟨e,fun b hb=>⟨fun z=>(n b hb).1 (toS _ _ z),by rw[aq (fun z=>by subst z;exact hc hb)];exact(n b hb).2⟩,c.av (toS f) (c.keep ⟨fun b hb o e=>by rw[aq (fun z=>by subst z;exact hc hb)];exact e,fun b xs _=>mv.lst b xs,fun b xs _=>mv.tup b xs,fun b qs _=>mv.bI b qs⟩ q)⟩
  · obtain⟨x,e1,w⟩:=W.ok i s e
    refine⟨x,e1,?_⟩
    cases s with
    |no=>trivial
    |d f d=>obtain⟨v,e,w⟩:=w;exact⟨v,e,(ai.mv mv w).av (toS f)⟩
    |own c f es=>obtain⟨e,n,q,xs,hx,hd⟩:=w;exact⟨e,n,q,xs,mv.lst _ _ hx,(af.mv mv hd).av (toS f)⟩
    |az=>exact w
    |raw v=>exact w
    | bI c f es =>
      obtain⟨e,n,q,xs,hx,hd⟩:=w
      exact⟨e,n,q,xs,by rw[aq (fun z=>by subst z;exact hnb n)];exact hx,(ay.mv mv hd).av (toS f)⟩
    | cu c =>
      obtain⟨e,n,q⟩:=w
      exact⟨e,n,c.av (toS c.f) (c.keep ⟨fun b hb o e=>by rw[aq (fun z=>by subst z;exact hnb (n _ hb).1)];exact e,fun b xs _=>mv.lst b xs,fun b xs _=>mv.tup b xs,fun b qs _=>mv.bI b qs⟩ q)⟩
abbrev Gx.hz(G:Gx)(a:Addr)(o:Obj)(ps:List (Key×V)):Gx:={G with hold:=(false, .fz o ps, .ref a)::G.hold}
theorem Wd.hz(W:Wd G nb ρ σ H)(hS:¬G.S nb false a)(h:H a=some (.bL o (.dK ps))):Wd (G.hz a o ps) nb ρ σ H:=
 ⟨W.az,W.live,W.old,W.cM,W.gA,W.len,W.gB,fun x m=>by
  rcases aH.mp m with e|m
  ·subst e;exact⟨a,rfl,hS,h⟩
  ·exact W.dW x m,fun i s e=>by
   obtain⟨x,e1,h⟩:=W.ok i s e
   refine⟨x,e1,?_⟩
   cases s<;>exact h,W.apart,W.eg,W.cP⟩
theorem Wd.vA(W:Wd (G.hz a o ps) nb ρ σ H):Wd G nb ρ σ H/\H a=some (.bL o (.dK ps)):=by
 refine⟨⟨W.az,W.live,W.old,W.cM,W.gA,W.len,W.gB,fun x m=>W.dW x (cA _ m),fun i s e=>by
   obtain⟨x,e1,h⟩:=W.ok i s e
   refine⟨x,e1,?_⟩
   cases s<;>exact h,W.apart,W.eg,W.cP⟩,?_⟩
 obtain⟨a',ea,_,h⟩:=(show fW ((G.hz a o ps).S nb false) H (.fz o ps) (.ref a) from W.dW _ (bG ..))
 cases ea
 exact h
theorem E6{G':Gx}{ks:Ks}{D:Ends}{E:DE}{gt:TG}{s:TS}{dd:PyData}(W3:Wd (G'.hd f dd (.ref a)) nb ρ σ H)(hl:ps.map (·.1)=(ks.map (·.1)).map Sum.inl)
  (hz:∀{nb ρ σ H},Wd G' nb ρ σ H->H a=some (.bL o (.dK ps))) (KK:uu G' {E with bk:=fun _=>False,ct:=fun _=>False} D)
  (q:Sv.oz (G'.hd f dd (.ref a)) ρ ks.length (fun i d=>∃p,ks[i]?=some p/\d= .int p.1) true gt s E):
  ∃W:Nat->Nat->St->Hp->Prop,(∃m,W 0 m σ H)/\∀i m σ H,W i m σ H->
   ((mh a o ps).stop i H/\D.nx σ H)\/((mh a o ps).go i H/\∃N:St->Hp->Prop,(∀σ' H',N σ' H'->∃m',m'<m/\W (i+1) m' σ' H')/\∀x H',(mh a o ps).kL i H x H'->gt x σ H' fun σ2 H2=>s {D with nx:=N,ct:=N,bk:=D.nx} σ2 H2):=by
 obtain⟨I,h0,ht,he⟩:=q
 have hlen:ps.length=ks.length:=by have:=congrArg List.length hl;simpa using this
 refine⟨fun i m σ H=>m=ks.length-i/\i<=ks.length/\∃nb ρ',I i ρ'/\Wd (G'.hd f dd (.ref a)) nb ρ' σ H,⟨ks.length,by simp,fF _,nb,ρ,h0,W3⟩,?_⟩
 rintro i m σ H ⟨rfl,hi,nb,ρ',hI,W⟩
 have Bw:=hz W.gy.1
 by_cases hlt:i<ks.length
 ·refine .inr ⟨⟨Bw,by omega⟩,fun σ H=>∃nb ρ',I (i+1) ρ'/\Wd (G'.hd f dd (.ref a)) nb ρ' σ H,fun σ' H' q=>⟨ks.length-(i+1),by omega,rfl,hlt,q⟩,fun x H' y=>?_⟩
  obtain⟨e1,p,ID,e2⟩:=y
  subst e1 e2
  have hk:p.1=Sum.inl ks[i].1:=by
   have h1:(ps.map (·.1))[i]?=((ks.map (·.1)).map Sum.inl)[i]?:=by rw[hl]
   rw[aI,aI,aI,ID,aB hlt] at h1
   exact fR h1
  rw[hk]
  refine ht i _ ρ' ⟨_,aB hlt,rfl⟩ hI nb σ _ _ _ W (.int _) fun σ2 fK q W2=>q nb σ2 _ _ W2 ?_
  exact⟨fun nb ρ σ H q W=>⟨nb,ρ,q,W⟩,fun nb ρ σ H q W=>KK.nx nb ρ σ H q W.gy.1,fun nb ρ σ H q W=>⟨nb,ρ,q,W⟩,fun nb ρ σ f v H d q W hv=>KK.rt nb ρ σ f v H d q W.gy.1 hv,fun nb ρ σ v H q W=>KK.rw nb ρ σ v H q W.gy.1⟩
 ·have e:i=ks.length:=by omega
  subst e
  exact .inl ⟨⟨Bw,hlen⟩,KK.nx nb ρ' σ H (he ρ' hI) W.gy.1⟩
theorem Sv.M7{NF:Addr->Prop}{E:DE}{gt:TG}{s:TS}(h:Ev G ρ te fun f x=>∃ks:Ks,x= .dict (ks.map cE)/\∀G' v,oz (Gx.hd G' f x v) ρ ks.length (fun i d=>∃p,ks[i]?=some p/\d= .int p.1) true gt s {E with rw:=fun _ _ _ _=>False})(hnt:∀f c v,(f,HD.th c,v)∉G.hold:=by intro _ _ _ z;first|exact nomatch z|(simp at z;done)):
  Sv G ρ (G3 NF (mT (DV NF te) gt s)) E:=fun nb σ H D W KK=>
 h nb σ H _ W fun f v H1 x ⟨ks,ex,q⟩ s1 hv=>by
  subst ex
  have W1:=W.step s1
  have hv0:=hv
  unfold ai at hv
  obtain⟨a,ps,rfl,n,hp,hd⟩:=hv
  have hkeys:=ay.keys hd
  have hS:¬G.S nb false a:=fun z=>n (bz (fun w=>by cases w) (fun _ w=>w) a z)
  have hN:NB G.B a:=iI fun z=>hS (.inr (.inr (.inl z)))
  refine⟨a,ps,rfl,?_⟩
  rcases hp with hp|⟨o,hp⟩
  ·refine .inl ⟨hp,fun o nf=>?_⟩
   have hG:∀u,G.H0 a=some u->u= .dK ps:=fun u e=>by have:=W1.old a u hN e;rw[hp] at this;exact(fR this).symm
   have hF:∀f o' qs v,(f,HD.fz o' qs,v)∈G.hold->v≠ .ref a:=fun f o' qs v m e=>by
    obtain⟨c,e1,_,e3⟩:=(show fW (G.S nb f) H1 (.fz o' qs) v from W1.dW _ m)
    rw[e1] at e;cases e
    rw[hp] at e3;cases e3
   have W2:=W1.freeze (o:=o) hp hS fun f c v m=>absurd m (hnt f c v)
   have mv:=Mv.bL (o:=o) hp
   have W3:=W2.hd (f:=f) (d:= .dict (ks.map cE)) (v:= .ref a) ((ai.mv mv hv0).av fun b z=>Gx.sH.mp z)
   refine E6 (E:={E with rw:=fun _ _ _ _=>False}) W3 hkeys (fun W=>(W.lq hG hF fun f c v m=>absurd m (hnt f c v)).2) ⟨fun nb ρ σ H q W=>?_,fun _ _ _ _ q _=>q.elim,fun _ _ _ _ q _=>q.elim,fun nb ρ σ f v H d q W hv=>?_,fun _ _ _ _ _ q _=>q.elim⟩ (q _ _)
   ·obtain⟨W',hz⟩:=W.lq hG hF fun f c v m=>absurd m (hnt f c v)
    exact .inr ⟨a,o,ps,hz,nf,KK.nx nb ρ σ _ q W'⟩
   ·obtain⟨W',hz⟩:=W.lq hG hF fun f c v m=>absurd m (hnt f c v)
    exact .inr ⟨a,o,ps,hz,nf,KK.rt nb ρ σ f v _ d q W' ((ai.mv (Mv.lq hz) hv).av fun b z=>Gx.sH.mpr z)⟩
  ·refine .inr ⟨o,hp,?_⟩
   have W2:=W1.hz hS hp
   have W3:=W2.hd (f:=f) (d:= .dict (ks.map cE)) (v:= .ref a) hv0
   refine E6 (E:={E with rw:=fun _ _ _ _=>False}) W3 hkeys (fun W=>W.vA.2) ⟨fun nb ρ σ H q W=> .inl (KK.nx nb ρ σ H q W.vA.1),fun _ _ _ _ q _=>q.elim,fun _ _ _ _ q _=>q.elim,fun nb ρ σ f v H d q W hv=> .inl (KK.rt nb ρ σ f v H d q W.vA.1 hv),fun _ _ _ _ _ q _=>q.elim⟩ (q _ _)
end
end L2
set_option maxRecDepth 100000
set_option maxHeartbeats 4000000
set_option maxRecDepth 100000
set_option maxHeartbeats 4000000
set_option maxRecDepth 100000
set_option maxHeartbeats 4000000
namespace L2
open PySem PySem.Spec PyProof.Rows
theorem nA{P:(Addr->Prop)->Prop}{H:Hp}(hP:∀{S S':Addr->Prop},(∀a,S' a->S a)->P S->P S')(hf:∀{S:Addr->Prop} {p:Addr},H p=none->P S->P fun a=>S a\/a=p):∀{L:List Addr} {S:Addr->Prop},(∀a∈L,H a=none)->P S->P fun a=>S a\/a∈L
 |[],S,_,h=>hP (fun a z=>z.elim (fun z=>z) fun z=>by cases z) h
 | p :: L, S, hL, h => hP (fun a z => by
   rcases z with z|z
   ·exact .inl (.inl z)
   ·rcases aH.mp z with z|z
    ·exact .inr z
    ·exact .inl (.inr z)) (hf (hL p (bG ..)) (nA hP hf (L:=L) (fun a m=>hL a (cA _ m)) h))
section
variable{G:Gx}{ρ:Rh}{nb:Addr->Prop}{σ:St}{H H1:Hp}{i:Nat}{L:List Addr}{c c':Cu}{f:Bool}{d:PyData}{p:Addr}{o:HO}{E:DE}
theorem Wd.MV(W:Wd G nb ρ σ H)(s1:Step G.B H H1)(ha:∀a∈L,H a=none)(e:∀a∈L,H1 a≠none):Wd G (fun x=>nb x\/x∈L) ρ σ H1/\(∀a∈L,NB G.B a)/\∀f x,G.S (fun x=>nb x\/x∈L) f x->(G.S nb f x\/x∈L):=by
  have hN:∀a∈L,NB G.B a:=fun a m=>NB.new W.az (ha a m)
  have hA:∀f x,G.S (fun x=>nb x\/x∈L) f x->(G.S nb f x\/x∈L):=fun f x z=>by
    rcases z with (z|z)|z|z|z
    · exact .inl (.inl z)
    · exact .inr z
    · exact .inl (.inr (.inl z))
    · exact .inl (.inr (.inr (.inl z)))
    · exact .inl (.inr (.inr (.inr z)))
  have W1:=W.step s1
  have fD:∀{S:Addr->Prop} {d:PyData} {v:V},ai S H d v->ai (fun a=>S a\/a∈L) H d v:=fun{S d v} h=>nA (P:=fun S=>ai S H d v) (fun z h=>ai.av z h) (fun hp h=>ai.fresh hp h) ha h
  have II:∀{S:Addr->Prop} {d:List PyData} {v:List V},af S H d v->af (fun a=>S a\/a∈L) H d v:=fun{S d v} h=>nA (P:=fun S=>af S H d v) (fun z h=>af.av z h) (fun hp h=>af.fresh hp h) ha h
  have Qz:∀{S:Addr->Prop} {d:List (PyData×PyData)} {v:List (Key×V)},ay S H d v->ay (fun a=>S a\/a∈L) H d v:=fun{S d v} h=>nA (P:=fun S=>ay S H d v) (fun z h=>ay.av z h) (fun hp h=>ay.fresh hp h) ha h
  have fH:∀{S:Addr->Prop} {d:HD} {v:V},fW S H d v->fW (fun a=>S a\/a∈L) H d v:=fun{S d v} h=>nA (P:=fun S=>fW S H d v) (fun z h=>fW.av h z) (fun hp h=>fW.fresh h hp) ha h
  refine⟨?_,hN,hA⟩
  refine⟨W1.az,fun x n=>?_,W1.old,fun x n q=>?_,W.gA,W.len,W.gB,fun h m=>((fH (W.dW h m)).keep (s1.but fun x z=> .inl (.inr (.inr (.inl z))))).av (hA h.1),fun j s e'=>?_,W.apart,W.eg,W.cP⟩
  · rcases n with n|n
    · exact W1.live x n
    · exact e x n
  · rcases n with n|n
    · exact W.cM x n q
    · cases z:G.H0 x with
      |none=>rfl
      |some o=>have:=ha x n;rw[W.old x o q z] at this;cases this
  · obtain⟨x,e1,h⟩:=W.ok j s e'
    refine⟨x,e1,?_⟩
    cases s with
    |no=>trivial
    |d f d=>obtain⟨v,e,h⟩:=h;exact⟨v,e,((fD h).keep (s1.but fun x z=> .inl (.inr (.inr (.inl z))))).av (hA f)⟩
    |own c f es=>obtain⟨e,n,q,xs,hx,hd⟩:=h;exact⟨e, .inl n,q,xs,s1.1 _ _ q hx,((II hd).keep (s1.but fun x z=> .inl (.inr (.inr (.inl z))))).av (hA f)⟩
    |az=>exact h
    |raw v=>exact h
    |bI c f es=>obtain⟨e,n,q,xs,hx,hd⟩:=h;exact⟨e, .inl n,q,xs,s1.1 _ _ q hx,((Qz hd).keep (s1.but fun x z=> .inl (.inr (.inr (.inl z))))).av (hA f)⟩
    | cu c =>
      obtain⟨e,n,q⟩:=h
      refine⟨e,fun a ha=>⟨.inl (n a ha).1,(n a ha).2⟩,c.av (hA c.f) (c.keep (.of fun x o hx e=>s1.1 x o ?_ e) (nA (P:=fun S=>c.P S H) (fun z h=>c.av z h) (fun hp h=>c.fresh hp h) ha q))⟩
      rcases hx with hx|hx
      · exact iI fun z=>hx (.inl (.inr (.inr (.inl z))))
      · exact(n x hx).2
theorem mq.RJ{x:Option V}{s:Sl}(h:mq G nb H x s):∀a∈s.adr,nb a/\NB G.B a:=by
 cases s with
 |own a f ds=>intro x hx;rw[bS.mp hx];exact⟨h.2.1,h.2.2.1⟩
 |bI a f ds=>intro x hx;rw[bS.mp hx];exact⟨h.2.1,h.2.2.1⟩
 |cu c=>exact h.2.1
 |no=>intro _ z;cases z
 |d _ _=>intro _ z;cases z
 |az=>intro _ z;cases z
 |raw _=>intro _ z;cases z
theorem Wd.KS(W:Wd G nb ρ σ H)(s1:Step G.B H H1)(ha:∀a∈c.F,H a=none)(e:∀a∈c.F,H1 a≠none)(hP:c.P (fun x=>G.S nb c.f x\/x∈c.F) H1):Wd G (fun x=>nb x\/x∈c.F) (ρ.set i (.cu c)) (σ.set i (some c.v)) H1:=by
 obtain⟨W2,hN,hA⟩:=W.MV s1 ha e
 refine W2.set ⟨rfl,fun a m=>⟨.inr m,hN a m⟩,c.av (hA c.f) hP⟩ (fun _ _ _ z=>by cases z) (fun _ _ _ z=>by cases z) (fun x hx j t hj ht hc z=>?_)
 obtain⟨y,e1,h⟩:=W.ok j _ ht
 exact W.live x (h.RJ x z).1 (ha x hx)
theorem Wd.L7(W:Wd G nb ρ σ H)(e:ρ[i]?=some (.cu c))(hp:p∈c.F)(hv:c'.v=c.v)(hF:∀a∈c'.F,a∈c.F)(h:c'.P (G.S nb c'.f) (upd H p o)):Wd G nb (ρ.set i (.cu c')) σ (upd H p o):=by
 obtain⟨x,e1,h1,h2,h3⟩:=W.ok i _ e
 subst h1
 have hil:i<ρ.length:=(bh.mp e).1
 have W0:Wd G nb (ρ.set i .no) (σ.set i (some c.v)) H:=W.set trivial fun _ _ _ z=>by cases z
 have other:∀(j:Nat) s,(ρ.set i .no)[j]?=some s->s≠ .no->p∉s.adr:=fun j s hs hn=>by
  have hij:i≠j:=fun z=>by subst z;rw[cN hil] at hs;cases hs;exact hn rfl
  rw[bE hij] at hs
  exact W.cP i j c s hij e hs p hp
 have W1:Wd G nb (ρ.set i .no) (σ.set i (some c.v)) (upd H p o):=W0.write (h2 p hp).1 (h2 p hp).2 (fun j a f ds hs z=>other j _ hs (by intro z;cases z) (bS.mpr z.symm)) (fun j a f ds hs z=>other j _ hs (by intro z;cases z) (bS.mpr z.symm)) (fun j c hs=>other j _ hs (by intro z;cases z))
 have W2:=W1.set (i:=i) (s:= .cu c') (x:=some c.v) ⟨by rw[hv],fun a m=>h2 a (hF a m),h⟩ (fun _ _ _ z=>by cases z) (fun _ _ _ z=>by cases z) (fun x hx j t hj ht hc=>by
  rw[bE (bB hj)] at ht
  exact W.cP i j c t (bB hj) e ht x (hF x hx))
 rw[iZ,iZ] at W2
 have:σ.set i (some c.v)=σ:=by
  apply eH
  intro j
  by_cases hij:i=j
  ·subst hij;rw[cN (by rw[W.len];exact hil),e1]
  ·rw[bE hij]
 rwa[this] at W2
theorem Wd.Ld(W:Wd G nb ρ σ H)(e:ρ[i]?=some (.cu c))(h:c.P (G.S nb c.f) H->(∀a∈c.F,G.H0 a=none/\¬G.A a/\NB G.B a)->ai (G.S (fun x=>nb x/\x∉c.F) f) H d c.v):Wd G (fun x=>nb x/\x∉c.F) (ρ.set i (.d f d)) σ H:=by
 obtain⟨x,e1,h1,h2,h3⟩:=W.ok i _ e
 subst h1
 have hil:i<ρ.length:=(bh.mp e).1
 have W0:Wd G nb (ρ.set i .no) (σ.set i (some c.v)) H:=W.set trivial fun _ _ _ z=>by cases z
 have W1:Wd G (fun x=>nb x/\x∉c.F) (ρ.set i .no) (σ.set i (some c.v)) H:=by
  refine⟨W0.az,fun x n=>W0.live x n.1,W0.old,fun x n=>W0.cM x n.1,W0.gA,W0.len,W0.gB,fun h m=>(W0.dW h m).av (bz (fun z=>z) fun _ z=>z.1),fun j s e'=>?_,W0.apart,W0.eg,W0.cP⟩
  obtain⟨x,iE,hh⟩:=W0.ok j s e'
  refine⟨x,iE,?_⟩
  have hij:s≠ .no->i≠j:=fun n z=>by subst z;rw[cN hil] at e';cases e';exact n rfl
  have ap:s≠ .no->∀a∈s.adr,a∉c.F:=fun n a m z=>by
   have hij:=hij n
   rw[bE hij] at e'
   exact W.cP i j c s hij e e' a z m
  cases s with
  |no=>trivial
  |d f d=>obtain⟨v,e,hh⟩:=hh;exact⟨v,e,hh.av (bz (fun z=>z) fun _ z=>z.1)⟩
  |own a f es=>obtain⟨e2,n,q,xs,hx,hd⟩:=hh;exact⟨e2,⟨n,ap (by intro z;cases z) a (bS.mpr rfl)⟩,q,xs,hx,hd.av (bz (fun z=>z) fun _ z=>z.1)⟩
  |az=>exact hh
  |raw v=>exact hh
  |bI a f es=>obtain⟨e2,n,q,xs,hx,hd⟩:=hh;exact⟨e2,⟨n,ap (by intro z;cases z) a (bS.mpr rfl)⟩,q,xs,hx,hd.av (bz (fun z=>z) fun _ z=>z.1)⟩
  |cu c2=>obtain⟨e2,n,q⟩:=hh;exact⟨e2,fun a m=>⟨⟨(n a m).1,ap (by intro z;cases z) a m⟩,(n a m).2⟩,c2.av (bz (fun z=>z) fun _ z=>z.1) q⟩
 have W2:=W1.mD (i:=i) (f:=f) (d:=d) (v:=c.v) (h h3 fun a m=>⟨W.cM a (h2 a m).1 (h2 a m).2,fun z=>W.gA a z (W.cM a (h2 a m).1 (h2 a m).2),(h2 a m).2⟩)
 rw[iZ,iZ] at W2
 have:σ.set i (some c.v)=σ:=by
  apply eH
  intro j
  by_cases hij:i=j
  ·subst hij;rw[cN (by rw[W.len];exact hil),e1]
  ·rw[bE hij]
 rwa[this] at W2
end
end L2
set_option maxRecDepth 100000
set_option maxHeartbeats 4000000
namespace L2
open PySem PySem.Spec PyProof.Rows
abbrev eO:=Int×Addr×List PyData
structure GO(a:Addr)(rows:List eO)(S:Addr->Prop)(H:Hp):Prop where
 hd:H a=some (.dK (rows.map fun r=>(Sum.inl r.1,V.ref r.2.1)))
 nd:(a::rows.map (·.2.1)).Nodup
 kd:(rows.map (·.1)).Nodup
 row:∀r∈rows,∃xs,H r.2.1=some (.lst xs)/\af S H r.2.2 xs
def gH(a:Addr)(f:Bool)(rows:List eO):Cu where
 v:= .ref a
 F:=a::rows.map (·.2.1)
 f:=f
 P:=GO a rows
 keep:=fun k p=>⟨k.own _ (bG ..) _ p.hd,p.nd,p.kd,fun r hr=>by
  obtain⟨xs,h1,h2⟩:=p.row r hr
  exact⟨xs,k.own _ (cA _ (gW hr)) _ h1,af.kp k h2⟩⟩
 av:=fun z p=>⟨p.hd,p.nd,p.kd,fun r hr=>by
  obtain⟨xs,h1,h2⟩:=p.row r hr
  exact⟨xs,h1,h2.av z⟩⟩
 fresh:=fun hp p=>⟨p.hd,p.nd,p.kd,fun r hr=>by
  obtain⟨xs,h1,h2⟩:=p.row r hr
  exact⟨xs,h1,h2.fresh hp⟩⟩
def jy(rows:List eO)(k:Int)(d:PyData):List eO:=rows.map fun r=>if r.1=k then(r.1,r.2.1,r.2.2++[d]) else r
theorem K7(rows:List eO)(k:Int)(d:PyData):(jy rows k d).map (·.1)=rows.map (·.1):=by
 unfold jy
 rw[c6]
 apply e7
 intro r _
 show(if r.1=k then _ else r).1=r.1
 split<;>rfl
theorem Du(rows:List eO)(k:Int)(d:PyData):(jy rows k d).map (·.2.1)=rows.map (·.2.1):=by
 unfold jy
 rw[c6]
 apply e7
 intro r _
 show(if r.1=k then _ else r).2.1=r.2.1
 split<;>rfl
theorem JX(rows:List eO)(k:Int)(d:PyData):((jy rows k d).map fun r=>((Sum.inl r.1:Key),V.ref r.2.1))=rows.map fun r=>(Sum.inl r.1,V.ref r.2.1):=by
 unfold jy
 rw[c6]
 apply e7
 intro r _
 show(Sum.inl (if r.1=k then _ else r).1,V.ref (if r.1=k then _ else r).2.1)=_
 split<;>rfl
theorem QL(rows:List eO)(k:Int)(d:PyData):((jy rows k d).map fun r=>(r.1,r.2.2))=(rows.map fun r=>(r.1,r.2.2)).map fun q=>if q.1=k then(q.1,q.2++[d]) else q:=by
 unfold jy
 rw[c6,c6]
 apply e7
 intro r _
 show((if r.1=k then _ else r).1,(if r.1=k then _ else r).2.2)=if r.1=k then _ else _
 split<;>rfl
theorem Ai:∀{rows:List eO} {r:eO},(rows.map (·.1)).Nodup->r∈rows->eV (rows.map fun r=>((Sum.inl r.1:Key),V.ref r.2.1)) (Sum.inl r.1)=some (.ref r.2.1)
  |[],_,_,h=>by cases h
  | q :: rows, r, nd, h => by
    rw[bF,gV] at nd
    rw[bF]
    rcases aH.mp h with z|z
    · subst z;exact qA rfl
    · rw[oB (fun e=>nd.1 (by injection e with e;rw[e];exact gW z))]
      exact Ai nd.2 z
theorem EY:∀{rows:List eO} {k:Int},k∉rows.map (·.1)->eV (rows.map fun r=>((Sum.inl r.1:Key),V.ref r.2.1)) (Sum.inl k)=none
  |[],_,_=>rfl
  | q :: rows, k, h => by
    rw[bF,aH,not_or] at h
    rw[bF,oB (fun e=>h.1 (by injection e with e;exact e.symm))]
    exact EY h.2
section
variable{G:Gx}{ρ:Rh}{ta tb te tk:TE}{E:DE}{i:Nat}{f:Bool}{K:PySem.W.Frag}{Φ:Pd}{a:Addr}{rows:List eO}
theorem Ev.Py{ng:Bool}(e:ρ[i]?=some (.cu (gH a f rows)))(h:Ev G ρ ta fun _ y=>∃k,y= .int k/\Φ true (.bool (decide (k∈rows.map (·.1)) !=ng))):Ev G ρ (dw (DO ng) ta (eU i)) Φ:=fun nb σ H Q W z=>
 h nb σ H _ W fun g v H1 y ⟨k,ey,q⟩ s1 hv=>by
  subst ey
  have W1:=W.step s1
  obtain⟨x,e1,h1,h2,h3⟩:=W1.ok i _ e
  have h1:x=some (.ref a):=h1
  subst h1
  refine⟨.ref a,e1,a,_,rfl,by rw[hv.bX];exact .inl ⟨_, .inl k, .inl h3.hd,rfl,rfl⟩,?_⟩
  have:(eV (rows.map fun r=>((Sum.inl r.1:Key),V.ref r.2.1)) (Sum.inl k)).isSome=decide (k∈rows.map (·.1)):=by
   by_cases c:k∈rows.map (·.1)
   ·obtain⟨r,hr,e⟩:=bU.mp c
    rw[<-e,Ai h3.kd hr,decide_eq_true (by rw[e];exact c)];rfl
   ·rw[EY c,decide_eq_false c];rfl
  rw[this]
  exact z true _ H1 _ q s1 (.bl _)
theorem Sv.Tj(e:ρ[i]?=some (.cu (gH a f rows)))(h:Ev G ρ tk fun _ y=>∃k,y= .int k/\k∈rows.map (·.1)/\(∀r∈rows,r.2.2.length<10000)/\Ev G ρ te fun g d=>E.nx (ρ.set i (.cu (gH a (f && g) (jy rows k d))))):
  Sv G ρ (ua (kj K "list" qZ (dw jD (eU i) tk) (bx te bR))) E:=fun nb σ H D W KK=>by
 obtain⟨x,e1,h1,h2,h3⟩:=W.ok i _ e
 have h1:x=some (.ref a):=h1
 subst h1
 refine⟨.ref a,e1,h nb σ H _ W fun g v H1 y ⟨k,ey,hk,hlen,q⟩ s1 hv=>?_⟩
 subst ey
 have W1:=W.step s1
 obtain⟨x,iE,_,h2,h3⟩:=W1.ok i _ e
 obtain⟨r,hr,er⟩:=bU.mp hk
 have hval:=Ai h3.kd hr
 obtain⟨xs,hx,hxd⟩:=h3.row r hr
 have FH:r.2.1∈(gH a f rows).F:=cA _ (gW hr)
 refine⟨a,_, .inl k, .ref r.2.1,rfl,hv.bX, .inl h3.hd,by rw[<-er];exact hval, .inl ⟨rfl,_,aS.of hx⟩,?_⟩
 refine q nb σ H1 _ W1 fun g2 u H2 d p s2 hu=>?_
 have W2:=W1.step s2
 obtain⟨x,iE,_,h2,h4⟩:=W2.ok i _ e
 obtain⟨xs,hx,hxd⟩:=h4.row r hr
 refine⟨r.2.1,xs,u,rfl,rfl,hx,dI (by rw[hxd.length];exact hlen r hr) (by decide),KK.nx nb _ _ _ p (W2.L7 e FH rfl (fun b hb=>?_) ?_)⟩
 ·have:(gH a (f && g2) (jy rows k d)).F=(gH a f rows).F:=by show a::_=a::_;rw[Du]
  rw[this] at hb;exact hb
 ·have bt:aU (G.S nb (f && g2)) H2 (upd H2 r.2.1 (.lst (xs++[u]))):=aU.set (.inl (h2 _ FH).1)
  have hnd:=h4.nd
  rw[gV] at hnd
  have har:a≠r.2.1:=fun z=>hnd.1 (by rw[z];exact gW hr)
  refine⟨?_,?_,?_,fun r' hr'=>?_⟩
  ·rw[aq har,JX];exact h4.hd
  ·rw[Du];exact h4.nd
  ·rw[K7];exact h4.kd
  ·unfold jy at hr'
   obtain⟨r0,hr0,rfl⟩:=bU.mp hr'
   by_cases c:r0.1=k
   ·rw[if_pos c]
    have SX:r0=r:=by
     have nd:=h4.kd
     obtain⟨j,hj⟩:=je hr0
     obtain⟨j2,hj2⟩:=je hr
     obtain⟨l1,g1⟩:=bh.mp hj
     obtain⟨l2,g2⟩:=bh.mp hj2
     have:=(tN (i:=j) (j:=j2) (h₀:=by rw[aj];exact l1) (h₁:=by rw[aj];exact l2) nd).mp (by rw[oQ,oQ,g1,g2,c,er])
     subst this
     rw[<-g1,<-g2]
    subst SX
    exact⟨xs++[u],aV,af.snoc ((hu.av (bz (fun z=>(cK _ _▸z).2) fun _ z=>z)).keep bt) ((hxd.av (bz (fun z=>(cK _ _▸z).1) fun _ z=>z)).keep bt)⟩
   ·rw[if_neg c]
    obtain⟨ys,hy,JU⟩:=h4.row r0 hr0
    have hne:r0.2.1≠r.2.1:=fun z=>c (by
     obtain⟨j,hj⟩:=je hr0
     obtain⟨j2,hj2⟩:=je hr
     obtain⟨l1,g1⟩:=bh.mp hj
     obtain⟨l2,g2⟩:=bh.mp hj2
     have:=(tN (i:=j) (j:=j2) (h₀:=by rw[aj];exact l1) (h₁:=by rw[aj];exact l2) hnd.2).mp (by rw[oQ,oQ,g1,g2,z])
     subst this
     rw[<-g1,g2,er])
    exact⟨ys,by rw[aq hne];exact hy,(JU.av (bz (fun z=>(cK _ _▸z).1) fun _ z=>z)).keep bt⟩
theorem Sv.QD{s:TS}(i:Nat)(e:ρ[i]?=some (.cu (gH a f rows)))(h:Sv G (ρ.set i (.d f (.dict ((rows.map fun r=>(r.1,PyData.list r.2.2)).map cE)))) s E):Sv G ρ s E:=fun nb σ H D W K=>by
  refine h _ σ H D (W.Ld e fun p hn=>?_) K
  have p:GO a rows (G.S nb f) H:=p
  have out:∀b∈(gH a f rows).F,¬G.S (fun x=>nb x/\x∉(gH a f rows).F) f b:=fun b hb z=>by
    obtain⟨q1,q2,q3⟩:=hn b hb
    rcases z with z|z|z|z
    · exact z.2 hb
    · exact q2 z
    · exact z q3
    · exact z.2 q1
  show ai _ H _ (.ref a)
  unfold ai
  refine⟨a,_,rfl,out a (bG ..), .inl p.hd,?_⟩
  have key:∀rs:List eO,(∀r∈rs,r∈rows)->ay (G.S (fun x=>nb x/\x∉(gH a f rows).F) f) H ((rs.map fun r=>(r.1,PyData.list r.2.2)).map cE) (rs.map fun r=>((Sum.inl r.1:Key),V.ref r.2.1)):=by
    intro rs
    induction rs with
    |nil=>intro _;simp only[mK];unfold ay;rfl
    | cons r rs ih =>
      intro hm
      rw[bF,bF,bF]
      unfold ay
      refine⟨_,_,rfl,?_,ih fun q hq=>hm q (cA _ hq)⟩
      unfold cG
      obtain⟨xs,hx,hxd⟩:=p.row r (hm r (bG ..))
      exact⟨rfl, .lst (out _ (cA _ (gW (hm r (bG ..))))) hx (hxd.av (bz (fun z=>z) fun _ z=>z.1))⟩
  exact key rows fun _ h=>h
theorem Ho:∀{more acc:List (Key×V)},(more.map (·.1)).Nodup->(∀q∈more,eV acc q.1=none)->kr acc more=acc++more
  |[],acc,_,_=>by rw[iS];rfl
  | q :: more, acc, nd, h => by
    rw[bF,gV] at nd
    show kr (putK acc q.1 q.2) more=_
    rw[Oa _ (h q (bG ..)),Ho nd.2 (fun r hr=>?_),pL]
    · rfl
    · have hne:q.1≠r.1:=fun z=>nd.1 (by rw[z];exact gW hr)
      have:=h r (cA _ hr)
      unfold eV at this⊢
      rw[List.find?_append]
      cases e:acc.find? (fun kv=>decide (kv.1=r.1)) with
      |some z=>rw[e] at this;cases this
      |none=>simp[hne]
theorem Sv.QH(h:Ev G ρ te fun _ x=>∃ks:List Int,x= .list (ks.map .int)/\ks.Nodup/\ks.length<=9999/\∀a rows,(rows.map fun r=>(r.1,r.2.2))=ks.map (fun k=>(k,[]))->E.nx (ρ.set i (.cu (gH a true rows)))):
    Sv G ρ (jb (eS zT (bx (l9 (pX K te) (gG 0) nR (pV (bx (eU 0) (bx (lV bR) bR))) [none]) bR)) (gG i)) E:=fun nb σ H D W KK=>
  h nb σ H _ W fun f v H1 x ⟨ks,ex,nd,hl,q⟩ s1 hv=>by
    subst ex
    obtain⟨l,xs,rfl,nl,hx,hd⟩:=hv.dJ
    have e:=ly hd
    subst e
    refine⟨l,rfl,⟨_, .of hx⟩,fun acc hacc=>?_⟩
    refine R.z5 (xs:=ks.map V.int) (fun j σ H2=>σ.length=1/\∃(ts bs:List Addr),ts.length=j/\bs.length=j/\H2 acc=some (.lst (ts.map V.ref))/\bs.Nodup/\(∀b∈bs,H1 b=none/\H2 b=some (.lst []))/\
      (∀(m:Nat) t b k,ts[m]?=some t->bs[m]?=some b->ks[m]?=some k->H2 t=some (.tup [.int k, .ref b]))/\(∀t∈ts,t≠acc)/\acc∉bs/\∀b o,H1 b=some o->H2 b=some o) ⟨rfl,[],[],rfl,rfl,aV,AI,(fun _ z=>by cases z),(fun _ _ _ _ z=>by simp at z),(fun _ z=>by cases z),(fun z=>by cases z),fun b o e=>by rw[aq (fun z=>by rw[z,hacc] at e;cases e)];exact e⟩ ?_ ?_ ?_
    · rintro j σ H2 hj ⟨_,ts,bs,_,_,_,_,_,_,_,_,hk⟩
      exact .of (hk _ _ hx)
    · rintro j x σ H2 hxj ⟨hσ,ts,bs,jW,hbl,hA,hbn,hb,ht,htA,hbA,hk⟩
      rw[aI] at hxj
      obtain⟨k,hkj,rfl⟩:=i9.mp hxj
      have hjl:=(bh.mp hkj).1
      have e0:(σ.set 0 (some (V.int k)))[0]?=some (some (.int k)):=cN (by omega)
      refine⟨.int k,e0,fF _,fun b kC=>⟨Dn rfl,fun t uz=>?_⟩⟩
      have CW:b≠t:=fun z=>by rw[<-z,aV] at uz;cases uz
      have yC:b≠acc:=fun z=>by rw[z,hA] at kC;cases kC
      have qg:H2 t=none:=by rw[aq (bB CW)] at uz;exact uz
      have An:t≠acc:=fun z=>by rw[z,hA] at qg;cases qg
      have NG:H1 b=none:=by
        cases e:H1 b with
        |none=>rfl
        |some o=>rw[hk b o e] at kC;cases kC
      refine⟨ts.map V.ref,by rw[aq (bB An),aq (bB yC)];exact hA,by rw[aj,jW];exact dI (show j<10000 by omega) (by decide),by rw[gv];exact hσ,ts++[t],bs++[b],by rw[cO,jW];rfl,by rw[cO,hbl];rfl,by rw[aV,fP];rfl,?_,?_,?_,?_,?_,?_⟩
      · rw[yQ]
        refine⟨hbn,by simp,fun x hx y hy z=>?_⟩
        rw[bS.mp hy] at z
        have:=(hb x hx).2
        rw[z,kC] at this;cases this
      · intro x hx
        rcases iQ.mp hx with z|z
        · have:=hb x z
          refine⟨this.1,?_⟩
          rw[aq (fun y=>hbA (by rw[<-y];exact z)),aq (fun y=>by have:=this.2;rw[y,qg] at this;cases this),aq (fun y=>by have:=this.2;rw[y,kC] at this;cases this)]
          exact this.2
        · rw[bS.mp z]
          exact⟨NG,by rw[aq yC,aq CW,aV]⟩
      · intro m t' b' k' h1 h2 h3
        rcases vP m j with c|c|c
        · rw[g7 (by omega)] at h1 h2
          have:=ht m t' b' k' h1 h2 h3
          rw[aq (htA t' (dN h1)),aq (fun y=>by rw[y,qg] at this;cases this),aq (fun y=>by rw[y,kC] at this;cases this)]
          exact this
        · subst c
          rw[ic (by omega),jW,Bf] at h1
          rw[ic (by omega),hbl,Bf] at h2
          simp at h1 h2
          subst h1 h2
          rw[hkj] at h3;cases h3
          rw[aq An,aV]
        · rw[cQ (by rw[cO,gQ];omega)] at h1;cases h1
      · intro x hx
        rcases iQ.mp hx with z|z
        · exact htA x z
        · rw[bS.mp z];exact An
      · intro z
        rcases iQ.mp z with z|z
        · exact hbA z
        · exact yC (bS.mp z).symm
      · intro b' o e
        have:=hk b' o e
        rw[aq (fun z=>by rw[z,hacc] at e;cases e),aq (fun y=>by rw[y,qg] at this;cases this),aq (fun y=>by rw[y,kC] at this;cases this)]
        exact this
    · rintro σ2 H2 ⟨_,ts,bs,jW,hbl,hA,hbn,hb,ht,htA,hbA,hk⟩
      rw[aj] at jW hbl
      obtain⟨rows,er⟩:∃rows:List eO,rows=List.zipWith (fun k b=>(k,b,[])) ks bs:=⟨_,rfl⟩
      have hrl:rows.length=ks.length:=by rw[er,List.length_zipWith];omega
      have o4:∀{m:Nat} {r:eO},rows[m]?=some r->∃k b,ks[m]?=some k/\bs[m]?=some b/\r=(k,b,[]):=fun{m r} hm=>by
        rw[er,List.getElem?_zipWith] at hm
        cases e1:ks[m]? with
        |none=>rw[e1] at hm;cases hm
        | some k =>
          cases e2:bs[m]? with
          |none=>rw[e1,e2] at hm;cases hm
          |some b=>rw[e1,e2] at hm;cases hm;exact⟨k,b,rfl,rfl,rfl⟩
      have hk1:rows.map (·.1)=ks:=by
        apply eH
        intro m
        rw[aI]
        cases e:rows[m]? with
        |none=>rw[cQ (by have:=qy.mp e;omega)];rfl
        |some r=>obtain⟨k,b,e1,e2,rfl⟩:=o4 e;rw[e1];rfl
      have hb1:rows.map (·.2.1)=bs:=by
        apply eH
        intro m
        rw[aI]
        cases e:rows[m]? with
        |none=>rw[cQ (by have:=qy.mp e;omega)];rfl
        |some r=>obtain⟨k,b,e1,e2,rfl⟩:=o4 e;rw[e2];rfl
      have hq1:(rows.map fun r=>(r.1,r.2.2))=ks.map (fun k=>(k,[])):=by
        apply eH
        intro m
        rw[aI,aI]
        cases e:rows[m]? with
        |none=>rw[cQ (by have:=qy.mp e;omega)];rfl
        |some r=>obtain⟨k,b,e1,e2,rfl⟩:=o4 e;rw[e1];rfl
      refine⟨acc,ts.map V.ref,rows.map fun r=>(Sum.inl r.1,V.ref r.2.1),rfl,hA,by rw[aj,aj];omega,by rw[aj];omega,fun m y p hy hp=>?_,fun d hd0=>?_⟩
      · rw[aI] at hy hp
        obtain⟨t,e1,rfl⟩:=i9.mp hy
        obtain⟨r,e2,rfl⟩:=i9.mp hp
        obtain⟨k,b,g1,g2,rfl⟩:=o4 e2
        exact⟨t,rfl,ht m t b k e1 g2 g1⟩
      · have hm:kr [] (rows.map fun r=>((Sum.inl r.1:Key),V.ref r.2.1))=rows.map fun r=>(Sum.inl r.1,V.ref r.2.1):=by
          rw[Ho,List.nil_append]
          · rw[c6,show((fun(x:Key×V)=>x.1)∘fun(r:eO)=>((Sum.inl r.1:Key),V.ref r.2.1))=(Sum.inl:Int->Key)∘(fun(r:eO)=>r.1) from rfl,<-c6,hk1]
            exact nd.map _ (fun a b h1 h2=>h1 (by injection h2))
          · intro q _;rfl
        rw[hm]
        have hdb:∀b∈bs,b≠d:=fun b hb' z=>by have:=(hb b hb').2;rw[z,hd0] at this;cases this
        have sm:∀b o,H1 b=some o->(upd H2 d (.dK (rows.map fun r=>(Sum.inl r.1,V.ref r.2.1)))) b=some o:=fun b o e=>by
          have:=hk b o e
          rw[aq (fun z=>by rw[z,hd0] at this;cases this)];exact this
        have s2:Step G.B H (upd H2 d (.dK (rows.map fun r=>(Sum.inl r.1,V.ref r.2.1)))):=s1.trans (.same s1.2 sm)
        have hd1:H1 d=none:=by
          cases e:H1 d with
          |none=>rfl
          |some o=>rw[hk d o e] at hd0;cases hd0
        have hF:∀b∈(gH d true rows).F,b=d\/b∈bs:=fun b hb'=>by
          rcases aH.mp hb' with z|z
          · exact .inl z
          · rw[hb1] at z;exact .inr z
        refine KK.nx _ _ _ _ (q d rows hq1) (W.KS (c:=gH d true rows) s2 (fun b hb'=>?_) (fun b hb'=>?_) ?_)
        · rcases hF b hb' with z|z
          · rw[z];exact W.none_of s1 hd1
          · exact W.none_of s1 (hb b z).1
        · rcases hF b hb' with z|z
          · rw[z,aV];exact jm _
          · rw[aq (hdb b z),(hb b z).2];exact jm _
        · refine⟨aV,?_,by rw[hk1];exact nd,fun r hr=>?_⟩
          · rw[hb1,gV]
            exact⟨fun z=>hdb d z rfl,hbn⟩
          · obtain⟨m,hm⟩:=je hr
            obtain⟨k,b,g1,g2,rfl⟩:=o4 hm
            have hbm:=dN g2
            exact⟨[],by show upd H2 d _ b=_;rw[aq (hdb b hbm)];exact(hb b hbm).2, .nil⟩
theorem aA.Og{Θ:Bool->List PyData->Prop}(h:Ev G ρ te fun _ x=>∃ks:Ks,x= .dict (ks.map cE)/\ks.length<64/\∀rs:List Int,rs.Pairwise (· <= ·)->rs.Perm (ks.map (·.1))->Θ true (rs.map .int)):aA G ρ (eS ve (bx te bR)) Θ:=fun nb σ H Q W z=>
 h nb σ H _ W fun f v H1 x ⟨ks,ex,hl,q⟩ s1 hv=>by
  subst ex
  unfold ai at hv
  obtain⟨a,ps,rfl,n,hp,hd⟩:=hv
  refine⟨a,ps,ks.map (·.1),rfl,hp,ay.keys hd,by rw[aj];exact hl,fun l rs hl' hw iz=>?_⟩
  exact aA.fin (f:=true) W s1 hl' (tO rs) (q rs hw iz) z
end
end L2
set_option maxRecDepth 100000
set_option maxHeartbeats 4000000
namespace L2
open PySem PySem.Spec PyProof.Rows
def dD(prs:ao)(pl:Int):Option Int:=(prs.find? fun pr=>decide (pr.1=pl)).map (·.2)
theorem TN(pl:Int):dD [] pl=none:=rfl
theorem D7(prs:ao)(pr:Int×Int)(pl:Int):dD (prs++[pr]) pl=match dD prs pl with|some f=>some f|none=>if pr.1=pl then some pr.2 else none:=by
  unfold dD
  rw[List.find?_append]
  cases prs.find? (fun pr=>decide (pr.1=pl)) with
  |some q=>rfl
  | none =>
    by_cases c:pr.1=pl
    · simp[c]
    · simp[c]
theorem ES{prs:ao}{pl:Int}(h:pl∉prs.map (·.1)):dD prs pl=none:=by
 unfold dD
 rw[List.find?_eq_none.mpr]
 ·rfl
 ·intro pr bC z
  exact h (by rw[<-of_decide_eq_true z];exact gW bC)
theorem Hx{prs:ao}{pl f:Int}(h:dD prs pl=some f):(pl,f)∈prs:=by
 unfold dD at h
 obtain⟨q,e,rfl⟩:=i9.mp h
 have h1:=List.mem_of_find?_eq_some e
 have h2:=List.find?_some e
 have h2:q.1=pl:=of_decide_eq_true h2
 rw[<-h2]
 exact h1
theorem Rr{prs:ao}{pl f:Int}(nd:(prs.map (·.1)).Nodup)(h:(pl,f)∈prs):dD prs pl=some f:=by
  induction prs with
  |nil=>cases h
  | cons q prs ih =>
    rw[bF,gV] at nd
    unfold dD
    rw[jE]
    rcases aH.mp h with z|z
    · subst z;simp
    · have:¬q.1=pl:=fun e=>nd.1 (by rw[e];exact gW (f:=(·.1)) z)
      rw[decide_eq_false this]
      exact ih nd.2 z
noncomputable def jn(p:Int)(c:Nat):Option Int->List (Int×Int)
 |some f=>[((c:Int),sol p f 1)]
 |none=>[]
noncomputable def dU(p:Int)(cs:List ao)(pl:Int)(i:Nat):List (Int×Int):=(List.range i).flatMap fun c=>jn p c (dD (cs.getD c []) pl)
theorem GR{p:Int}{cs:List ao}{pl:Int}{i:Nat}{prs:ao}(h:cs[i]?=some prs):dU p cs pl (i+1)=dU p cs pl i++jn p i (dD prs pl):=by
 unfold dU
 rw[zd,w4,Bb,bA,h]
 rfl
theorem qG{p:Int}{cs:List ao}{pl:Int}:∀i,(dU p cs pl i).length<=i
  |0=>aK _
  | i + 1 => by
    unfold dU
    rw[zd,w4,cO,Bb]
    have:=qG (p:=p) (cs:=cs) (pl:=pl) i
    have h2:∀o,(jn p i o).length<=1:=fun o=>by cases o<;>simp[jn]
    have:=h2 (dD (cs.getD i []) pl)
    unfold dU at*
    omega
theorem sJ{p:Int}{cs:List ao}{pl:Int}{q:Int×Int}{i:Nat}(hi:i<=cs.length)(h:q∈dU p cs pl i):∃(c:Nat) (prs:ao) (f:Int),cs[c]?=some prs/\c<i/\dD prs pl=some f/\q=((c:Int),sol p f 1):=by
  unfold dU at h
  obtain⟨c,hc,hq⟩:=List.mem_flatMap.mp h
  have hc:=fQ.mp hc
  have e:cs[c]?=some cs[c]:=aB (by omega)
  rw[bA,e] at hq
  cases hf:dD cs[c] pl with
  |none=>simp[jn,hf] at hq
  | some f =>
    have hq:q∈jn p c (dD cs[c] pl):=hq
    rw[hf] at hq
    exact⟨c,cs[c],f,e,hc,hf,bS.mp hq⟩
noncomputable def ia(p:Int)(cs:List ao)(c:Nat)(prs:ao)(pl:Int):Int×List PyData:=(pl,(dU p cs pl c++jn p c (dD prs pl)).map pairD)
theorem Oh{p:Int}{cs:List ao}{c:Nat}{cT:List Int}:(cT.map fun pl=>(pl,(dU p cs pl c).map pairD))=cT.map (ia p cs c []):=by
 apply e7
 intro pl _
 unfold ia
 rw[TN]
 show _=(pl,(dU p cs pl c++[]).map pairD)
 rw[iS]
theorem Jk{p:Int}{cs:List ao}{c:Nat}{prs:ao}{pr:Int×Int}{cT:List Int}(h:pr.1∉cT):cT.map (ia p cs c (prs++[pr]))=cT.map (ia p cs c prs):=by
 apply e7
 intro pl hpl
 unfold ia
 rw[D7]
 have:¬pr.1=pl:=fun e=>h (by rw[e];exact hpl)
 cases dD prs pl<;>simp[this]
theorem QJ{p:Int}{cs:List ao}{c:Nat}{prs:ao}{pr:Int×Int}{cT:List Int}(h:pr.1∉prs.map (·.1)):cT.map (ia p cs c (prs++[pr]))=(cT.map (ia p cs c prs)).map fun q=>if q.1=pr.1 then(q.1,q.2++[pairD ((c:Int),sol p pr.2 1)]) else q:=by
 rw[c6]
 apply e7
 intro pl _
 show ia p cs c (prs++[pr]) pl=if pl=pr.1 then _ else _
 unfold ia
 rw[D7]
 by_cases e:pl=pr.1
 ·subst e
  rw[if_pos rfl,ES h]
  simp[jn]
 ·rw[if_neg e]
  have:¬pr.1=pl:=fun z=>e z.symm
  cases dD prs pl<;>simp[this]
noncomputable def dR(p:Int)(cs:List ao)(ws:List Int)(pl:Int):List Int:=
 (dU p cs pl cs.length).map fun q=>(ws.getD pl.toNat 0-bJ (cs.getD q.1.toNat []) (ws.map some)%p*q.2)%p
structure fG(p n:Int)(cs:List ao):Prop where
 hp:eK p
 gK:p<10^40
 n0:1<=n
 n1:n<=400
 cl:cs.length<=400
 ok:∀prs∈cs,iH p n.toNat prs
noncomputable def eW(p:Int)(cs:List ao)(ws:List Int):List Int:=cs.map fun prs=>bJ prs (ws.map some)%p
theorem HL{p:Int}{cs:List ao}{ws:List Int}(c:Nat)(h:c<cs.length):(eW p cs ws).getD c 0=bJ (cs.getD c []) (ws.map some)%p:=by
 unfold eW
 rw[bA,aI,bA,aB h]
 rfl
theorem xF(p:Int)(cs:List ao)(ws:List Int):(cs.map fun prs=>ie (lQ p prs (ws.map some)))=(eW p cs ws).map PyData.int:=by
 unfold eW
 rw[c6]
 apply e7
 intro prs _
 have:¬tD prs (ws.map some):=by
  rintro⟨pr,_,z⟩
  rw[aI] at z
  cases h:ws[pr.1.toNat]? with
  |none=>rw[h] at z;cases z
  |some x=>rw[h] at z;cases z
 unfold lQ
 rw[if_neg this]
 rfl
theorem MW{prs:ao}{ws:List Int}{pl:Nat}{x:Int}(nd:(prs.map (·.1)).Nodup)(hr:∀pr∈prs,0<=pr.1)(hpl:pl<ws.length):
    bJ prs ((ws.set pl x).map some)=bJ prs (ws.map some)+((dD prs (pl:Int)).getD 0)*(x-ws.getD pl 0):=by
  induction prs with
  |nil=>show(0:Int)=0+0*_;rw[qH];rfl
  | cons pr prs ih =>
    rw[bF,gV] at nd
    have ih:=ih nd.2 fun q hq=>hr q (cA _ hq)
    have h0:=hr pr (bG ..)
    show fZ _ pr+bJ prs _=(fZ _ pr+bJ prs _)+_
    rw[ih]
    have hf:dD (pr::prs) (pl:Int)=if pr.1=(pl:Int) then some pr.2 else dD prs (pl:Int):=by
      unfold dD
      rw[jE]
      by_cases c:pr.1=(pl:Int)
      · simp[c]
      · simp[c]
    rw[hf]
    by_cases c:pr.1=(pl:Int)
    · rw[if_pos c]
      have hn:dD prs (pl:Int)=none:=ES (by rw[<-c];exact nd.1)
      rw[hn]
      have hn2:pr.1.toNat=pl:=by omega
      unfold fZ
      rw[aI,aI,hn2,cN hpl,bA,aB hpl]
      show pr.2*x+(_+0*_)=pr.2*ws[pl]+_+pr.2*(x-ws[pl])
      grind
    · rw[if_neg c]
      have hn2:pl≠pr.1.toNat:=by omega
      have:fZ ((ws.set pl x).map some) pr=fZ (ws.map some) pr:=by
        unfold fZ
        rw[aI,aI,bE hn2]
      rw[this]
      omega
theorem T6{p:Int}{prs:ao}{ws:List Int}{pl:Nat}{x f:Int}(hp:eK p)(hq:iH p ws.length prs)(hpl:pl<ws.length)(hf:dD prs (pl:Int)=some f)(x0:0<=x)(x1:x<p):
  (ws.getD pl 0-bJ prs (ws.map some)%p*sol p f 1)%p=x↔bJ prs ((ws.set pl x).map some)%p=0:=by
 have hm:=Hx hf
 obtain⟨_,_,f0,f1⟩:=hq.2.2 _ hm
 have p2:=hp.1
 have hfp:f%p≠0:=by rw[m7 (by omega) f1];dsimp only at f0;omega
 obtain⟨k,hk⟩:=GD (a:=1) hp hfp
 rw[MW hq.1 (fun pr bC=>(hq.2.2 pr bC).1) hpl,hf]
 generalize bJ prs (ws.map some)=D
 generalize sol p f 1=s at*
 generalize ws.getD pl 0=w
 have hD:D%p=D-p*(D/p):=Int.emod_def ..
 constructor
 ·intro e
  have e2:w-D%p*s=x+p*((w-D%p*s)/p):=by rw[<-e];exact(GZ _ _).symm
  generalize (w-D%p*s)/p=j at e2
  rw[hD] at e2
  apply pI
  refine⟨-(D*k)+D/p*(f*s)-f*j,?_⟩
  show D+f*(x-w)=_
  have e3:x-w= -(D-p*(D/p))*s-p*j:=by grind
  rw[e3]
  grind
 ·intro e
  obtain⟨j,hj⟩:=zP e
  have hj:D+f*(x-w)=p*j:=hj
  have:w-D%p*s=x+p*(D/p*s-j*s+k*(x-w)):=by
   rw[hD]
   have h1:(D+f*(x-w))*s=p*j*s:=by rw[hj]
   grind
  rw[this,Cj,m7 x0 x1]
noncomputable def nY(p:Int)(cs:List ao)(ws:List Int)(pl:Nat)(x:Int):Nat:=cs.countP fun prs=>decide ((pl:Int)∈prs.map (·.1)) && decide (bJ prs ((ws.set pl x).map some)%p=0)
theorem EJ{p:Int}{cs:List ao}{ws:List Int}{pl:Nat}{x:Int}(hp:eK p)(hq:∀prs∈cs,iH p ws.length prs)(hpl:pl<ws.length)(x0:0<=x)(x1:x<p):(dR p cs ws (pl:Int)).count x=nY p cs ws pl x:=by
  have key:∀i,i<=cs.length->(((dU p cs (pl:Int) i).map fun q=>(ws.getD pl 0-bJ (cs.getD q.1.toNat []) (ws.map some)%p*q.2)%p).count x)=nY p (cs.take i) ws pl x:=by
    intro i
    induction i with
    |zero=>intro _;rfl
    | succ i ih =>
      intro hi
      have e:cs[i]?=some cs[i]:=aB (by omega)
      have hg:cs.getD i []=cs[i]:=by rw[bA,e];rfl
      have DS:=hq cs[i] (dZ _)
      unfold nY at*
      rw[GR e,fP,List.count_append,ih (by omega),take_snoc e,Ar]
      congr 1
      rw[xD]
      cases hf:dD cs[i] (pl:Int) with
      | none =>
        have:¬(pl:Int)∈cs[i].map (·.1):=fun z=>by
          obtain⟨pr,bC,e2⟩:=bU.mp z
          rw[Rr DS.1 (show((pl:Int),pr.2)∈cs[i] by rw[<-e2];exact bC)] at hf
          cases hf
        simp[jn,this]
      | some f =>
        have hm:(pl:Int)∈cs[i].map (·.1):=gW (f:=(·.1)) (Hx hf)
        have hv:=T6 hp DS hpl hf x0 x1
        show List.count x [(ws.getD pl 0-bJ (cs.getD ((i:Int)).toNat []) (ws.map some)%p*sol p f 1)%p]=_
        rw[iT,hg,BS]
        have hb:((ws.getD pl 0-bJ cs[i] (ws.map some)%p*sol p f 1)%p==x)=decide (bJ cs[i] ((ws.set pl x).map some)%p=0):=by
          rw[kM,beq_iff_eq,decide_eq_true_eq]
          exact hv
        rw[hb,decide_eq_true hm,mW]
  have:=key cs.length (aK _)
  rw[iF] at this
  unfold dR
  rw[iT]
  exact this
theorem Te(ks:Ks)(k:Int)(d:PyData):(lG ks k d).length<=ks.length+1:=by
 unfold lG
 split
 ·rw[aj];omega
 ·rw[cO,gQ];omega
end L2
set_option maxRecDepth 100000
set_option maxHeartbeats 4000000
namespace L2
open PySem PySem.Spec PyProof.Rows
theorem DT{x y:Int}(h:x≠y):∀L:List Int,L.count x+L.count y<=L.length
  |[]=>aK _
  | z :: L => by
    have ih:=DT h L
    rw[List.count_cons,List.count_cons,ko]
    by_cases c1:z=x
    · have:¬z=y:=fun e=>h (c1.symm.trans e)
      simp[c1,h]
      omega
    · simp[c1]
      split<;>omega
def cS(L:List Int)(w x:Int):Bool:=decide (x≠w) && decide (L.length<2*L.count x)
def jw(L:List Int)(w:Int):List Int:=(L.filter (cS L w)).take 1
theorem EX{L:List Int}{w x y:Int}(hx:cS L w x=true)(hy:cS L w y=true):x=y:=by
 unfold cS at hx hy
 rw[cK,decide_eq_true_eq,decide_eq_true_eq] at hx hy
 refine iI fun h=>?_
 have:=DT h L
 omega
theorem Rz{L ms:List Int}{w:Int}(nd:ms.Nodup)(hm:∀k,k∈ms↔k∈L):ms.filter (cS L w)=jw L w:=by
  unfold jw
  cases e:L.filter (cS L w) with
  | nil =>
    rw[BG] at e
    show _=[]
    rw[BG]
    exact fun x hx=>e x ((hm x).mp hx)
  | cons x r =>
    have hx:x∈L.filter (cS L w):=by rw[e];exact bG ..
    rw[ki] at hx
    have tQ:x∈ms.filter (cS L w):=ki.mpr ⟨(hm x).mpr hx.1,hx.2⟩
    have hall:∀y∈ms.filter (cS L w),y=x:=fun y hy=>EX (ki.mp hy).2 hx.2
    have hnd:(ms.filter (cS L w)).Nodup:=nd.filter _
    show _=[x]
    cases e2:ms.filter (cS L w) with
    |nil=>rw[e2] at tQ;cases tQ
    | cons y r2 =>
      rw[e2] at hall hnd
      have ey:=hall y (bG ..)
      subst ey
      cases r2 with
      |nil=>rfl
      | cons z r3 =>
        have:=hall z (cA _ (bG ..))
        subst this
        rw[gV] at hnd
        exact absurd (bG ..) hnd.1
@[reducible] def c7(t:Int×Int×Int):PyData:= .tuple [.int t.1, .int t.2.1, .int t.2.2]
noncomputable def iP(p:Int)(cs:List ao)(ws:List Int)(i:Nat):List (Int×Int×Int):=(jw (dR p cs ws (i:Int)) (ws.getD i 0)).map fun x=>((i:Int),ws.getD i 0,x)
noncomputable def br(p:Int)(cs:List ao)(ws:List Int)(m:Nat):List (Int×Int×Int):=(List.range m).flatMap (iP p cs ws)
theorem yR{p:Int}{cs:List ao}{ws:List Int}{m:Nat}:br p cs ws (m+1)=br p cs ws m++iP p cs ws m:=by
 unfold br
 rw[zd,w4,Bb]
theorem Mq{L:List Int}{w:Int}:(jw L w).length<=1:=by unfold jw;rw[kF];omega
theorem qm{p:Int}{cs:List ao}{ws:List Int}:∀m,(br p cs ws m).length<=m
  |0=>aK _
  | m + 1 => by
    rw[yR,cO]
    have:=qm (p:=p) (cs:=cs) (ws:=ws) m
    have:(iP p cs ws m).length<=1:=by unfold iP;rw[aj];exact Mq
    omega
theorem Im{L:List Int}{w x:Int}(h:x∈jw L w):x∈L:=(ki.mp (List.mem_of_mem_take h)).1
theorem pZ{p:Int}{cs:List ao}{ws:List Int}{m:Nat}{t:Int×Int×Int}(h:t∈br p cs ws m):∃i<m,t.1=(i:Int)/\t.2.1=ws.getD i 0/\t.2.2∈dR p cs ws (i:Int):=by
 unfold br at h
 obtain⟨i,hi,ht⟩:=List.mem_flatMap.mp h
 unfold iP at ht
 obtain⟨x,hx,rfl⟩:=bU.mp ht
 exact⟨i,fQ.mp hi,rfl,rfl,Im hx⟩
def c9(ws:List Int)(ts:List (Int×Int×Int)):List Int:=ts.foldl (fun w t=>w.set t.1.toNat t.2.2) ws
theorem S1(ws:List Int)(ts:List (Int×Int×Int))(t:Int×Int×Int):c9 ws (ts++[t])=(c9 ws ts).set t.1.toNat t.2.2:=by unfold c9;rw[List.foldl_append];rfl
theorem l7(ws:List Int):∀ts,(c9 ws ts).length=ws.length:=by
 intro ts
 unfold c9
 induction ts generalizing ws with
 |nil=>rfl
 |cons t ts ih=>rw[List.foldl_cons,ih,gv]
theorem TU{ws:List Int}{P:Int->Prop}(h:∀x∈ws,P x):∀ts:List (Int×Int×Int),(∀t∈ts,P t.2.2)->∀x∈c9 ws ts,P x:=by
  intro ts
  unfold c9
  induction ts generalizing ws with
  |nil=>exact fun _=>h
  | cons t ts ih =>
    intro ht
    rw[List.foldl_cons]
    refine ih (fun x hx=>?_) fun q hq=>ht q (cA _ hq)
    rcases CO hx with z|z
    · exact h x z
    · rw[z];exact ht t (bG ..)
theorem sQ{p:Int}{cs:List ao}{ws:List Int}{pl:Int}(hp:0<p):∀x∈dR p cs ws pl,0<=x/\x<p:=fun x hx=>by
 unfold dR at hx
 obtain⟨y,_,rfl⟩:=bU.mp hx
 exact⟨gm _ (by omega),fY _ hp⟩
theorem LO{p:Int}{cs:List ao}{ws:List Int}{pl:Int}:(dR p cs ws pl).length<=cs.length:=by
 unfold dR
 rw[aj]
 exact qG cs.length
noncomputable def lW(p:Int)(cs:List ao)(n:Nat):Ks:=((List.range n).map fun(i:Nat)=>(i:Int)).map fun pl=>(pl,PyData.list ((dU p cs pl cs.length).map pairD))
theorem QC{p:Int}{cs:List ao}{n i:Nat}(h:i<n):gc (lW p cs n) (i:Int)=some (.list ((dU p cs (i:Int) cs.length).map pairD)):=by
 unfold lW
 rw[o8,if_pos (bU.mpr ⟨i,fQ.mpr h,rfl⟩)]
end L2
set_option maxRecDepth 100000
set_option maxHeartbeats 4000000
namespace L2
open PySem PySem.Spec PyProof.Rows
def brk(p:Int)(cs:List ao)(ws:List Int):Nat:=cs.countP fun prs=>decide (bJ prs (ws.map some)%p≠0)
end L2
set_option maxRecDepth 100000
set_option maxHeartbeats 4000000
namespace L2
open PySem PySem.Spec PyProof.Rows
abbrev bN:=Int×Int×Int
noncomputable def cF(p:Int)(cs:List ao)(n:Nat):Nat->List Int->List Int×List (List bN)×Str
  |0,ws=>(ws,[],if brk p cs ws=0 then Str.ofString "held" else Str.ofString "far")
  | k + 1, ws => if brk p cs ws = 0 then (ws, [], Str.ofString "held") else if br p cs ws n = [] then (ws, [], Str.ofString "stuck")
    else((cF p cs n k (c9 ws (br p cs ws n))).1,br p cs ws n::(cF p cs n k (c9 ws (br p cs ws n))).2.1,(cF p cs n k (c9 ws (br p cs ws n))).2.2)
theorem mL{p:Int}{cs:List ao}{n k:Nat}{ws:List Int}(h:brk p cs ws=0):cF p cs n k ws=(ws,[],Str.ofString "held"):=by
 cases k with
 |zero=>rw[cF,if_pos h]
 |succ k=>rw[cF,if_pos h]
theorem uO{p:Int}{cs:List ao}{n:Nat}{ws:List Int}(h:brk p cs ws≠0):cF p cs n 0 ws=(ws,[],Str.ofString "far"):=by
 rw[cF,if_neg h]
theorem pK{p:Int}{cs:List ao}{n k:Nat}{ws:List Int}(h:brk p cs ws≠0)(h2:br p cs ws n=[]):cF p cs n (k+1) ws=(ws,[],Str.ofString "stuck"):=by
 rw[cF,if_neg h,if_pos h2]
theorem p6{p:Int}{cs:List ao}{n k:Nat}{ws:List Int}(h:brk p cs ws≠0)(h2:br p cs ws n≠[]):cF p cs n (k+1) ws=((cF p cs n k (c9 ws (br p cs ws n))).1,br p cs ws n::(cF p cs n k (c9 ws (br p cs ws n))).2.1,(cF p cs n k (c9 ws (br p cs ws n))).2.2):=by
 rw[cF,if_neg h,if_neg h2]
theorem Iv{p:Int}{cs:List ao}{ws:List Int}:(eW p cs ws).countP (fun s=>decide (s≠0))=brk p cs ws:=by
 unfold eW brk
 rw[List.countP_map]
 rfl
def nh(ts:List bN):PyData:= .list (ts.map c7)
def sS(r:List Int×List (List bN)×Str):PyData:= .tuple [cJ r.1, .list (r.2.1.map nh), .tuple [.str r.2.2]]
theorem Eo{p:Int}{cs:List ao}{n:Nat}{ws:List Int}(hp:0<p)(hl:ws.length=n)(hw:∀x∈ws,0<=x/\x<p):(c9 ws (br p cs ws n)).length=n/\∀x∈c9 ws (br p cs ws n),0<=x/\x<p:=by
 refine⟨by rw[l7,hl],TU hw _ fun t ht=>?_⟩
 obtain⟨i,_,_,_,h⟩:=pZ ht
 exact sQ hp _ h
theorem T4(ts:List bN):SeqAt.shaped (.list (ts.map c7))=true:=by
 have h:PyData.depthAll (ts.map c7)<=1/\PyData.canLayAll0 (ts.map c7)=true:=by
  induction ts with
  |nil=>simp[PyData.depthAll,PyData.canLayAll0]
  |cons a r ih=>simp[c7,PyData.depthAll,PyData.depth,PyData.canLayAll0,PyData.canLay0,ih.2];have:=ih.1;omega
 unfold SeqAt.shaped
 simp only[PyData.canLay0,PyData.depth,h.2,mW]
 have:=h.1
 simp
 omega
theorem R5:SeqAt.shaped (.list [])=true:=by with_unfolding_all rfl
theorem Rk(ts:List bN):(PyData.eqv (.list (ts.map c7)) (.list []) !=false)=decide (ts=[]):=by
 cases ts<;>simp[PyData.eqv,PyData.eqvAll]
end L2
set_option maxRecDepth 100000
set_option maxHeartbeats 4000000
set_option maxRecDepth 100000
set_option maxHeartbeats 4000000
namespace L2
open PySem PySem.Spec PyProof.Rows
abbrev CF:=Cu->List PyData->(Cu->Pd)->Prop
end L2
set_option maxRecDepth 100000
set_option maxHeartbeats 4000000
namespace L2
open PySem PySem.Spec PyProof.Rows
inductive Fl where
 |d (d:PyData)|cu (c:Cu)
abbrev Fs:=List (Str×Fl)
end L2
set_option maxRecDepth 100000
set_option maxHeartbeats 4000000
set_option maxRecDepth 100000
set_option maxHeartbeats 4000000
set_option maxRecDepth 100000
set_option maxHeartbeats 4000000
set_option maxRecDepth 100000
set_option maxHeartbeats 4000000
set_option maxRecDepth 100000
set_option maxHeartbeats 4000000
namespace L2
open PySem PySem.Spec PyProof.Rows
inductive Oi where
 |own (b:Addr)|dat (x:PyData)
inductive OO where
 |lst (xs:List Oi)|tup (xs:List Oi)|bI (ks:List (Int×Oi))
abbrev UU:=List (Addr×OO)
end L2
set_option maxRecDepth 100000
set_option maxHeartbeats 4000000
set_option maxRecDepth 100000
set_option maxHeartbeats 4000000
set_option maxRecDepth 100000
set_option maxHeartbeats 4000000
set_option maxRecDepth 100000
set_option maxHeartbeats 4000000
set_option maxRecDepth 100000
set_option maxHeartbeats 4000000
set_option maxRecDepth 100000
set_option maxHeartbeats 4000000
set_option maxRecDepth 100000
set_option maxHeartbeats 4000000
namespace L2
open PySem PySem.Spec PyProof.Rows
abbrev RF:=Cu->List PyData->Pd->Prop
end L2
set_option maxRecDepth 100000
set_option maxHeartbeats 4000000
set_option maxRecDepth 100000
set_option maxHeartbeats 4000000
set_option maxRecDepth 100000
set_option maxHeartbeats 4000000
set_option maxRecDepth 100000
set_option maxHeartbeats 4000000
set_option maxRecDepth 100000
set_option maxHeartbeats 4000000
namespace L2
open PySem PySem.Spec PyProof.Rows
def bf:Nat->(Nat->Int)->Int
 |0,_=>0
 |n+1,f=>bf n f+f n
theorem wM{n:Nat}{f:Nat->Int}:bf (n+1) f=bf n f+f n:=rfl
theorem tG{f g:Nat->Int}:∀{n:Nat},(∀k,k<n->f k=g k)->bf n f=bf n g
 |0,_=>rfl
 |n+1,h=>by unfold bf;rw[tG fun k hk=>h k (by omega),h n (by omega)]
theorem v5{f g:Nat->Int}:∀{n:Nat},bf n (fun k=>f k+g k)=bf n f+bf n g
 |0=>rfl
 |n+1=>by rw[wM,wM,wM,v5];omega
theorem yh{a:Int}{f:Nat->Int}:∀{n:Nat},bf n (fun k=>a*f k)=a*bf n f
 |0=>by unfold bf;simp
 |n+1=>by unfold bf;rw[yh,Int.mul_add]
theorem uB:∀{n:Nat},bf n (fun _=>0)=0
 |0=>rfl
 |n+1=>by unfold bf;rw[uB];rfl
theorem Ei{f:Nat->Nat->Int}{n:Nat}:∀{m:Nat},bf n (fun k=>bf m fun c=>f c k)=bf m fun c=>bf n (f c)
  |0=>uB
  | m + 1 => by
    show bf n (fun k=>bf m (fun c=>f c k)+f m k)=bf m (fun c=>bf n (f c))+bf n (f m)
    rw[v5,Ei]
theorem FW{f:Nat->Int}{b:Int}:∀{n:Nat},(∀k,k<n->f k<=b)->bf n f<=n*b
  |0,_=>by unfold bf;simp
  | n + 1, h => by
    unfold bf
    have h1:=FW (n:=n) fun k hk=>h k (by omega)
    have h2:=h n (by omega)
    rw[show((n+1:Nat):Int)*b=n*b+b by rw[Int.natCast_add,sV];simp]
    omega
theorem Br{f:Nat->Int}(hf:∀k,f k=0\/f k=1):∀{n:Nat},(∀k k',k<k'->k'<n->¬(f k=1/\f k'=1))->bf n f<=1
  |0,_=>by unfold bf;omega
  | n + 1, h => by
    unfold bf
    rcases hf n with e|e
    · have:=Br hf (n:=n) fun k k' a b=>h k k' a (by omega)
      omega
    · have:bf n f=0:=by
        rw[tG (g:=fun _=>0) fun k hk=>(hf k).resolve_right fun z=>h k n hk (by omega) ⟨z,e⟩]
        exact uB
      omega
theorem meet{I:Nat->Nat->Int}(hI:∀c k,I c k=0\/I c k=1){n:Nat}:∀{m:Nat},(∀c d k k',c<d->d<m->k<k'->k'<n->¬(I c k=1/\I d k=1/\I c k'=1/\I d k'=1))->
    bf n (fun k=>bf m (fun c=>I c k)*(bf m (fun c=>I c k)-1))<=m*(m-1)
  | 0, _ => by
    rw[tG (g:=fun _=>0) fun k _=>by unfold bf;simp,uB];simp
  | m + 1, h => by
    have ih:=meet hI (n:=n) (m:=m) fun c d k k' a b=>h c d k k' a (by omega)
    have e:bf n (fun k=>bf (m+1) (fun c=>I c k)*(bf (m+1) (fun c=>I c k)-1))=bf n (fun k=>bf m (fun c=>I c k)*(bf m (fun c=>I c k)-1)+2*bf m (fun c=>I m k*I c k)):=by
      refine tG fun k _=>?_
      rw[yh]
      show(bf m (fun c=>I c k)+I m k)*(bf m (fun c=>I c k)+I m k-1)=_
      generalize bf m (fun c=>I c k)=D
      rcases hI m k with z|z<;>rw[z]<;>grind
    rw[e,v5,yh,Ei (f:=fun c k=>I m k*I c k)]
    have h2:bf m (fun c=>bf n fun k=>I m k*I c k)<=m*1:=FW fun c hc=>Br (fun k=>by rcases hI m k with z|z<;>rcases hI c k with y|y<;>rw[z,y]<;>simp) fun k k' hk hk' ⟨z1,z2⟩=>by
      refine h c m k k' hc (by omega) hk hk' ?_
      rcases hI m k with a|a<;>rcases hI c k with b|b<;>rcases hI m k' with a'|a'<;>rcases hI c k' with b'|b'<;>simp_all
    have e3:((m+1:Nat):Int)*((m+1:Nat)-1)=(m:Int)*(m-1)+2*m:=by rw[Int.natCast_add];grind
    omega
end L2
set_option maxRecDepth 100000
set_option maxHeartbeats 4000000
namespace L2
open PySem PySem.Spec PyProof.Rows PySem.W
def gf(c d:bN):Bool:=if c.1=d.1 then i6 c.2 d.2 else decide (c.1<d.1)
def pF(M N:Int)(c:bN):Int:=encP N (c.1,encP M c.2)
theorem Mz(cs:List bN):∃M N:Int,∀c∈cs,∀d∈cs,gf c d=decide (pF M N c<pF M N d):=by
 obtain⟨M,M0,hM⟩:=qU (cs.map (·.2))
 obtain⟨N,N0,hN⟩:=qU (cs.map fun c=>(c.1,encP M c.2))
 refine⟨M,N,fun c hc d hd=>?_⟩
 have h1:=tW (M:=N) N0 (hN _ (gW (f:=fun c:bN=>(c.1,encP M c.2)) hc)) (hN _ (gW (f:=fun c:bN=>(c.1,encP M c.2)) hd))
 have h2:=tW (M:=M) M0 (hM _ (gW (f:=fun c:bN=>c.2) hc)) (hM _ (gW (f:=fun c:bN=>c.2) hd))
 unfold pF
 rw[<-h1]
 unfold gf
 rw[h2]
 rfl
def AO(h:Heap)(v:Value):Prop:=∃a o i j k t u u2 m,v= .ref a/\h.get? a=some o/\o.cls= .type "tuple" /\o.data= .seq #[.int i t, .int j u, .int k u2] m
theorem Me{M:Model}{A:Around}{E:Value->Shared->Prop}{s:Shared}{vs:List Value}{Q:SortKind->Shared->Prop}(hp:∀v∈vs,AO s.heap v)(hne:0<vs.length)(h:Q (tuples' true) s):wpAny M A (keyKind' vs.toArray) Q E s:=by
  obtain⟨fs,hf,hl,hT⟩:∃fs:List Value,KatTups s.heap vs fs/\fs.length=vs.length/\∀v∈fs,∃i t,v= .int i t:=by
    clear hne h
    induction vs with
    |nil=>exact⟨[], .nil,rfl,fun _ h=>nomatch h⟩
    | cons v r ih =>
      obtain⟨fs,h1,h2,h3⟩:=ih fun x hx=>hp x (cA _ hx)
      obtain⟨a,o,i,j,k,t,u,u2,m,rfl,g1,g2,g3⟩:=hp v (bG ..)
      refine⟨.int i t::fs, .cons g1 g2 g3 rfl h1,by simp[h2],fun x hx=>?_⟩
      rcases aH.mp hx with e|hx
      · exact⟨i,t,e⟩
      · exact h3 x hx
  refine kat_kind (T:= .type "int") hf (by omega) (fun v hv=>?_) (by decide) h
  obtain⟨i,t,rfl⟩:=hT v hv
  exact Looks.of_pure rfl
def kQ(h:Heap)(c:bN)(v:Value):Prop:=∃a o t u u2 m,v= .ref a/\h.get? a=some o/\o.cls= .type "tuple" /\o.data= .seq #[.int c.1 t, .int c.2.1 u, .int c.2.2 u2] m
def oV(h:Heap)(cs:List bN)(vs:List Value):Prop:=vs.length=cs.length/\∀k,k<cs.length->kQ h (cs.getD k (0,0,0)) (vs.getD k .none)
theorem kQ.at{h:Heap}{c:bN}{v:Value}(x:kQ h c v):AO h v:=by
 obtain⟨a,o,t,u,u2,m,e,h1,h2,h3⟩:=x
 exact⟨a,o,_,_,_,t,u,u2,m,e,h1,h2,h3⟩
theorem kQ.keep{h h':Heap}{c:bN}{v:Value}(x:kQ h c v)(k:∀b o,v= .ref b->h.get? b=some o->h'.get? b=some o):kQ h' c v:=by
 obtain⟨a,o,t,u,u2,m,e,h1,h2,h3⟩:=x
 exact⟨a,o,t,u,u2,m,e,k _ _ e h1,h2,h3⟩
theorem oV.at{h:Heap}{cs:List bN}{vs:List Value}(x:oV h cs vs):∀v∈vs,AO h v:=fun v hv=>by
 obtain⟨k,hk,e⟩:=Cw.mp hv
 have:=x.2 k (by rw[<-x.1];exact hk)
 rw[bA (l:=vs),aB hk,e] at this
 exact this.at
section
variable{prog:Program}{w:World}{A:Around}{E:Value->Shared->Prop}{s:Shared}
theorem Mf{x y:Value}{c d:bN}{C:Bool->Shared->Prop}(hx:kQ s.heap c x)(hy:kQ s.heap d y)(h:C (gf c d) s):wpAny (model prog w) A (keyLt' (tuples' true) x y) C E s:=by
 obtain⟨a,o,t,u,u2,m,rfl,h1,h2,h3⟩:=hx
 obtain⟨a',o',t',u',UL,m',rfl,xT,h2',h3'⟩:=hy
 unfold gf i6 at h
 refine kat_lt h1 h3 xT h3' ?_
 refine kat_cons (wpAny_eqBool_int ?_)
 by_cases e1:c.1=d.1
 ·rw[if_pos e1] at h
  rw[show(c.1==d.1)=true from beq_iff_eq.mpr e1]
  refine kat_yes (kat_cons (wpAny_eqBool_int ?_))
  by_cases e2:c.2.1=d.2.1
  ·rw[if_pos e2] at h
   rw[show(c.2.1==d.2.1)=true from beq_iff_eq.mpr e2]
   refine kat_yes (kat_cons (wpAny_eqBool_int ?_))
   by_cases e3:c.2.2=d.2.2
   ·rw[show(c.2.2==d.2.2)=true from beq_iff_eq.mpr e3]
    refine kat_yes (kat_nil ?_)
    rw[decide_eq_false (by omega)] at h
    exact h
   ·rw[show(c.2.2==d.2.2)=false from beq_eq_false_iff_ne.mpr e3]
    refine kat_no ?_
    refine kat_one _ _ (lt_int ?_)
    exact h
  ·rw[if_neg e2] at h
   rw[show(c.2.1==d.2.1)=false from beq_eq_false_iff_ne.mpr e2]
   refine kat_no ?_
   refine kat_one _ _ (lt_int ?_)
   exact h
 ·rw[if_neg e1] at h
  rw[show(c.1==d.1)=false from beq_eq_false_iff_ne.mpr e1]
  refine kat_no ?_
  exact oneLt_int h
theorem Pa{a:Addr}{vs:List Value}{cs:List bN}{n:Nat}{P:Fin->Shared->Prop}(ho:s.heap.get? a=some (seqObj "list" vs.toArray n))(hp:oV s.heap cs vs)(hna:∀v∈vs,v≠ .ref a)(h64:vs.length<64)
  (h:∀(out:Array Value) (ix:List Nat),ix.Perm (List.range vs.length)->out.toList=ix.map (fun i=>vs.getD i .none)->(ix.map fun i=>cs.getD i (0,0,0)).Pairwise (fun c d=>gf d c=false)->P (.done (.ret .none)) {s with heap:=sortedHeap s.heap a vs out}):
  wpAny (model prog w) A (Builtin.«list.sort» ⟨[.ref a],[]⟩) P E s:=by
 rw[list_sort_plain]
 have ha:a<s.heap.objs.size:=aW ho
 refine wpAny_bind (listItems_at ho rfl ?_)
 refine wpAny_bind (listUpdate_at ho rfl ?_)
 obtain⟨e1,qu⟩:∃e1,(s.heap.update a (Obj.mapSeq fun _=> #[])).get? a=some (seqObj "list" #[] e1):=⟨_,get?_update_seq ho (fun _=> #[])⟩
 refine wpAny_bind (seqEpoch_at qu rfl ?_)
 refine wpAny_bind (wpAny_newTuple ?_)
 refine wpAny_bind (wpAny_newList ?_)
 refine wpAny_holding ?_
 have ho6:(((s.heap.update a (Obj.mapSeq fun _=> #[])).push (seqObj "tuple" vs.toArray 0)).push (seqObj "list" #[] 0)).get? a=some (seqObj "list" #[] e1):=by
  rw[kZ _ _ _ (by rw[size_push',nO];exact bK (jq ha)),kZ _ _ _ (by rw[nO];exact bK ha)]
  exact qu
 show wpAny (model prog w) A _ P E {s with heap:=((s.heap.update a (Obj.mapSeq fun _=> #[])).push (seqObj "tuple" vs.toArray 0)).push (seqObj "list" #[] 0)}
 dsimp only
 have hsz:vs.toArray.size=vs.length:=by simp
 have lX:oV (((s.heap.update a (Obj.mapSeq fun _=> #[])).push (seqObj "tuple" vs.toArray 0)).push (seqObj "list" #[] 0)) cs vs:=⟨hp.1,fun k hk=>by
  have hm:vs.getD k .none∈vs:=by
   have:k<vs.length:=by rw[hp.1];exact hk
   rw[bA,aB this]
   exact dZ _
  refine(hp.2 k hk).keep fun b o e g1=>bw _ (bw _ ?_)
  have hb:b≠a:=fun z=>hna _ hm (by rw[e,z])
  rw[sR _ _ _ _ hb];exact g1⟩
 by_cases h2:vs.toArray.size<2
 ·rw[if_pos h2,if_pos h2]
  refine wpAny_bind (wpAny_pure ?_)
  rw[StateT.run_pure]
  refine wpAny_bind (wpAny_pure ?_)
  dsimp only
  refine wpAny_bind (seqEpoch_at ho6 rfl ?_)
  refine wpAny_bind (listUpdate_at ho6 rfl ?_ (hsz2:=by rw[Array.size_map];show(pairsOf vs).size<=_;rw[pairsOf_size,sizeLine_eq];omega))
  simp only[bne_self_eq_false,jQ,if_false]
  refine wpAny_pure (h _ (List.range vs.length) (.refl _) ?_ ?_)
  ·have e:(Array.map (fun x=>x.2) (vs.toArray.zip vs.toArray)).toList=vs:=by
    rw[Array.toList_map,Array.toList_zip]
    simp[List.map_snd_zip]
   show(Array.map (fun x=>x.2) (vs.toArray.zip vs.toArray)).toList=_
   rw[e]
   refine eH fun k=>?_
   rw[aI]
   by_cases hk:k<vs.length
   ·rw[nE hk,aB hk];simp[hk]
   ·rw[cQ (by omega),cQ (by rw[fU];omega)];rfl
  ·have:vs.length<2:=by omega
   rcases tR vs.length 1 with z|z
   ·rw[show vs.length=0 by omega];exact .nil
   ·rw[show vs.length=1 by omega]
    show List.Pairwise _ [_]
    exact Be _ _
 ·rw[if_neg h2,if_neg h2]
  refine wpAny_bind (Me lX.at (by omega) ?_)
  obtain⟨M,N,FT⟩:=Mz cs
  have j4:∀i,i<vs.length->cs.getD i (0,0,0)∈cs:=fun i hi=>by
   have:i<cs.length:=by rw[<-hp.1];exact hi
   rw[bA,aB this]
   exact dZ _
  refine wpAny_bind (wpAny_mono (kat_run (κ:=tuples' true) (vs:=vs) (ks:=vs) (s:={s with heap:=((s.heap.update a (Obj.mapSeq fun _=> #[])).push (seqObj "tuple" vs.toArray 0)).push (seqObj "list" #[] 0)}) (Q:=fun st' s'=>s'={s with heap:=((s.heap.update a (Obj.mapSeq fun _=> #[])).push (seqObj "tuple" vs.toArray 0)).push (seqObj "list" #[] 0)}/\failedOf st'=none/\∃ix:List Nat,ix.Perm (List.range vs.length)/\((arrOf st').map (·.2)).toList=ix.map (fun i=>vs.getD i .none)/\(ix.map fun i=>cs.getD i (0,0,0)).Pairwise (fun c d=>gf d c=false))
   (G:=fun p s'=>s'={s with heap:=((s.heap.update a (Obj.mapSeq fun _=> #[])).push (seqObj "tuple" vs.toArray 0)).push (seqObj "list" #[] 0)}/\VP vs.length p/\So (fun i=>pF M N (cs.getD i (0,0,0))) p vs.length) rfl (by omega) h64 (fun p st' s' g1 g2 g3 ⟨g4,g5,g6⟩=>⟨g4,g3,p.toList,g5,?_,?_⟩) (Fq (n:=vs.length) (key:=fun i=>pF M N (cs.getD i (0,0,0))) (by omega) (fun i j C hi hj hC=>?_) fun p hp hs=>⟨rfl,hp,hs⟩)) ?_ fun _ _ e=>e)
  ·rw[kat_snds rfl g2]
  ·rw[pW]
   have hps:=g5.length_eq
   rw[fU,gb] at hps
   rw[qa]
   intro i j hi hj hij
   rw[gb] at hi hj
   have:=g6 i j (by omega) (by omega)
   unfold aX at this
   have ei:p.getD i 0=p.toList[i]:=by simp[Array.getD,hi]
   have ej:p.getD j 0=p.toList[j]:=by simp[Array.getD,hj]
   rw[ei,ej] at this
   dsimp only at this
   have li:p.toList[i]<vs.length:=fQ.mp (g5.mem_iff.mp (dZ _))
   have lj:p.toList[j]<vs.length:=fQ.mp (g5.mem_iff.mp (dZ _))
   rw[FT _ (j4 _ lj) _ (j4 _ li)]
   apply decide_eq_false
   omega
  ·rw[kat_ask_eq (vs:=vs) rfl]
   unfold kas_cmp
   rw[kat_item rfl,kat_item rfl]
   refine Mf (lX.2 i (by rw[<-hp.1];exact hi)) (lX.2 j (by rw[<-hp.1];exact hj)) ?_
   rw[FT _ (j4 _ hi) _ (j4 _ hj)]
   exact hC
  rintro⟨⟨⟩,st'⟩ s' ⟨rfl,hf,ix,hs,hs2,hs3⟩
  dsimp only
  refine wpAny_bind (seqEpoch_at ho6 rfl ?_)
  refine wpAny_bind (listUpdate_at ho6 rfl ?_ (hsz2:=by
   have e:=congrArg List.length hs2
   rw[gb,aj,hs.length_eq,fU] at e
   rw[sizeLine_eq]
   have e':(Array.map (fun x=>x.2) (arrOf st')).size=vs.length:=e
   omega))
  rw[hf]
  simp only[bne_self_eq_false,jQ,if_false]
  exact wpAny_pure (h _ ix hs hs2 hs3)
theorem Il{l:Addr}{vs:List Value}{cs:List bN}{Q:Value->Shared->Prop}(hl:s.heap.IsList l vs.toArray)(hp:oV s.heap cs vs)(h64:vs.length<64)
  (h:∀(out:Array Value) (ix:List Nat),ix.Perm (List.range vs.length)->out.toList=ix.map (fun i=>vs.getD i .none)->(ix.map fun i=>cs.getD i (0,0,0)).Pairwise (fun c d=>gf d c=false)->Q (.ref (s.heap.objs.size+1)) {s with heap:=sortedAll s.heap vs out}):
  wpAny (model prog w) A (call (.builtin "sorted") [.ref l]) Q E s:=by
 refine qO kind_sorted plain_sorted entry_sorted (args_sorted1 _) ?_
 unfold Builtin.«sorted»
 refine wpAny_bind (m:=checkCount "sorted" 1 1 _) (wpAny_pure ?_)
 refine wpAny_bind (collect_list hl ?_)
 refine wpAny_bind (wpAny_newList ?_)
 have hsz:((s.heap.push (seqObj "list" #[] 0)).update s.heap.objs.size (Obj.mapSeq (· ++vs.toArray))).objs.size=s.heap.objs.size+1:=by
  rw[nO,size_push']
 have mC:(((s.heap.push (seqObj "list" #[] 0)).update s.heap.objs.size (Obj.mapSeq (· ++vs.toArray))).push (seqObj "list" vs.toArray 0)).get? (s.heap.objs.size+1)=some (seqObj "list" vs.toArray 0):=by
  rw[<-hsz];exact eF _ rfl
 have keep:∀b o,s.heap.get? b=some o->(((s.heap.push (seqObj "list" #[] 0)).update s.heap.objs.size (Obj.mapSeq (· ++vs.toArray))).push (seqObj "list" vs.toArray 0)).get? b=some o:=fun b o q=>by
  have hlt:b<s.heap.objs.size:=aW q
  rw[kZ _ _ _ (by rw[hsz];exact bK (jq hlt)),sR _ _ _ _ (bK hlt),kZ _ _ _ (bK hlt)]
  exact q
 show wpAny _ _ _ _ _ {s with heap:=((s.heap.push (seqObj "list" #[] 0)).update s.heap.objs.size (Obj.mapSeq (· ++vs.toArray))).push (seqObj "list" vs.toArray 0)}
 rw[hsz]
 refine wpAny_bind (wpAny_holding (wpAny_call_entry slot_list_sort ⟨_,mC,rfl⟩ entry_list_sort (Pa mC ⟨hp.1,fun k hk=>(hp.2 k hk).keep fun b o _=>keep b o⟩ (fun v hv z=>?_) h64 fun out ix a1 a2 a3=>⟨_,rfl,?_⟩) (args_list_sort _)))
 ·obtain⟨b,o,i,j,j2,t,u,u2,m,rfl,g1,_⟩:=hp.at v hv
  have:=aW g1
  have z':b=s.heap.objs.size+1:=by cases z;rfl
  rw[z'] at this
  exact absurd this (Nat.not_lt.mpr (jc _))
 ·exact wpAny_pure ⟨_,rfl,h out ix a1 a2 a3⟩
end
def vZ(K:PySem.W.Frag):List V->Hp->VK->Prop:=fun xs H Q=>∃(p:Addr) (ys:List V) (cs:List bN),xs=[.ref p]/\aS K H p ys/\ys.length=cs.length/\ys.length<64/\(∀k,k<cs.length->∃a,ys.getD k (.int 0)= .ref a/\H a=some (.tup [.int (cs.getD k (0,0,0)).1, .int (cs.getD k (0,0,0)).2.1, .int (cs.getD k (0,0,0)).2.2]))/\
 ∀ix:List Nat,ix.Perm (List.range ys.length)->(ix.map fun i=>cs.getD i (0,0,0)).Pairwise (fun c d=>gf d c=false)->∀l,H l=none->Q (.ref l) (upd H l (.lst (ix.map fun i=>ys.getD i (.int 0))))
theorem S6{X:Cx}:eE X (.builtin "sorted") (vZ X.K):=by
  intro pins s σ H xs us Q I rv h
  obtain⟨p,ys,cs,rfl,hp,hyc,h64,hy,q⟩:=h
  obtain⟨u,rfl,ru⟩:=vals1 rv
  cases ru
  obtain⟨its,rs,il,hz⟩:=I.list hp
  have hl:=rs.length
  refine Il (vs:=its) (cs:=cs) il.isList ⟨by omega,fun k hk=>?_⟩ (by omega) fun out ix ho ho2 AR=>?_
  · have hk':k<ys.length:=by omega
    obtain⟨v',hv',oN⟩:=rs.get (i:=k) (x:=ys[k]) (aB hk')
    obtain⟨a,ea,ha⟩:=hy k hk
    rw[bA,aB hk'] at ea
    have ea:ys[k]= .ref a:=ea
    rw[ea] at oN
    rw[bA (l:=its),hv']
    cases oN
    obtain⟨_,its2,qK,o,g1,g2,m,g3⟩:=(show bq X.prog X.w H s.heap a (.tup [.int (cs.getD k (0,0,0)).1, .int (cs.getD k (0,0,0)).2.1, .int (cs.getD k (0,0,0)).2.2]) from I.hok a _ ha)
    cases qK with
    | cons x1 x2 =>
      cases x2 with
      | cons y1 y2 =>
        cases y2 with
        | cons z1 z2 =>
          cases z2
          obtain⟨t,rfl⟩:=x1
          obtain⟨t2,rfl⟩:=y1
          obtain⟨t3,rfl⟩:=z1
          exact⟨a,o,t,t2,t3,m,rfl,g1,g2,g3⟩
  · rw[hl.symm] at ho
    obtain⟨e,ge⟩:=sortedAll_at s.heap its out
    have hlt:∀i∈ix,i<ys.length:=fun i hi=>fQ.mp (ho.mem_iff.mp hi)
    have h1:=A8 rs ix hlt
    rw[<-ho2] at h1
    have new:bq X.prog X.w (upd H (s.heap.objs.size+1) (.lst (ix.map fun i=>ys.getD i (.int 0)))) (sortedAll s.heap its out) (s.heap.objs.size+1) (.lst (ix.map fun i=>ys.getD i (.int 0))):=by
      refine⟨?_,out.toList,e,h1,by simpa using ge⟩
      rw[aj,ho.length_eq,fU];exact dH (ir h64) (by decide)
    exact⟨.ref (s.heap.objs.size+1),_,I.laid (t':=s.toks) (fun b o z=>sortedAll_old z) (jc _) new,rfl,q ix ho AR _ (I.hok.fresh (jc _))⟩
theorem aA.T8{G:Gx}{ρ:Rh}{te:TE}{K:PySem.W.Frag}{Θ:Bool->List PyData->Prop}(h:Ev G ρ te fun f x=>∃cs:List bN,x= .list (cs.map c7)/\cs.length<64/\∀(cs':List bN) (g:Bool),cs'.Perm cs->cs'.Pairwise (fun c d=>gf d c=false)->Θ g (cs'.map c7)):aA G ρ (eS (vZ K) (bx te bR)) Θ:=fun nb σ H Q W z=>
 h nb σ H _ W fun f v H1 x ⟨cs,ex,hn,q⟩ s1 hv=>by
  subst ex
  obtain⟨a,xs,rfl,na,hx,hd⟩:=hv.dJ
  have hl:=hd.length
  rw[aj] at hl
  refine⟨a,xs,cs,rfl, .of hx,hl,by omega,fun k hk=>?_,fun ix hix hr l n5=>?_⟩
  ·have hk':k<xs.length:=by omega
   have hm:xs.getD k (.int 0)∈xs:=by rw[bA,aB hk'];exact dZ _
   have h1:=rM hd k (by rw[aj];exact hk)
   have e:(cs.map c7).getD k .none=c7 (cs.getD k (0,0,0)):=by rw[bA,aI,bA,aB hk];rfl
   rw[e] at h1
   obtain⟨b,ws,eb,n,hx,hd⟩:=h1.ofT
   have:ws=[V.int (cs.getD k (0,0,0)).1,V.int (cs.getD k (0,0,0)).2.1,V.int (cs.getD k (0,0,0)).2.2]:=ly (is:=[(cs.getD k (0,0,0)).1,(cs.getD k (0,0,0)).2.1,(cs.getD k (0,0,0)).2.2]) hd
   subst this
   exact⟨b,eb,hx⟩
  ·rw[hl] at hix
   have hlt:∀i∈ix,i<cs.length:=fun i hi=>fQ.mp (hix.mem_iff.mp hi)
   have e:(ix.map fun i=>(cs.map c7).getD i .none)=(ix.map fun i=>cs.getD i (0,0,0)).map c7:=by
    rw[c6]
    apply e7
    intro i hi
    show(cs.map c7).getD i .none=c7 (cs.getD i (0,0,0))
    rw[bA,aI,bA,aB (hlt i hi)];rfl
   have h2:=wo hd ix fun i hi=>by rw[aj];exact hlt i hi
   rw[e] at h2
   exact aA.fin (f:=f) W s1 n5 h2 (q _ _ (Gk hix) hr) z
end L2
set_option maxRecDepth 100000
set_option maxHeartbeats 4000000
namespace L2
open PySem PySem.Spec PyProof.Rows
theorem lay_ints{ns:List Int}(h:ns.length<=10000)(hb:∀x∈ns,0<=x/\x<1048576):PyData.layable0 (.list (ns.map .int))=true:=by
  have h1:PyData.depthAll (ns.map PyData.int)=0/\PyData.canLayAll0 (ns.map PyData.int)=true/\PyData.weightAll (ns.map PyData.int)<=22*ns.length:=by
    clear h
    induction ns with
    |nil=>simp[PyData.depthAll,PyData.canLayAll0,PyData.weightAll]
    | cons a r ih =>
      obtain⟨h1,h2,h3⟩:=ih fun x hx=>hb x (cA _ hx)
      refine⟨by simp[PyData.depthAll,PyData.depth,h1],by simp[PyData.canLayAll0,PyData.canLay0,h2],?_⟩
      rw[bF,ko]
      simp only[PyData.weightAll,PyData.weight]
      obtain⟨a0,a1⟩:=hb a bG
      split
      · omega
      · rename_i hz
        have:a.natAbs.log2<20:=(yL (by simp at hz;omega)).mpr (by show a.natAbs<1048576;omega)
        omega
  obtain⟨h1,h2,h3⟩:=h1
  unfold PyData.layable0
  simp only[PyData.canLay0,PyData.depth,PyData.weight,h1,h2,mW,cK,decide_eq_true_eq]
  exact⟨by decide,decide_eq_true (by show _<=1048576;omega)⟩
section
variable{X:Cx}
def Bu:V->List V->Hp->VK->Prop:=fun x vs H Q=>∃(l:Addr) (ns:List Int) (k:Int),x= .ref l/\vs=[.int k]/\H l=some (.lst (ns.map .int))/\ns.length<=10000/\(∀x∈ns,0<=x/\x<1048576)/\k∈ns/\Q (.int (ns.idxOf k:Nat)) H
theorem Rm:nu X "list.index" Bu:=by
 intro pins s σ H x vs v us Q I rx rv h
 obtain⟨l,ns,k,rfl,rfl,hH,hl,hb,hk,q⟩:=h
 cases rx
 obtain⟨u,rfl,ru⟩:=rv.one
 obtain⟨t,rfl⟩:=ru
 obtain⟨z,its,n,r,hl2,e⟩:=I.l6 hH
 refine index_list_ints ⟨_,e,rfl,n,rfl⟩ (rJ r) (lay_ints hl hb) hk ?_
 exact⟨.int (ns.idxOf k:Nat),H,I.tok _,⟨_,rfl⟩,q⟩
end
section
variable{G:Gx}{ρ:Rh}{ta tb:TE}{Φ:Pd}{K:PySem.W.Frag}
theorem Ev.idx(h:Ev G ρ ta fun _ x=>∃ns:List Int,x= .list (ns.map .int)/\ns.length<=10000/\(∀x∈ns,0<=x/\x<1048576)/\Ev G ρ tb fun _ y=>∃k,y= .int k/\k∈ns/\Φ true (.int (ns.idxOf k:Nat))):Ev G ρ (kj K "list" Bu ta (bx tb bR)) Φ:=fun nb σ H Q W z=>
 h nb σ H _ W fun f v H1 d ⟨ns,e,hn,hb,q⟩ s1 hv=>by
  subst e
  obtain⟨a0,Uy,rfl,UN,Mb,hd0⟩:=hv.dJ
  refine⟨.inl ⟨rfl,_,aS.of Mb⟩,q nb σ H1 _ (W.step s1) fun g u H2 y ⟨k,ey,hk,p⟩ s2 hu=>?_⟩
  subst ey
  have hk2:=hu.bX
  subst hk2
  obtain⟨a,xs,e1,na,hx,hd⟩:=(hv.keep s2.dz).dJ
  cases e1
  have ex:=ly hd
  subst ex
  exact⟨a0,ns,k,rfl,rfl,hx,hn,hb,hk,z true _ H2 _ p (s1.trans s2) (.int _)⟩
end
end L2
set_option maxRecDepth 100000
set_option maxHeartbeats 4000000
namespace L2
open PySem PySem.Spec PyProof.Rows
structure cB(O:List Int)(n:Nat):Prop where
 nd:O.Nodup
 len:O.length=n
 rg:∀x∈O,0<=x/\x<n
def aT(O:List Int)(i:Nat):Int:=O.getD i 0
theorem cB.at{O:List Int}{n:Nat}(h:cB O n){i:Nat}(hi:i<n):O[i]?=some (aT O i):=by
 unfold aT
 rw[bA,aB (by rw[h.len];exact hi)];rfl
theorem cB.lt{O:List Int}{n:Nat}(h:cB O n){i:Nat}(hi:i<n):0<=aT O i/\aT O i<n:=h.rg _ (dN (h.at hi))
theorem Gd{α:Type}{l:List α}(h:l.Nodup){i j:Nat}{a:α}(hi:l[i]?=some a)(hj:l[j]?=some a):i=j:=by
 obtain⟨i1,e1⟩:=bh.mp hi
 obtain⟨j1,e2⟩:=bh.mp hj
 by_cases c:i=j
 ·exact c
 ·exfalso
  rcases Nat.lt_or_gt_of_ne c with c|c
  ·exact qa.mp h i j i1 j1 c (e1.trans e2.symm)
  ·exact qa.mp h j i j1 i1 c (e2.trans e1.symm)
theorem cB.inj{O:List Int}{n:Nat}(h:cB O n){i j:Nat}(hi:i<n)(hj:j<n)(e:aT O i=aT O j):i=j:=Gd h.nd (h.at hi) (by rw[h.at hj,e])
theorem cB.perm{O:List Int}{n:Nat}(h:cB O n):(O.map Int.toNat).Perm (List.range n):=by
 have nd:(O.map Int.toNat).Nodup:=by
  refine pW.mpr (h.nd.imp_of_mem fun{a b} ha hb hab z=>hab ?_)
  have:=h.rg a ha;have:=h.rg b hb;omega
 have hs:∀x∈O.map Int.toNat,x∈List.range n:=fun x hx=>by
  obtain⟨y,hy,rfl⟩:=bU.mp hx
  have:=h.rg y hy
  exact fQ.mpr (by omega)
 refine(List.perm_ext_iff_of_nodup nd xh).mpr fun j=>⟨hs j,fun hj=>iI fun z=>?_⟩
 have h1:(j::O.map Int.toNat).Nodup:=gV.mpr ⟨z,nd⟩
 have h2:=nG h1 (l₂:=List.range n) fun x hx=>by
  rcases aH.mp hx with e|e
  ·rw[e];exact hj
  ·exact hs x e
 rw[ko,aj,fU,h.len] at h2
 omega
theorem cB.ex{O:List Int}{n:Nat}(h:cB O n){j:Nat}(hj:j<n):∃i,i<n/\aT O i=j:=by
 have:=(h.perm.mem_iff (a:=j)).mpr (fQ.mpr hj)
 obtain⟨y,hy,e⟩:=bU.mp this
 obtain⟨i,hi⟩:=je hy
 have hil:i<n:=by have:=(bh.mp hi).1;rw[h.len] at this;exact this
 refine⟨i,hil,?_⟩
 have:=h.at hil
 rw[hi] at this
 have:=h.rg y hy
 cases this
 have e2:y=aT O i:=by rw[h.at hil] at hi;cases hi;rfl
 omega
def yW(p t:Int):Prop:=∃u k:Int,t*u=1+p*k
def Rn(p:Int)(O:List Int)(prs jN:ao):Prop:=∃t,yW p t/\jN.Perm (prs.map fun pr=>(aT O pr.1.toNat,pr.2*t%p))
structure WR(O:List Int)(wd jt:List (Option Int)):Prop where
 l:wd.length=O.length
 l':jt.length=O.length
 e:∀i,i<O.length->jt[(aT O i).toNat]?=wd[i]?
theorem HY{a b:List Int}(h:a.Perm b):a.sum=b.sum:=by
 induction h with
 |nil=>rfl
 |cons x _ ih=>rw[nV,nV,ih]
 |swap x y l=>rw[nV,nV,nV,nV];omega
 |trans _ _ h1 h2=>exact h1.trans h2
theorem Nk{a b:ao}{wd:List (Option Int)}(h:a.Perm b):bJ a wd=bJ b wd:=by unfold bJ;exact HY (h.map _)
theorem Dl{p t:Int}{O:List Int}{wd jt:List (Option Int)}(hw:WR O wd jt):∀{prs:ao},(∀pr∈prs,0<=pr.1/\pr.1<O.length)->∃k,bJ (prs.map fun pr=>(aT O pr.1.toNat,pr.2*t%p)) jt=t*bJ prs wd+p*k
  |[],_=>⟨0,by unfold bJ;simp⟩
  | pr :: prs, h => by
    obtain⟨k,hk⟩:=Dl (t:=t) hw (prs:=prs) fun q hq=>h q (cA _ hq)
    obtain⟨h0,h1⟩:=h pr bG
    have he:=hw.e pr.1.toNat (by omega)
    have ht:∃j,fZ jt (aT O pr.1.toNat,pr.2*t%p)=t*fZ wd pr+p*j:=by
      unfold fZ
      rw[he]
      cases wd[pr.1.toNat]? with
      |none=>exact⟨0,by simp⟩
      | some o =>
        cases o with
        |none=>exact⟨0,by simp⟩
        | some x =>
          refine⟨-(pr.2*t/p)*x,?_⟩
          have:pr.2*t%p=pr.2*t-p*(pr.2*t/p):=Int.emod_def ..
          show pr.2*t%p*x=t*(pr.2*x)+p*_
          rw[this]
          grind
    obtain⟨j,hj⟩:=ht
    refine⟨k+j,?_⟩
    show fZ jt _+bJ _ jt=t*(fZ wd pr+bJ prs wd)+_
    rw[hk,hj]
    grind
theorem D3{p t a:Int}(h:yW p t):(t*a)%p=0↔a%p=0:=by
 obtain⟨u,k,hu⟩:=h
 constructor
 ·intro z
  obtain⟨j,hj⟩:=zP z
  refine pI ⟨u*j-k*a,?_⟩
  have:(t*u)*a=(1+p*k)*a:=by rw[hu]
  grind
 ·intro z
  obtain⟨j,hj⟩:=zP z
  exact pI ⟨t*j,by rw[hj];grind⟩
theorem Rn.zero{p:Int}{O:List Int}{prs jN:ao}{wd jt:List (Option Int)}(h:Rn p O prs jN)(hw:WR O wd jt)(hr:∀pr∈prs,0<=pr.1/\pr.1<O.length):bJ jN jt%p=0↔bJ prs wd%p=0:=by
 obtain⟨t,ht,hp⟩:=h
 obtain⟨k,hk⟩:=Dl (p:=p) (t:=t) hw hr
 rw[Nk hp,hk,Cj]
 exact D3 ht
theorem Rn.mem{p:Int}{O:List Int}{n:Nat}{prs jN:ao}(h:Rn p O prs jN)(hO:cB O n)(hr:∀pr∈prs,0<=pr.1/\pr.1<n){i:Nat}(hi:i<n):aT O i∈jN.map (·.1)↔(i:Int)∈prs.map (·.1):=by
 obtain⟨t,ht,hp⟩:=h
 rw[(hp.map (·.1)).mem_iff,c6]
 constructor
 ·intro z
  obtain⟨pr,bC,e⟩:=bU.mp z
  obtain⟨h0,h1⟩:=hr pr bC
  have:=hO.inj (i:=pr.1.toNat) (j:=i) (by omega) hi e
  exact bU.mpr ⟨pr,bC,by omega⟩
 ·intro z
  obtain⟨pr,bC,e⟩:=bU.mp z
  refine bU.mpr ⟨pr,bC,?_⟩
  show aT O pr.1.toNat=_
  rw[show pr.1.toNat=i by omega]
theorem Rn.MN{p:Int}{O:List Int}{n:Nat}{prs jN:ao}(h:Rn p O prs jN)(hO:cB O n)(hp:eK p)(hq:iH p n prs):iH p n jN:=by
 obtain⟨t,⟨u,k,hu⟩,iz⟩:=h
 have p2:=hp.1
 refine⟨?_,by rw[iz.length_eq,aj];exact hq.2.1,fun pr bC=>?_⟩
 ·rw[(iz.map (·.1)).nodup_iff,c6]
  have:=hq.1
  rw[List.nodup_iff_pairwise_ne,pW] at this⊢
  refine this.imp_of_mem fun{a b} ha hb hab z=>hab ?_
  obtain⟨a0,a1,_⟩:=hq.2.2 a ha
  obtain⟨b0,b1,_⟩:=hq.2.2 b hb
  have:=hO.inj (i:=a.1.toNat) (j:=b.1.toNat) (by omega) (by omega) z
  omega
 ·obtain⟨q,hq2,rfl⟩:=bU.mp (iz.mem_iff.mp bC)
  obtain⟨a0,a1,a2,a3⟩:=hq.2.2 q hq2
  have hl:=hO.lt (i:=q.1.toNat) (by omega)
  refine⟨hl.1,hl.2,?_,fY _ (by omega)⟩
  have h0:=gm (q.2*t) (show p≠0 by omega)
  have hne:q.2*t%p≠0:=fun z=>by
   have z2:(t*q.2)%p=0:=by rw[pN];exact z
   have:=(D3 (a:=q.2) ⟨u,k,hu⟩).mp z2
   rw[m7 (by omega) a3] at this
   omega
  show 1<=q.2*t%p
  omega
def NR(p:Int)(O:List Int)(cs cs':List ao):Prop:=∃cq:List ao,cq.Perm cs/\cq.length=cs'.length/\∀(k:Nat) a b,cq[k]?=some a->cs'[k]?=some b->Rn p O a b
theorem BF{P P':ao->Bool}:∀{a b:List ao},a.length=b.length->(∀(k:Nat) x y,a[k]?=some x->b[k]?=some y->P' y=P x)->b.countP P'=a.countP P
  |[],[],_,_=>rfl
  | x :: a, y :: b, hl, h => by
    rw[List.countP_cons,List.countP_cons,BF (a:=a) (b:=b) (by simpa using hl) fun k u v e1 e2=>h (k+1) u v (by simpa using e1) (by simpa using e2),h 0 x y rfl rfl]
theorem NR.countP{p:Int}{O:List Int}{cs cs':List ao}{P P':ao->Bool}(h:NR p O cs cs')(hP:∀a∈cs,∀b,Rn p O a b->P' b=P a):cs'.countP P'=cs.countP P:=by
 obtain⟨cq,h1,h2,h3⟩:=h
 rw[BF h2 fun k x y e1 e2=>hP x (h1.mem_iff.mp (dN e1)) y (h3 k x y e1 e2)]
 exact h1.countP_eq _
theorem NR.all{p:Int}{O:List Int}{cs cs':List ao}(h:NR p O cs cs'){b:ao}(hb:b∈cs'):∃a∈cs,Rn p O a b:=by
 obtain⟨cq,h1,h2,h3⟩:=h
 obtain⟨k,hk⟩:=je hb
 have jK:k<cq.length:=by have:=(bh.mp hk).1;omega
 exact⟨cq[k],h1.mem_iff.mp (dZ _),h3 k _ b (aB jK) hk⟩
theorem NR.len{p:Int}{O:List Int}{cs cs':List ao}(h:NR p O cs cs'):cs'.length=cs.length:=by
 obtain⟨cq,h1,h2,h3⟩:=h
 rw[<-h2,h1.length_eq]
theorem NR.FO{p n:Int}{O:List Int}{cs cs':List ao}(h:NR p O cs cs')(hO:cB O n.toNat)(hV:fG p n cs):fG p n cs':=⟨hV.hp,hV.gK,hV.n0,hV.n1,by rw[h.len];exact hV.cl,fun b hb=>by
 obtain⟨a,ha,hr⟩:=h.all hb
 exact hr.MN hO hV.hp (hV.ok a ha)⟩
def WI(O:List Int)(ws aC:List Int):Prop:=WR O (ws.map some) (aC.map some)
theorem WI.of{O ws aC:List Int}(l:ws.length=O.length)(l':aC.length=O.length)(e:∀i,i<O.length->aC.getD (aT O i).toNat 0=ws.getD i 0){n:Nat}(hO:cB O n):WI O ws aC:=by
 refine⟨by rw[aj];exact l,by rw[aj];exact l',fun i hi=>?_⟩
 have h1:=e i hi
 have hl:=hO.lt (i:=i) (by rw[<-hO.len];exact hi)
 have hl2:=hO.len
 rw[bA,bA,aB (show(aT O i).toNat<aC.length by omega),aB (show i<ws.length by omega)] at h1
 rw[aI,aI,aB (show(aT O i).toNat<aC.length by omega),aB (show i<ws.length by omega)]
 have h1:aC[(aT O i).toNat]=ws[i]:=h1
 rw[h1]
theorem WI.at{O ws aC:List Int}(h:WI O ws aC){i:Nat}(hi:i<O.length):aC[(aT O i).toNat]?=ws[i]?:=by
 have:=h.e i hi
 rw[aI,aI] at this
 cases h1:aC[(aT O i).toNat]?<;>cases h2:ws[i]?<;>rw[h1,h2] at this<;>simp_all
theorem WI.getD{O ws aC:List Int}(h:WI O ws aC){i:Nat}(hi:i<O.length):aC.getD (aT O i).toNat 0=ws.getD i 0:=by
 rw[bA,bA,h.at hi]
theorem WI.set{O ws aC:List Int}{n:Nat}(hO:cB O n)(h:WI O ws aC){i:Nat}(hi:i<n){x:Int}:WI O (ws.set i x) (aC.set (aT O i).toNat x):=by
 have hl:=h.l;have hl':=h.l'
 rw[aj] at hl hl'
 have hn:=hO.len
 refine WI.of (by rw[gv];exact hl) (by rw[gv];exact hl') (fun j hj=>?_) hO
 have hji:=hO.lt (i:=i) hi
 have Vf:=hO.lt (i:=j) (by omega)
 rw[bA,bA]
 by_cases c:j=i
 ·subst c
  rw[cN (by omega),cN (by omega)]
 ·have hne:(aT O i).toNat≠(aT O j).toNat:=fun z=>c (hO.inj (by omega) hi (by omega))
  rw[bE hne,bE (fun z=>c z.symm),h.at hj]
theorem WI.uniq{O ws a b:List Int}{n:Nat}(hO:cB O n)(ha:WI O ws a)(hb:WI O ws b):a=b:=by
 have l1:=ha.l';have l2:=hb.l'
 rw[aj] at l1 l2
 have hn:=hO.len
 apply eH
 intro j
 by_cases hj:j<n
 ·obtain⟨i,hi,e⟩:=hO.ex hj
  have h1:=ha.at (i:=i) (by omega)
  have h2:=hb.at (i:=i) (by omega)
  rw[e,iT] at h1 h2
  rw[h1,h2]
 ·rw[cQ (by omega),cQ (by omega)]
section
variable{p n:Int}{O:List Int}{cs cs':List ao}{ws aC:List Int}
theorem Fz(hV:fG p n cs){prs:ao}(h:prs∈cs):∀pr∈prs,0<=pr.1/\pr.1<n.toNat:=fun pr bC=>let ⟨a,b,_⟩:=(hV.ok prs h).2.2 pr bC;⟨a,b⟩
theorem GI(hO:cB O n.toNat)(hV:fG p n cs)(h:NR p O cs cs')(hw:WI O ws aC):brk p cs' aC=brk p cs ws:=by
 unfold brk
 refine h.countP fun a ha b hab=>decide_eq_decide.mpr (not_congr (hab.zero hw ?_))
 rw[hO.len]
 exact Fz hV ha
theorem O6(hO:cB O n.toNat)(hV:fG p n cs)(h:NR p O cs cs')(hw:WI O ws aC){i:Nat}(hi:i<n.toNat){x:Int}:nY p cs' aC (aT O i).toNat x=nY p cs ws i x:=by
 unfold nY
 refine h.countP fun a ha b hab=>?_
 have hr:=Fz hV ha
 have hl:=hO.lt hi
 have h1:=hab.mem hO hr hi
 rw[show(((aT O i).toNat:Nat):Int)=aT O i by omega,decide_eq_decide.mpr h1,decide_eq_decide.mpr (hab.zero (hw.set hO hi) (by rw[hO.len];exact hr))]
theorem DI(hO:cB O n.toNat)(hV:fG p n cs)(h:NR p O cs cs')(hw:WI O ws aC){i:Nat}(hi:i<n.toNat):(dR p cs' aC (aT O i)).Perm (dR p cs ws (i:Int)):=by
 have hl:=hO.lt hi
 have l1:=hw.l;have l2:=hw.l'
 rw[aj,hO.len] at l1 l2
 have p2:=hV.hp.1
 refine List.perm_iff_count.mpr fun x=>?_
 by_cases hx:0<=x/\x<p
 ·have e1:=EJ (cs:=cs') (ws:=aC) (pl:=(aT O i).toNat) (x:=x) hV.hp (fun prs hp=>by rw[l2];exact(h.FO hO hV).ok prs hp) (by omega) hx.1 hx.2
  have e2:=EJ (cs:=cs) (ws:=ws) (pl:=i) (x:=x) hV.hp (fun prs hp=>by rw[l1];exact hV.ok prs hp) (by omega) hx.1 hx.2
  rw[show(((aT O i).toNat:Nat):Int)=aT O i by omega] at e1
  rw[e1,e2]
  exact O6 hO hV h hw hi
 ·rw[AB.mpr fun z=>hx (sQ (by omega) x z),AB.mpr fun z=>hx (sQ (by omega) x z)]
end
theorem Jg{L L':List Int}{w:Int}(h:L'.Perm L):jw L' w=jw L w:=by
  have hg:cS L' w=cS L w:=funext fun x=>by unfold cS;rw[h.length_eq,h.count_eq]
  unfold jw
  rw[hg]
  have hf:=h.filter (cS L w)
  cases e:L.filter (cS L w) with
  |nil=>rw[e] at hf;rw[hf.eq_nil]
  | cons a r =>
    cases e2:L'.filter (cS L w) with
    |nil=>rw[e,e2] at hf;exact absurd hf.symm.eq_nil (by simp)
    | cons b r2 =>
      have ha:a∈L.filter (cS L w):=by rw[e];exact bG
      have hb:b∈L'.filter (cS L w):=by rw[e2];exact bG
      have:=EX (ki.mp ha).2 (ki.mp hb).2
      subst this
      rfl
def gY(O:List Int)(t:bN):bN:=(aT O t.1.toNat,t.2.1,t.2.2)
section
variable{p n:Int}{O:List Int}{cs cs':List ao}{ws aC:List Int}
theorem NV(hO:cB O n.toNat)(hV:fG p n cs)(h:NR p O cs cs')(hw:WI O ws aC){i:Nat}(hi:i<n.toNat):iP p cs' aC (aT O i).toNat=(iP p cs ws i).map (gY O):=by
 have hl:=hO.lt hi
 unfold iP
 have hg:=hw.getD (i:=i) (by rw[hO.len];exact hi)
 rw[show(((aT O i).toNat:Nat):Int)=aT O i by omega,hg,Jg (DI hO hV h hw hi),c6]
 refine e7 fun x _=>?_
 show _=gY O ((i:Int),_,x)
 unfold gY
 rw[iT]
theorem ML(hO:cB O n.toNat)(hV:fG p n cs)(h:NR p O cs cs')(hw:WI O ws aC):(br p cs' aC n.toNat).Perm ((br p cs ws n.toNat).map (gY O)):=by
 unfold br
 rw[List.map_flatMap]
 have e:(List.range n.toNat).flatMap (fun i=>(iP p cs ws i).map (gY O))=(O.map Int.toNat).flatMap (iP p cs' aC):=by
  have hl:=hO.len
  have e1:O.map Int.toNat=(List.range n.toNat).map fun i=>(aT O i).toNat:=by
   apply eH
   intro k
   rw[aI,aI]
   by_cases hk:k<n.toNat
   ·rw[hO.at hk,nE hk];rfl
   ·rw[cQ (by omega),cQ (by rw[fU];omega)];rfl
  rw[e1,List.flatMap_map]
  rw[List.flatMap_def,List.flatMap_def]
  exact congrArg List.flatten (e7 fun i hi=>(NV hO hV h hw (fQ.mp hi)).symm)
 rw[e]
 exact hO.perm.symm.flatMap_right _
end
theorem HB{α:Type}{R:α->α->Prop}(anti:∀a b,R a b->R b a->a=b):∀{a b:List α},a.Perm b->a.Pairwise R->b.Pairwise R->a=b
  |[],b,h,_,_=>h.nil_eq
  |x::a,[],h,_,_=>absurd h.eq_nil (by simp)
  | x :: a, y :: b, h, ha, hb => by
    rw[tU] at ha hb
    have e:x=y:=by
      have h1:x∈y::b:=h.mem_iff.mp bG
      have h2:y∈x::a:=h.mem_iff.mpr bG
      rcases aH.mp h1 with z|z
      · exact z
      rcases aH.mp h2 with y'|y'
      · exact y'.symm
      exact anti x y (ha.1 y y') (hb.1 x z)
    subst e
    rw[HB anti h.cons_inv ha.2 hb.2]
theorem N5(a b:bN)(h1:gf b a=false)(h2:gf a b=false):a=b:=by
 obtain⟨a1,a2,a3⟩:=a
 obtain⟨b1,b2,b3⟩:=b
 unfold gf i6 at h1 h2
 dsimp only at h1 h2
 by_cases e:a1=b1
 ·subst e
  rw[if_pos rfl] at h1 h2
  by_cases e:a2=b2
  ·subst e
   rw[if_pos rfl] at h1 h2
   have:=of_decide_eq_false h1
   have:=of_decide_eq_false h2
   rw[show a3=b3 by omega]
  ·rw[if_neg (fun z=>e z.symm)] at h1
   rw[if_neg e] at h2
   have:=of_decide_eq_false h1
   have:=of_decide_eq_false h2
   omega
 ·rw[if_neg (fun z=>e z.symm)] at h1
  rw[if_neg e] at h2
  have:=of_decide_eq_false h1
  have:=of_decide_eq_false h2
  omega
theorem LJ{a b:bN}(h:a.1<b.1):gf b a=false:=by
 unfold gf
 rw[if_neg (by omega)]
 exact decide_eq_false (by omega)
theorem Ag{p:Int}{cs:List ao}{ws:List Int}:∀m,(br p cs ws m).Pairwise fun a b=>a.1<b.1
  |0=>List.Pairwise.nil
  | m + 1 => by
    rw[yR]
    refine List.pairwise_append.mpr ⟨Ag m,?_,fun a ha b hb=>?_⟩
    · unfold iP jw
      cases (List.filter _ _) with
      |nil=>exact List.Pairwise.nil
      |cons x r=>exact Be _ _
    · obtain⟨i,hi,e,_⟩:=pZ ha
      unfold iP at hb
      obtain⟨x,_,rfl⟩:=bU.mp hb
      show a.1<(m:Int)
      omega
theorem qX:∀{ts:List bN} {ws:List Int} {i:Nat},(∀t∈ts,t.1.toNat≠i)->(c9 ws ts)[i]?=ws[i]?
  |[],_,_,_=>rfl
  | t :: ts, ws, i, h => by
    show(c9 (ws.set t.1.toNat t.2.2) ts)[i]?=_
    rw[qX fun q hq=>h q (cA _ hq),bE (h t bG)]
theorem wC:∀{ts:List bN} {ws:List Int} {t:bN},(ts.Pairwise fun a b=>a.1.toNat≠b.1.toNat)->t∈ts->t.1.toNat<ws.length->(c9 ws ts)[t.1.toNat]?=some t.2.2
  |[],_,_,_,h,_=>nomatch h
  | u :: ts, ws, t, hp, h, hl => by
    rw[tU] at hp
    show(c9 (ws.set u.1.toNat u.2.2) ts)[t.1.toNat]?=_
    rcases aH.mp h with e|e
    · subst e
      rw[qX fun q hq z=>hp.1 q hq z.symm,cN hl]
    · exact wC hp.2 e (by rw[gv];exact hl)
structure qk(O:List Int)(ts ts':List bN):Prop where
 p:ts'.Perm (ts.map (gY O))
 r:ts'.Pairwise fun a b=>a.1<b.1
theorem toNat_ne{ts:List bN}(h0:∀t∈ts,0<=t.1)(h:ts.Pairwise fun a b=>a.1<b.1):ts.Pairwise fun a b=>a.1.toNat≠b.1.toNat:=h.imp_of_mem fun{a b} ha hb hab=>by have:=h0 a ha;have:=h0 b hb;omega
theorem WI.round{O ws aC:List Int}{n:Nat}{ts ts':List bN}(hO:cB O n)(hw:WI O ws aC)(ht:qk O ts ts')(hr:ts.Pairwise fun a b=>a.1<b.1)(h0:∀t∈ts,0<=t.1/\t.1<n):WI O (c9 ws ts) (c9 aC ts'):=by
 have hl:=hw.l;have hl':=hw.l'
 rw[aj] at hl hl'
 have hn:=hO.len
 have h0':∀t∈ts',0<=t.1/\t.1<n:=fun t hm=>by
  obtain⟨q,hq,rfl⟩:=bU.mp (ht.p.mem_iff.mp hm)
  have:=h0 q hq
  exact hO.lt (i:=q.1.toNat) (by omega)
 refine⟨by rw[aj,l7];exact hl,by rw[aj,l7];exact hl',fun i hi=>?_⟩
 rw[aI,aI]
 refine congrArg (Option.map some) ?_
 have hli:=hO.lt (i:=i) (by omega)
 by_cases c:∃t∈ts,t.1.toNat=i
 ·obtain⟨t,hm,e⟩:=c
  have h1:=wC (ws:=ws) (toNat_ne (fun t h=>(h0 t h).1) hr) hm (by have:=h0 t hm;omega)
  have hm':gY O t∈ts':=ht.p.mem_iff.mpr (gW hm)
  have hk:=h0' _ hm'
  have h2:=wC (ws:=aC) (toNat_ne (fun t h=>(h0' t h).1) ht.r) hm' (by omega)
  rw[e] at h1
  have e2:(gY O t).1=aT O i:=by unfold gY;rw[e]
  rw[e2] at h2
  rw[h1,h2]
  rfl
 ·rw[qX fun t hm z=>c ⟨t,hm,z⟩,qX fun t hm z=>?_]
  ·exact hw.at hi
  ·obtain⟨q,hq,rfl⟩:=bU.mp (ht.p.mem_iff.mp hm)
   have U5:=h0 q hq
   have UK:=hO.lt (i:=q.1.toNat) (by omega)
   have z:(aT O q.1.toNat).toNat=(aT O i).toNat:=z
   exact c ⟨q,hq,hO.inj (by omega) (by omega) (by omega)⟩
theorem xB{p n:Int}{O:List Int}{cs cs':List ao}{ws aC:List Int}(hO:cB O n.toNat)(hV:fG p n cs)(h:NR p O cs cs')(hw:WI O ws aC):qk O (br p cs ws n.toNat) (br p cs' aC n.toNat):=⟨ML hO hV h hw,Ag _⟩
theorem yz{p:Int}{cs:List ao}{ws:List Int}{m:Nat}:∀t∈br p cs ws m,0<=t.1/\t.1<m:=fun t ht=>by
 obtain⟨i,hi,e,_⟩:=pZ ht
 omega
theorem Cc{p n:Int}{O:List Int}{cs cs':List ao}{ws aC:List Int}(hO:cB O n.toNat)(hV:fG p n cs)(h:NR p O cs cs')(hw:WI O ws aC):WI O (c9 ws (br p cs ws n.toNat)) (c9 aC (br p cs' aC n.toNat)):=hw.round hO (xB hO hV h hw) (Ag _) yz
structure M1(O:List Int)(r r':List Int×List (List bN)×Str):Prop where
 w:WI O r.1 r'.1
 l:r'.2.1.length=r.2.1.length
 t:∀(k:Nat) a b,r.2.1[k]?=some a->r'.2.1[k]?=some b->qk O a b
 e:r'.2.2=r.2.2
theorem Fw{p n:Int}{O:List Int}{cs cs':List ao}(hO:cB O n.toNat)(hV:fG p n cs)(h:NR p O cs cs'):∀(k:Nat) {ws aC:List Int},WI O ws aC->M1 O (cF p cs n.toNat k ws) (cF p cs' n.toNat k aC)
  | 0, ws, aC, hw => by
    have hb:=GI hO hV h hw
    by_cases c:brk p cs ws=0
    · rw[mL c,mL (by rw[hb];exact c)]
      exact⟨hw,rfl,fun k a b z=>by simp at z,rfl⟩
    · rw[uO c,uO (by rw[hb];exact c)]
      exact⟨hw,rfl,fun k a b z=>by simp at z,rfl⟩
  | k + 1, ws, aC, hw => by
    have hb:=GI hO hV h hw
    have ht:=xB hO hV h hw
    by_cases c:brk p cs ws=0
    · rw[mL c,mL (by rw[hb];exact c)]
      exact⟨hw,rfl,fun k a b z=>by simp at z,rfl⟩
    by_cases c2:br p cs ws n.toNat=[]
    · have c3:br p cs' aC n.toNat=[]:=by
        have:=ht.p
        rw[c2] at this
        exact this.eq_nil
      rw[pK c c2,pK (by rw[hb];exact c) c3]
      exact⟨hw,rfl,fun k a b z=>by simp at z,rfl⟩
    · have c3:br p cs' aC n.toNat≠[]:=fun z=>by
        have:=ht.p
        rw[z] at this
        exact c2 (List.map_eq_nil_iff.mp this.symm.eq_nil)
      rw[p6 c c2,p6 (by rw[hb];exact c) c3]
      have ih:=Fw hO hV h k (Cc hO hV h hw)
      refine⟨ih.w,by show _+1=_+1;rw[ih.l],fun j a b e1 e2=>?_,ih.e⟩
      cases j with
      | zero =>
        have e1:some (br p cs ws n.toNat)=some a:=e1
        have e2:some (br p cs' aC n.toNat)=some b:=e2
        cases e1;cases e2
        exact ht
      |succ j=>exact ih.t j a b e1 e2
theorem qk.uniq{O:List Int}{ts ts' xs:List bN}(h:qk O ts ts')(hp:xs.Perm (ts.map (gY O)))(hs:xs.Pairwise fun c d=>gf d c=false):xs=ts':=HB N5 (hp.trans h.p.symm) hs (h.r.imp fun z=>LJ z)
end L2
set_option maxRecDepth 100000
set_option maxHeartbeats 4000000
set_option maxRecDepth 100000
set_option maxHeartbeats 8000000
namespace K59
open PySem L2
def top(i:Nat):Stmt:=PySem.Challenge.pw_fewchecks_k59_whole_votes_by_other_names.main.body.getD i (.Pass ⟨0,0,0,0⟩)
abbrev yy:Stmt:=top 1
abbrev AS:Stmt:=top 2
abbrev rK:Stmt:=top 4
abbrev vo:Stmt:=top 5
abbrev ug:Stmt:=top 7
abbrev vX:Stmt:=top 8
abbrev yE:Stmt:=top 9
abbrev uq:Stmt:=top 10
abbrev yT:Stmt:=top 11
abbrev wJ:Stmt:=top 12
abbrev wZ:Stmt:=top 13
abbrev zf:Stmt:=top 14
abbrev rN:Stmt:=top 15
abbrev sO:Stmt:=top 17
abbrev zj:Stmt:=top 18
abbrev wg:Stmt:=top 19
abbrev rT:Stmt:=top 20
abbrev Az:Stmt:=top 21
abbrev pD:Stmt:=top 22
abbrev zw:Stmt:=top 23
abbrev qP:Stmt:=top 24
abbrev pM:Stmt:=top 25
abbrev p9:Stmt:=top 26
abbrev qB:Stmt:=top 27
abbrev Ac:Stmt:=top 28
abbrev vf:Stmt:=top 29
abbrev tw:Stmt:=top 30
abbrev qR:Stmt:=top 31
abbrev sf:Stmt:=top 32
abbrev rL:Stmt:=top 33
abbrev sq:Stmt:=top 34
abbrev jv:Stmt:=top 35
local macro_rules| `(tactic|walk_at "d0")=> `(tactic|first|omega|assumption|decide|(unfold Sm at*;omega)|(unfold ud;omega)|(unfold z0;decide)|(unfold z0;omega))
local macro_rules| `(tactic|walk_at "ds")=> `(tactic|((try dsimp only);first|walk_at "d0" |(refine And.intro ?_ ?_<;>walk_at "d0")|(refine Or.inl ?_;walk_at "d0")|(refine Or.inr (And.intro ?_ ?_)<;>walk_at "d0")))
local macro_rules| `(tactic|walk_at "s1")=> `(tactic|with_reducible first
 |refine R.seq ?_|refine R.asg ?_|refine R.setC ?_|refine R.vB ?_|refine R.ret ?_|refine R.next ?_|refine R.c ?_|refine R.op ?_|refine R.test ?_|refine R.bl ?_|refine R.tru ?_
 |refine R.and ?_|refine R.notV ?_|refine R.cb ?_|refine R.call ?_|refine R.nil ?_|refine R.cons ?_
 |refine R.lst ?_|refine R.sl ?_|refine R.TY ?_|refine R.part ?_|refine R.R3 ?_|refine R.bm ?_|refine R.Sn ?_|refine R.Co ?_|refine R.SV ?_|refine R.M8 ?_|refine R.IW ?_|refine R.qc ?_
 |refine R.gU ?_|refine R.P7 ?_|refine R.Qn ?_|refine R.eqNI ?_|refine R.eqIN ?_|refine R.isI ?_|refine R.Bl ?_|refine R.Bp ?_|refine R.bits ?_
 |refine ue ?_|refine GQ ?_|refine R.nilE ?_|refine R.isiII ?_|refine R.isiIB ?_|refine R.Pu ?_|refine R.KC ?_|refine R.iL ?_|refine R.SG ?_|refine R.comp ?_)
local macro_rules| `(tactic|walk_at "st")=> `(tactic|repeat (first
 |walk_at "s1"
 |((with_reducible refine' R.var ?h0 ?_);(case h0=>rfl))
 |((with_reducible refine' R.rI ?h1 ?_);(case h1=>walk_at "ds"))
 |((with_reducible refine' R.zK (o:= .lst []) ?h1 ?_);(case h1=>rfl))
 |((with_reducible refine' R.qQ ?h0 ?h1 ?_);(case h0=>assumption);(case h1=>rfl))
 |((with_reducible refine' R.ixTM ?h0 ?h1 ?_);(case h0=>assumption);(case h1=>rfl))
 |((with_reducible refine' R.PM ?h1 ?_);(case h1=>rfl))
 |((with_reducible refine' R.setM ?h0 ?h1 ?_);(case h0=>assumption);(case h1=>rfl))
 |((with_reducible refine' R.Kf ?h0 ?_);(case h0=>assumption))
 |((with_reducible refine' R.lenL ?h0 ?_);(case h0=>assumption))
 |((with_reducible refine' R.Lu ?h0 ?h1 ?_);(case h0=>walk_at "ds");(case h1=>walk_at "ds"))
 |((with_reducible refine' R.HW ?h0 ?_);(case h0=>walk_at "ds"))
 |((with_reducible refine' R.rX ?h0 ?_);(case h0=>assumption))
 |((with_reducible refine' R.BV ?h0 ?_);(case h0=>first|exact R.dT (by omega)|exact R.C1 (by omega)|decide))
 |((with_reducible refine' R.CS ?h0 ?_);(case h0=>first|exact R.dF (by omega)|exact R.Er (by omega)|decide))
 |(with_reducible refine R.Nl ?_)|(with_reducible refine R.Sw ?_)))
local macro_rules| `(tactic|walk_at "fv")=> `(tactic|first|exact Or.inl rfl|exact Or.inr (Or.inl rfl)|exact Or.inr (Or.inr (Or.inl rfl))|exact Or.inr (Or.inr (Or.inr (Or.inl rfl)))|exact Or.inr (Or.inr (Or.inr (Or.inr rfl))))
local macro_rules| `(tactic|walk_at "d1")=> `(tactic|with_reducible first
 |refine Sv.seq ?_|refine Sv.S5 ?_|refine Sv.asg ?_|refine Sv.KN ?_|refine Sv.vB ?_|refine Sv.ret ?_|refine Sv.next ?_|refine Sv.retN ?_
 |refine Ev.int ?_|refine Ev.bl ?_|refine Ev.aM ?_|refine Ev.gU ?_|refine Ev.OI ?_|refine Ev.rI ?_|refine Ev.rU ?_|refine Ev.eq ?_|refine Ev.ne ?_|refine Ev.is ?_|refine Ev.MD ?_|refine Ev.P5 ?_|refine Ev.str ?_|refine Ev.L0 ?_
 |refine Ev.S3 ?_|refine Ev.orV ?_|refine Ev.notV ?_|refine Ev.OR ?_|refine Tv.test ?_|refine Tv.and ?_|refine Tv.or ?_|refine Tv.not ?_|refine Tv.qc ?_|refine Tv.Sd ?_
 |refine Ev.Mg ?_|refine Ev.lst ?_|refine Av.nil ?_|refine Av.cons ?_|refine Av.JF ?_|refine Ov.none ?_|refine Ov.some ?_|refine Ev.min2 ?_|refine Ev.max2 ?_|refine Ev.QW ?_
 |refine R.di ?_|refine R.db ?_|refine R.dl ?_|refine R.dt ?_|refine R.Jm ?_|refine R.IL ?_|refine R.Nh ?_|refine R.eqni ?_|refine R.eqin ?_|refine R.eqnn ?_|refine R.Ms ?_
 |refine Gv.pT ?_|refine Gv.nameB ?_|refine Gv.nameN ?_|refine Gv.Jr ?_|refine Gv.kY ?_|refine Gv.KR ?_|refine Gv.SE ?_|refine ue ?_|refine GQ ?_)
local macro_rules| `(tactic|walk_at "dt")=> `(tactic|repeat (first
 |((with_reducible refine' Sv.C4 ?h0 ?_);(case h0=>rfl))
 |((with_reducible refine' Sv.Dw ?h0 ?_);(case h0=>rfl))
 |walk_at "d1"
 |((with_reducible refine' Ev.var ?h0 ?_);(case h0=>rfl))
 |((with_reducible refine' Ev.draw ?h0 ?_);(case h0=>rfl))
 |((with_reducible refine' Ev.ixOwn ?h0 ?_);(case h0=>rfl))
 |((with_reducible refine' Ev.KU ?h0 ?_);(case h0=>rfl))
 |((with_reducible refine' Ev.listOwn ?h0 ?_);(case h0=>rfl))
 |((with_reducible refine' Ev.slOwn ?h0 ?_);(case h0=>rfl))
 |((with_reducible refine' Sv.append ?h0 ?_);(case h0=>rfl))
 |((with_reducible refine' Sv.Dw ?h0 ?_);(case h0=>rfl))
 |((with_reducible refine' Sv.C4 ?h0 ?_);(case h0=>rfl))
 |((with_reducible refine' Gv.tup ?h0 ?_);(case h0=>rfl))
 |((with_reducible refine' R.at_ ?h0 ?_);(case h0=>first|rfl|assumption))
 |(with_reducible refine Ev.Bo ?_)|(with_reducible refine Ev.TZ ?_)|(with_reducible refine Ev.listOf ?_)|(with_reducible refine Ev.sl ?_)|(with_reducible refine Ev.cat ?_)|(with_reducible refine Ev.MU ?_)
 |((with_reducible refine' Ev.RY ?h0 ?_);(case h0=>walk_at "fv"))
 |((with_reducible refine' Ev.PX ?h0 ?h1 ?_);(case h0=>walk_at "fv");(case h1=>walk_at "fv"))
 |(with_reducible refine Ev.all ?_)|(with_reducible refine Ev.sum ?_)|(with_reducible refine Ev.zK ?_)
 |((with_reducible refine' R.M6 ?_))
 |((with_reducible refine' R.BV ?h0 ?_);(case h0=>first|exact R.dT (by omega)|exact R.C1 (by omega)|rfl))
 |((with_reducible refine' R.CS ?h0 ?_);(case h0=>first|exact R.dF (by omega)|exact R.Er (by omega)|exact c8))
 |((with_reducible refine' R.L6 ?h0 ?_);(case h0=>first|walk_at "ds" |exact Dn rfl))))
local macro_rules| `(tactic|walk_at "wk")=> `(tactic|repeat (first|exact Wk.nil|apply Wk.no|apply Wk.eq))
section
variable{P:Program}{w:World}{K:PySem.W.Frag}{mg:Str->Option Value}{base:Heap}{f:Addr}{fd:FuncData}
theorem i8:ck ["p","b","last_rest","last_times","rest","times","quotient","next_rest","next_times"] ["p","b"] (aR yy):=⟨rfl,rfl,rfl,by decide+kernel,rfl,by decide+kernel,by decide+kernel⟩
theorem R4(F:bO K "inverse" "inverse" yy f fd):
  bH P w K mg base bM 1 f fd ["p","b"] A9:=by
 refine F.ok i8 (fun vs H Q E h=>?_) (fun cdv A outer s H vs Q E hr h=>?_)
 ·obtain⟨p,b,rfl,hp,hp3,hb,q⟩:=h
  rfl
 obtain⟨p,b,rfl,hp,hp3,hb,q⟩:=h
 refine⟨_,(@au _ _ _ _ _ (@aN _ _ (2) _ _ _ _ i8.nd rfl (Or.inl rfl) (pv 0) (by rfl) (by first|exact .inl rfl|exact .inr rfl|assumption)) (@au _ _ _ _ _ (@aN _ _ (3) _ _ _ _ i8.nd rfl (Or.inl rfl) ak (by rfl) (by first|exact .inl rfl|exact .inr rfl|assumption)) (@au _ _ _ _ _ (@aN _ _ (4) _ _ _ _ i8.nd rfl (Or.inl rfl) (@aG _ _ _ _ _ _ _ _ gJ (pv 1) (pv 0)) (by rfl) (by first|exact .inl rfl|exact .inr rfl|assumption)) (@au _ _ _ _ _ (@aN _ _ (5) _ _ _ _ i8.nd rfl (Or.inl rfl) ak (by rfl) (by first|exact .inl rfl|exact .inr rfl|assumption)) (@au _ _ _ _ _ (@xS _ _ _ _ _ _ fB (@cH _ _ _ _ _ _ _ _ jU (pv 4) ak (cg _)) (@au _ _ _ _ _ (@aN _ _ (6) _ _ _ _ i8.nd rfl (Or.inl rfl) (@aG _ _ _ _ _ _ _ _ nQ (pv 2) (pv 4)) (by rfl) (by first|exact .inl rfl|exact .inr rfl|assumption)) (@au _ _ _ _ _ (@aN _ _ (7) _ _ _ _ i8.nd rfl (Or.inl rfl) (@aG _ _ _ _ _ _ _ _ j8 (pv 2) (@aG _ _ _ _ _ _ _ _ gx (pv 6) (pv 4))) (by rfl) (by first|exact .inl rfl|exact .inr rfl|assumption)) (@au _ _ _ _ _ (@aN _ _ (8) _ _ _ _ i8.nd rfl (Or.inl rfl) (@aG _ _ _ _ _ _ _ _ j8 (pv 3) (@aG _ _ _ _ _ _ _ _ gx (pv 6) (pv 5))) (by rfl) (by first|exact .inl rfl|exact .inr rfl|assumption)) (@au _ _ _ _ _ (@aN _ _ (2) _ _ _ _ i8.nd rfl (Or.inl rfl) (pv 4) (by rfl) (by first|exact .inl rfl|exact .inr rfl|assumption)) (@au _ _ _ _ _ (@aN _ _ (3) _ _ _ _ i8.nd rfl (Or.inl rfl) (pv 5) (by rfl) (by first|exact .inl rfl|exact .inr rfl|assumption)) (@au _ _ _ _ _ (@aN _ _ (4) _ _ _ _ i8.nd rfl (Or.inl rfl) (pv 7) (by rfl) (by first|exact .inl rfl|exact .inr rfl|assumption)) (@aJ _ _ _ (@aN _ _ (5) _ _ _ _ i8.nd rfl (Or.inl rfl) (pv 8) (by rfl) (by first|exact .inl rfl|exact .inr rfl|assumption)))))))))) (@aJ _ _ _ (@bu _ _ _ _ (@aG _ _ _ _ _ _ _ _ gJ (pv 3) (pv 0))))))))),?_⟩
 have hp2:=hp.1
 walk_at "st"
 refine Nq (fun σ H1=>H1=H/\∃(L lt r t:Int) (x6 x7 x8:Option V),σ=[some (.int p),some (.int b),some (.int L),some (.int lt),some (.int r),some (.int t),x6,x7,x8]/\Eu p b L lt r t) (fun(σ:St) (_:Hp)=>match σ[4]? with|some (some (V.int r))=>r.toNat|_=>0) ⟨rfl,_,_,_,_,_,_,_,rfl,Eu.start hp2⟩ ?_ ?_
 ·rintro σ H1 ⟨rfl,L,lt,r,t,x6,x7,x8,rfl,E⟩
  obtain⟨t1,t2⟩:=E.tb
  have e1:=E.l0
  have e2:=E.r0
  have e3:=E.lp
  have e4:=E.rp
  walk_at "st"
  refine nP (fun c=>?_) (fun c=>?_)
  ·have c:r≠0:=of_decide_eq_true c
   have hr:0<r:=by omega
   have q1:0<=L/r:=rR (by omega) (by omega)
   have q2:L/r<=L:=uY _ (by omega)
   obtain⟨N1,N2⟩:=E.next hr
   walk_at "st"
   refine⟨⟨rfl,_,_,_,_,_,_,_,rfl,N1⟩,?_⟩
   show(L-L/r*r).toNat<r.toNat
   omega
  ·have c:r=0:=by simpa using c
   subst c
   walk_at "st"
   exact q _ (gm _ (by omega)) (fY _ (by omega)) (E.fin hp hb)
 ·exact fun σ H Q Q' h ⟨v,e,s,k,ek,z⟩=>⟨v,e,s,k,ek,h _ _ z⟩
theorem oX:ck ["p","pairs","word","reached","place","factor"] ["p","pairs","word"] (aR AS):=⟨rfl,rfl,rfl,by decide+kernel,rfl,by decide+kernel,by decide+kernel⟩
theorem LZ(F:bO K "total" "total" AS f fd):
    bH P w K mg base bM 1 f fd ["p","pairs","word"] wz:=by
  refine F.ok oX (fun vs H Q E h=>?_) (fun cdv A outer s H vs Q E hr h=>?_)
  · obtain⟨nb,p,va,vc,prs,wd,rfl,hA,hC,hp,h1,h2,q⟩:=h
    rfl
  obtain⟨nb,p,va,vc,prs,wd,rfl,hA,hC,hp,h1,h2,q⟩:=h
  refine⟨_,(@au _ _ _ _ _ (@aN _ _ (3) _ _ _ _ oX.nd rfl (Or.inl rfl) ak (by rfl) (by first|exact .inl rfl|exact .inr rfl|assumption)) (@au _ _ _ _ _ (@gE _ _ _ _ _ _ _ _ fB rfl (@fj _ _ _ _ (pv 1)) (HG rfl (@bV _ _ _ _ _ (aO (i:=4) oX.nd rfl (Or.inl rfl)) (@bV _ _ _ _ _ (aO (i:=5) oX.nd rfl (Or.inl rfl)) gR (by rfl)) (by rfl))) (@aJ _ _ _ (@fc _ _ _ _ _ _ _ _ (@cH _ _ _ _ _ _ _ _ yG (@aF _ _ _ _ _ _ _ bQ (pv 2) (pv 4) (fun _ _=>rfl)) nk (cg _)) (@aJ _ _ _ (@aN _ _ (3) _ _ _ _ oX.nd rfl (Or.inl rfl) (@aG _ _ _ _ _ _ _ _ gJ (@aG _ _ _ _ _ _ _ _ eN (pv 3) (@aG _ _ _ _ _ _ _ _ gx (pv 5) (@aF _ _ _ _ _ _ _ bQ (pv 2) (pv 4) (fun _ _=>rfl)))) (pv 0)) (by rfl) (by first|exact .inl rfl|exact .inr rfl|assumption))) fE)) (by intro _;rfl)) (@aJ _ _ _ (@bu _ _ _ _ (pv 3))))),?_⟩
  obtain⟨a,xs,rfl,na,ha,da⟩:=hA.dJ
  obtain⟨c,ws,rfl,nc,hc,dc⟩:=hC.dJ
  have pO:=da.length
  rw[aj] at pO
  have ew:=CL dc
  subst ew
  walk_at "st"
  refine R.rX (aS.of ha) ?_
  refine GN (xs:=xs) (fun i σ H1=>H1=H/\∃(r:Int) (x y:Option V),σ=[some (.int p),some (.ref a),some (.ref c),some (.int r),x,y]/\r=bJ (prs.take i) wd%p) ⟨rfl,0,none,none,rfl,by simp[bJ]⟩ ?_ ?_ ?_
  · rintro i σ H1 hi ⟨rfl,_⟩
    exact aS.of ha
  · rintro i x σ H1 hx ⟨rfl,r,y,z,rfl,hr⟩
    have hi:i<prs.length:=by have:=(bh.mp hx).1;omega
    obtain⟨x',hx',dx⟩:=da.get (i:=i) (by rw[aI,aB hi];rfl)
    rw[hx] at hx';cases hx'
    obtain⟨t,rfl,nt,ht⟩:=IE dx
    obtain⟨g1,g2,g3⟩:=h1 _ (dZ hi)
    have hk:prs[i].fst.toNat<wd.length:=by omega
    have hat:bD (wd.map r6) prs[i].fst=some (r6 wd[prs[i].fst.toNat]):=gp g1 (by rw[aI,aB hk];rfl)
    have pe:fZ wd prs[i]=match wd[prs[i].fst.toNat] with|some x=>prs[i].snd*x|none=>0:=by
      unfold fZ
      rw[aB hk]
      cases wd[prs[i].fst.toNat]<;>rfl
    have hs2:∀x,wd[prs[i].fst.toNat]=some x->Sm x:=fun x e=>h2 x (by rw[<-e];exact dZ hk)
    have hd:=BP (wd:=wd) hi
    refine R.L3 (fy.of ht) rfl ?_
    walk_at "st"
    refine R.qQ hc hat ?_
    walk_at "st"
    generalize wd[prs[i].fst.toNat]=o at hat pe hs2⊢
    cases o with
    | none =>
      refine R.Bp ?_
      walk_at "st"
      refine⟨rfl,_,_,_,rfl,?_⟩
      rw[hd,pe,hr,Int.add_zero]
    | some x =>
      have Th:=hs2 x rfl
      refine R.Bl ?_
      walk_at "st"
      refine R.qQ hc hat ?_
      refine R.rI (Or.inr ⟨g3,Th⟩) ?_
      walk_at "st"
      refine⟨rfl,_,_,_,rfl,?_⟩
      rw[hd,pe,hr,Int.emod_add_emod]
  · rintro σ H1 ⟨rfl,r,x,y,rfl,hr⟩
    walk_at "st"
    rw[pO,iF] at hr
    rw[hr]
    exact q
def vJ:DF:=fun ds Φ=>∃(p:Int) (prs:ao) (wd:Wo),ds=[.int p,eT prs,mO wd]/\0<p/\mj prs wd.length/\lF wd/\Φ true (ie (lQ p prs wd))
theorem MB:dj vJ:=by
 intro ds Φ Ψ hm z
 obtain⟨p,prs,wd,e,h1,h2,h3,q⟩:=hm
 exact⟨p,prs,wd,e,h1,h2,h3,z _ _ q⟩
theorem AU:ck ["p","pairs","word","place","factor"] ["p","pairs","word"] (aR vo):=⟨rfl,rfl,rfl,by decide+kernel,rfl,by decide+kernel,by decide+kernel⟩
theorem JS(F:bO K "sum_of" "sum_of" vo f fd)(R8:Callee P w K mg base "total" 1 ["p","pairs","word"] wz):
    bH P w K mg base bM 2 f fd ["p","pairs","word"] (aY 3 vJ):=by
  refine F.ok AU (fun vs H Q E h=>h.1) (fun cdv A outer s H vs Q E hr h=>?_)
  obtain⟨nb,ds,Φ,hlive,hds,aD,hF⟩:=fV h
  obtain⟨p,prs,wd,rfl,hp,h1,h2,q⟩:=hF
  refine⟨_,(@au _ _ _ _ _ (@gE _ _ _ _ _ _ _ _ fB rfl (@fj _ _ _ _ (pv 1)) (@iA _ (K) _ _ _ (2) _ rfl rfl (@bV _ _ _ _ _ (aO (i:=3) AU.nd rfl (Or.inl rfl)) (@bV _ _ _ _ _ (aO (i:=4) AU.nd rfl (Or.inl rfl)) gR (by rfl)) (by rfl)) (by rfl) (by rfl)) (@aJ _ _ _ (@fc _ _ _ _ _ _ _ _ (@cH _ _ _ _ _ _ _ _ Pr (@aF _ _ _ _ _ _ (dM K) bQ (pv 2) (pv 3) (fun _ _=>rfl)) nk (cg _)) (@aJ _ _ _ (@bu _ _ _ _ nk)) fE)) (by intro _;rfl)) (@aJ _ _ _ (@bu _ _ _ _ (@aL _ _ _ _ _ _ _ _ _ _ R8 (hr.mono (by decide)) (@aa _ _ _ _ _ (pv 0) (@aa _ _ _ _ _ (pv 1) (@aa _ _ _ _ _ (pv 2) ah rfl) rfl) rfl) (by rfl) (by decide) (by rfl) (by rfl))))),?_⟩
  refine Sv.fJ hlive hds aD (ρ:=[.d false _, .d false _, .d false _, .no, .no]) rfl ?_
  clear aD hds
  walk_at "dt"
  refine Sv.forL (Ev.var rfl ⟨_,rfl,fun v=>?_⟩)
  refine⟨fun i ρ=>(∃x y,ρ=[.d false (.int p), .d false (eT prs), .d false (mO wd),x,y])/\∀pr∈prs.take i,wd[pr.1.toNat]?≠some none,⟨⟨_,_,rfl⟩,by simp⟩,?_,?_⟩
  · rintro i d ρ hd ⟨⟨x,y,rfl⟩,hI⟩
    obtain⟨pr,bC,rfl⟩:=fT hd
    obtain⟨g1,g2,g3⟩:=h1 pr (dN bC)
    obtain⟨o,ho,hat⟩:=BH (xs:=wd) ie g1 g2 rfl
    walk_at "dt"
    rw[CD]
    cases o with
    | none =>
      walk_at "dt"
      have e:lQ p prs wd=none:=if_pos ⟨pr,dN bC,ho⟩
      rw[e] at q
      exact q
    | some z =>
      walk_at "dt"
      refine⟨⟨_,_,rfl⟩,fun Ox h'=>?_⟩
      rw[take_snoc bC] at h'
      rcases iQ.mp h' with h'|h'
      · exact hI Ox h'
      · rw[bS.mp h',ho];exact fun z=>by cases z
  · rintro ρ ⟨⟨x,y,rfl⟩,hI⟩
    walk_at "dt"
    refine Ev.total ?_
    walk_at "dt"
    refine⟨p,prs,wd,rfl,hp,h1,h2,?_⟩
    have e:lQ p prs wd=some (bJ prs wd%p):=if_neg fun⟨pr,h,e⟩=>hI pr (by rw[aj,iF];exact h) e
    rw[e] at q
    exact q
def qo:DF:=fun ds Φ=>∃(p n:Int) (cs:List ao) (wd:Wo),ds=[dQ p n cs,mO wd]/\0<p/\cs.length<=10000/\(∀prs∈cs,mj prs wd.length)/\lF wd/\Φ true (.list (cs.map fun prs=>ie (lQ p prs wd)))
theorem xJ:dj qo:=by
 intro ds Φ Ψ hm z
 obtain⟨p,n,cs,wd,e,h1,h2,h3,h4,q⟩:=hm
 exact⟨p,n,cs,wd,e,h1,h2,h3,h4,z _ _ q⟩
theorem Nt:ck ["net","word"] ["net","word"] (aR rK):=⟨rfl,rfl,rfl,by decide+kernel,rfl,by decide+kernel,by decide+kernel⟩
theorem Tn(F:bO K "sums" "sums" rK f fd)(OZ:Callee P w K mg base "sum_of" 2 ["p","pairs","word"] (aY 3 vJ)):
  bH P w K mg base bM 3 f fd ["net","word"] (aY 2 qo):=by
 refine F.ok Nt (fun vs H Q E h=>h.1) (fun cdv A outer s H vs Q E hr h=>?_)
 obtain⟨nb,ds,Φ,hlive,hds,aD,hF⟩:=fV h
 obtain⟨p,n,cs,wd,rfl,hp,hl,h1,h2,q⟩:=hF
 refine⟨_,(@aJ _ _ _ (@bu _ _ _ _ (fh (dB.of (show dY (aR rK) ["net","word"] _ ["pairs","net","word"] [none,some 0,some 1]=true by decide+kernel)) (@fj _ _ _ _ (@aF _ _ _ _ _ _ (cz K) cD (pv 0) ak (fun _ _=>rfl))) (fun _ _ _ _=>⟨(aO (i:=0) (by show List.Nodup (["pairs","net","word"]:List Str);decide+kernel) rfl (Or.inl rfl)),fL,(@aL _ _ _ _ _ _ _ _ _ _ OZ (hr.mono (by decide)) (@aa _ _ _ _ _ (@aF _ _ _ _ _ _ (cz K) cD (pv 1) ak (fun _ _=>rfl)) (@aa _ _ _ _ _ (pv 0) (@aa _ _ _ _ _ (pv 2) ah rfl) rfl) rfl) (by rfl) (by decide) (by rfl) (by rfl))⟩)))),?_⟩
 refine Sv.fJ hlive hds aD (ρ:=[.d false _, .d false _]) rfl ?_
 clear aD hds
 walk_at "dt"
 refine aA.ev (aA.iW (by decide) rfl ?_)
 walk_at "dt"
 refine⟨by rw[aj];exact hl,fun v=>⟨true,fun i ds=>ds=(cs.take i).map fun prs=>ie (lQ p prs wd),rfl,?_,?_⟩⟩
 ·rintro i d ds hd hl' rfl
  obtain⟨prs,eZ,rfl⟩:=fT hd
  walk_at "dt"
  refine⟨by walk_at "wk",?_⟩
  walk_at "dt"
  refine Ev.bZ MB ?_
  walk_at "dt"
  refine⟨rfl,p,prs,wd,rfl,hp,h1 prs (dN eZ),h2,fun _=>rfl,?_⟩
  show _=List.map _ _
  rw[take_snoc eZ,fP]
  rfl
 ·rintro ds hl' rfl
  rw[aj,iF]
  exact q
def rB:DF:=fun ds Φ=>∃(p n:Int) (cs:List ao) (cT:List Int),ds=[dQ p n cs, .list (cT.map .int)]/\fG p n cs/\cT.Nodup/\cT.length<=1000/\
 ∀f,Φ f (.dict ((cT.map fun pl=>(pl,PyData.list ((dU p cs pl cs.length).map pairD))).map cE))
theorem FP:dj rB:=by
 intro ds Φ Ψ hm z
 obtain⟨p,n,cs,cT,e,h1,h2,h3,q⟩:=hm
 exact⟨p,n,cs,cT,e,h1,h2,h3,fun f=>z _ _ (q f)⟩
theorem m8:ck ["net","places","found","c","pairs","place","factor"] ["net","places"] (aR ug):=⟨rfl,rfl,rfl,by decide+kernel,rfl,by decide+kernel,by decide+kernel⟩
theorem OS(F:bO K "voices" "voices" ug f fd)(JG:Callee P w K mg base "inverse" 1 ["p","b"] A9)(zx:mg "dict"=none)(nZ:mg "enumerate"=none):
  bH P w K mg base bM 2 f fd ["net","places"] (aY 2 rB):=by
 refine F.ok m8 (fun vs H Q E h=>h.1) (fun cdv A outer s H vs Q E hr h=>?_)
 obtain⟨nb,ds,Φ,hlive,hds,aD,hF⟩:=fV h
 obtain⟨p,n,cs,cT,rfl,hN,hnd,hpl,q⟩:=hF
 refine⟨_,(@au _ _ _ _ _ (@aN _ _ (2) _ _ _ _ m8.nd rfl (Or.inl rfl) (@iR _ _ _ _ _ _ _ _ (zT) (HU rfl) rfl zx PyProof.Rows.boot_dict (@aa _ _ _ _ _ (fh (dB.of (show dY (aR ug) ["net","places","found","c","pairs","place","factor"] _ ["place"] [none]=true by decide+kernel)) (@fj _ _ _ _ (pv 1)) (fun _ _ _ _=>⟨(aO (i:=0) (by show List.Nodup (["place"]:List Str);decide+kernel) rfl (Or.inl rfl)),fL,(@cZ _ _ _ _ _ (@aa _ _ _ _ _ (pv 0) (@aa _ _ _ _ _ (@eY _ _ _ _ ah) ah rfl) rfl))⟩)) ah rfl) (by decide) (by decide) (by rfl) (by rfl)) (by rfl) (by first|exact .inl rfl|exact .inr rfl|assumption)) (@au _ _ _ _ _ (@gE _ _ _ _ _ _ _ _ fB rfl (@DQ _ (K) _ _ _ _ _ _ _ rfl rfl nZ (@aF _ _ _ _ _ _ (cz K) cD (pv 0) ak (fun _ _=>rfl)) (by rfl)) (@iA _ (K) _ _ _ (2) _ rfl rfl (@bV _ _ _ _ _ (aO (i:=3) m8.nd rfl (Or.inl rfl)) (@bV _ _ _ _ _ (aO (i:=4) m8.nd rfl (Or.inl rfl)) gR (by rfl)) (by rfl)) (by rfl) (by rfl)) (@aJ _ _ _ (@gE _ _ _ _ _ _ _ _ fB rfl (@fj _ _ _ _ (pv 4)) (@iA _ (K) _ _ _ (2) _ rfl rfl (@bV _ _ _ _ _ (aO (i:=5) m8.nd rfl (Or.inl rfl)) (@bV _ _ _ _ _ (aO (i:=6) m8.nd rfl (Or.inl rfl)) gR (by rfl)) (by rfl)) (by rfl) (by rfl)) (@aJ _ _ _ (@fc _ _ _ _ _ _ _ _ (@cH _ _ _ _ _ _ _ _ (O0 hr.units) (pv 5) (pv 2) (by with_unfolding_all rfl)) (@aJ _ _ _ (@nj _ _ _ _ (kg kO nq nH lI (@aF _ _ _ _ _ _ (jD) m9 (pv 2) (pv 5) (fun _ _=>rfl)) (@aa _ _ _ _ _ (@cZ _ _ _ _ _ (@aa _ _ _ _ _ (pv 3) (@aa _ _ _ _ _ (@aL _ _ _ _ _ _ _ _ _ _ JG (hr.mono (by decide)) (@aa _ _ _ _ _ (@aF _ _ _ _ _ _ (cz K) cD (pv 0) ak (fun _ _=>rfl)) (@aa _ _ _ _ _ (pv 6) ah rfl) rfl) (by rfl) (by decide) (by rfl) (by rfl)) ah rfl) rfl)) ah rfl)) (by rfl))) fE)) (by intro _;rfl))) (by intro _;rfl)) (@aJ _ _ _ (@bu _ _ _ _ (pv 2))))),?_⟩
 refine Sv.fJ hlive hds aD (ρ:=[.d false _, .d false _, .no, .no, .no, .no, .no]) rfl ?_
 clear aD hds
 have p2:=hN.hp.1
 have gK:=hN.gK
 have n0:=hN.n0
 have n1:=hN.n1
 have hcl:=hN.cl
 have vF:(cs.map eT).length=cs.length:=aj ..
 refine Sv.seq ?_
 refine Sv.QH ?_
 walk_at "dt"
 refine⟨cT,rfl,hnd,by omega,fun A2 rows0 hr0=>?_⟩
 refine Sv.seq ?_
 refine Sv.Bt ?_
 walk_at "dt"
 refine fun v=>⟨fun i ρ=>∃(rows:List eO) (f2:Bool) (x3 x4 x5 x6:Sl),(rows.map fun r=>(r.1,r.2.2))=(cT.map fun pl=>(pl,(dU p cs pl i).map pairD))/\ρ=[.d false (dQ p n cs), .d false (.list (cT.map .int)), .cu (gH A2 f2 rows),x3,x4,x5,x6],⟨rows0,true,_,_,_,_,hr0,rfl⟩,?_,?_⟩
 ·rintro i d ρ ⟨e,he,rfl⟩ ⟨rows,f2,x3,x4,x5,x6,hr,rfl⟩
  obtain⟨prs,eZ,rfl⟩:=fT he
  have hil:=(bh.mp eZ).1
  obtain⟨g1,g2,g3⟩:=hN.ok prs (dN eZ)
  walk_at "dt"
  refine Sv.forL ?_
  walk_at "dt"
  refine fun v=>⟨fun m ρ=>∃(rows:List eO) (f2:Bool) (x5 x6:Sl),(rows.map fun r=>(r.1,r.2.2))=cT.map (ia p cs i (prs.take m))/\ρ=[.d false (dQ p n cs), .d false (.list (cT.map .int)), .cu (gH A2 f2 rows), .d true (.int i), .d false (eT prs),x5,x6],⟨rows,f2,_,_,by rw[hr];exact Oh,rfl⟩,?_,?_⟩
  ·rintro m d ρ hd ⟨rows,f2,x5,x6,hr,rfl⟩
   obtain⟨pr,bC,rfl⟩:=fT hd
   have hml:=(bh.mp bC).1
   obtain⟨a0,a1,a2,a3⟩:=g3 pr (dN bC)
   have hkeys:rows.map (·.1)=cT:=by
    have:=congrArg (List.map (·.1)) hr
    rw[c6,c6] at this
    have e1:((fun(x:Int×List PyData)=>x.1)∘fun(r:eO)=>(r.1,r.2.2))=fun(r:eO)=>r.1:=rfl
    have e2:((fun(x:Int×List PyData)=>x.1)∘ia p cs i (prs.take m))=id:=rfl
    rw[e1,e2,List.map_id] at this
    exact this
   have Ux:∀r∈rows,r.2.2.length<10000:=fun r hr'=>by
    have hm:(r.1,r.2.2)∈rows.map fun r=>(r.1,r.2.2):=gW (f:=fun r:eO=>(r.1,r.2.2)) hr'
    rw[hr] at hm
    obtain⟨pl,_,e⟩:=bU.mp hm
    have:r.2.2=(ia p cs i (prs.take m) pl).2:=by rw[e]
    rw[this]
    unfold ia
    rw[aj,cO]
    have h1:=qG (p:=p) (cs:=cs) (pl:=pl) i
    have h2:∀o,(jn p i o).length<=1:=fun o=>by cases o<;>simp[jn]
    have:=h2 (dD (prs.take m) pl)
    omega
   have hnew:pr.1∉(prs.take m).map (·.1):=fun z=>by
    rw[List.map_take] at z
    obtain⟨j,hj⟩:=je z
    have O4:j<m:=by have:=(bh.mp hj).1;rw[kF] at this;omega
    rw[DM O4] at hj
    obtain⟨l1,e1⟩:=bh.mp hj
    have l2:m<(prs.map (·.1)).length:=by rw[aj];exact hml
    have:=(tN (h₀:=l1) (h₁:=l2) g1).mp (by rw[e1,oQ,(bh.mp bC).2])
    omega
   have hts:=take_snoc bC
   walk_at "dt"
   refine Ev.Py rfl ?_
   walk_at "dt"
   by_cases c:pr.1∈rows.map (·.1)
   ·rw[if_pos (by simp[c])]
    have iz:pr.2%p≠0:=by rw[m7 (by omega) (by omega)];omega
    refine Sv.Tj rfl ?_
    walk_at "dt"
    refine Ev.inv ?_
    walk_at "dt"
    refine⟨p,pr.2,rfl,hN.hp,gK,iz,fun u u0 u1 hu=>?_⟩
    have eu:u=sol p pr.2 1:=BJ hN.hp iz u0 u1 (by obtain⟨k,hk⟩:=hu;exact⟨k,by rw[pN,hk];omega⟩)
    subst eu
    walk_at "dt"
    refine⟨_,_,_,_,?_,rfl⟩
    rw[hts,QJ hnew,<-hr,QL]
    rfl
   ·rw[if_neg (by simp[c])]
    walk_at "dt"
    refine⟨rows,f2,_,_,?_,rfl⟩
    rw[hts,Jk (by rw[<-hkeys];exact c)]
    exact hr
  ·rintro ρ ⟨rows,f2,x5,x6,hr,rfl⟩
   rw[aj,iF] at hr
   refine⟨rows,f2,_,_,_,_,?_,rfl⟩
   rw[hr]
   apply e7
   intro pl _
   unfold ia
   rw[GR eZ]
 ·rintro ρ ⟨rows,f2,x3,x4,x5,x6,hr,rfl⟩
  rw[vF] at hr
  refine Sv.QD 2 rfl ?_
  walk_at "dt"
  have e:(rows.map fun r=>(r.1,PyData.list r.2.2))=cT.map fun pl=>(pl,PyData.list ((dU p cs pl cs.length).map pairD)):=by
   have:=congrArg (List.map fun q:Int×List PyData=>(q.1,PyData.list q.2)) hr
   rw[c6,c6] at this
   exact this
  rw[e]
  exact q _
def rS:DF:=fun ds Φ=>∃(p n:Int) (cs:List ao),ds=[dQ p n cs]/\fG p n cs/\∀f,Φ f (.dict ((lW p cs n.toNat).map cE))
theorem Cz:dj rS:=by
 intro ds Φ Ψ hm z
 obtain⟨p,n,cs,e,h1,q⟩:=hm
 exact⟨p,n,cs,e,h1,fun f=>z _ _ (q f)⟩
theorem IZ:ck ["net"] ["net"] (aR vX):=⟨rfl,rfl,rfl,by decide+kernel,rfl,by decide+kernel,by decide+kernel⟩
theorem MG(F:bO K "all_voices" "all_voices" vX f fd)(xM:Callee P w K mg base "voices" 2 ["net","places"] (aY 2 rB))(cX:mg "list"=none)(aZ:mg "range"=none):
  bH P w K mg base bM 3 f fd ["net"] (aY 1 rS):=by
 refine F.ok IZ (fun vs H Q E h=>h.1) (fun cdv A outer s H vs Q E hr h=>?_)
 obtain⟨nb,ds,Φ,hlive,hds,aD,hF⟩:=fV h
 obtain⟨p,n,cs,rfl,hN,q⟩:=hF
 refine⟨_,(@aJ _ _ _ (@bu _ _ _ _ (@aL _ _ _ _ _ _ _ _ _ _ xM (hr.mono (by decide)) (@aa _ _ _ _ _ (pv 0) (@aa _ _ _ _ _ (@iR _ _ _ _ _ _ _ _ _ (Hg rfl) rfl cX jz (@aa _ _ _ _ _ (@iR _ _ _ _ _ _ _ _ _ HH rfl aZ C6 (@aa _ _ _ _ _ (@aF _ _ _ _ _ _ (cz K) cD (pv 0) ak (fun _ _=>rfl)) ah rfl) (by decide) (by decide) (by rfl) (by rfl)) ah rfl) (by decide) (by decide) (by rfl) (by rfl)) ah rfl) rfl) (by rfl) (by decide) (by rfl) (by rfl)))),?_⟩
 refine Sv.fJ hlive hds aD (ρ:=[.d false _]) rfl ?_
 clear aD hds
 have n0:=hN.n0
 have n1:=hN.n1
 walk_at "dt"
 refine Ev.bZ FP ?_
 walk_at "dt"
 refine aA.ev (aA.DA ?_)
 walk_at "dt"
 refine⟨rfl,p,n,cs,(List.range n.toNat).map fun(i:Nat)=>(i:Int),?_,hN,?_,by rw[aj,fU];omega,fun f=>q _⟩
 ·show[_,PyData.list _]=[_,PyData.list _]
  have:((List.range n.toNat).map fun(i:Nat)=>(0:Int)+i)=(List.range n.toNat).map fun(i:Nat)=>(i:Int):=e7 fun i _=>by omega
  rw[this]
 exact xh.map _ fun a b h z=>h (by omega)
def rO:DF:=fun ds Φ=>∃(p letter:Int) (vs:List (Int×Int)) (ss:List Int),ds=[.int p, .list (vs.map pairD), .list (ss.map .int), .int letter]/\0<p/\p<10^40/\vs.length<=1000/\(∀q∈vs,0<=q.1/\q.1<ss.length/\0<=q.2/\q.2<p)/\(∀s∈ss,0<=s/\s<p)/\
 ∀ks,jM (vs.map fun q=>(letter-ss.getD q.1.toNat 0*q.2)%p) ks->ks.length<=vs.length->Φ true (.dict (ks.map cE))
theorem GX:dj rO:=by
 intro ds Φ Ψ hm z
 obtain⟨p,l,vs,ss,e,h1,h2,h3,h4,h5,q⟩:=hm
 exact⟨p,l,vs,ss,e,h1,h2,h3,h4,h5,fun ks a b=>z _ _ (q ks a b)⟩
theorem oZ:ck ["p","there","reached","letter","counts","c","inverted","voted_for"] ["p","there","reached","letter"] (aR yE):=⟨rfl,rfl,rfl,by decide+kernel,rfl,by decide+kernel,by decide+kernel⟩
theorem Tf(F:bO K "counts_of" "counts_of" yE f fd):
  bH P w K mg base bM 1 f fd ["p","there","reached","letter"] (aY 4 rO):=by
 refine F.ok oZ (fun vs H Q E h=>h.1) (fun cdv A outer s H vs Q E hr h=>?_)
 obtain⟨nb,ds,Φ,hlive,hds,aD,hF⟩:=fV h
 obtain⟨p,letter,vs,ss,rfl,p0,gK,hvl,hvs,hss,q⟩:=hF
 refine⟨_,(@au _ _ _ _ _ (@aN _ _ (4) _ _ _ _ oZ.nd rfl (Or.inl rfl) MY (by rfl) (by first|exact .inl rfl|exact .inr rfl|assumption)) (@au _ _ _ _ _ (@gE _ _ _ _ _ _ _ _ fB rfl (@fj _ _ _ _ (pv 1)) (@iA _ (K) _ _ _ (2) _ rfl rfl (@bV _ _ _ _ _ (aO (i:=5) oZ.nd rfl (Or.inl rfl)) (@bV _ _ _ _ _ (aO (i:=6) oZ.nd rfl (Or.inl rfl)) gR (by rfl)) (by rfl)) (by rfl) (by rfl)) (@au _ _ _ _ _ (@aN _ _ (7) _ _ _ _ oZ.nd rfl (Or.inl rfl) (@aG _ _ _ _ _ _ _ _ gJ (@aG _ _ _ _ _ _ _ _ j8 (pv 3) (@aG _ _ _ _ _ _ _ _ gx (@aF _ _ _ _ _ _ (dM K) bQ (pv 2) (pv 5) (fun _ _=>rfl)) (pv 6))) (pv 0)) (by rfl) (by first|exact .inl rfl|exact .inr rfl|assumption)) (@aJ _ _ _ (@iY _ _ _ _ _ _ (@aG _ _ _ _ _ _ _ _ eN (kg PySem.F.plainAttrs_dict FJ PySem.F.type_dict_get Ml (pv 4) (@aa _ _ _ _ _ (pv 7) (@aa _ _ _ _ _ ak ah rfl) rfl)) ak) (l8 (pv 4) (pv 7) set_dict) (by rfl) (by rfl) (by rfl)))) (by intro _;rfl)) (@aJ _ _ _ (@bu _ _ _ _ (pv 4))))),?_⟩
 refine Sv.fJ hlive hds aD (ρ:=[.d false _, .d false _, .d false _, .d false _, .no, .no, .no, .no]) rfl ?_
 clear aD hds
 have Rc:(vs.map pairD).length=vs.length:=aj ..
 refine Sv.seq ?_
 refine Sv.MA (sD.new ?_)
 intro A4
 refine Sv.seq ?_
 refine Sv.forL ?_
 refine Ev.var rfl ?_
 refine⟨_,rfl,fun v=>⟨fun i ρ=>∃(ks:Ks) (x5 x6 x7:Sl),jM ((vs.take i).map fun q=>(letter-ss.getD q.1.toNat 0*q.2)%p) ks/\ks.length<=i/\ρ=[.d false (.int p), .d false (.list (vs.map pairD)), .d false (.list (ss.map .int)), .d false (.int letter), .bI A4 true ks,x5,x6,x7],⟨[],_,_,_,jM.nil,aK _,rfl⟩,?_,?_⟩⟩
 ·rintro i d ρ hd ⟨ks,x5,x6,x7,hK,jK,rfl⟩
  obtain⟨qq,hq,rfl⟩:=fT hd
  have hil:=(bh.mp hq).1
  obtain⟨a0,a1,a2,a3⟩:=hvs qq (dN hq)
  have hsl:qq.1.toNat<ss.length:=by omega
  have hat:bD (ss.map PyData.int) qq.1=some (.int (ss.getD qq.1.toNat 0)):=gp a0 (by rw[aI,aB hsl,bA,aB hsl];rfl)
  obtain⟨b0,b1⟩:0<=ss.getD qq.1.toNat 0/\ss.getD qq.1.toNat 0<p:=by
   rw[bA,aB hsl]
   exact hss _ (dZ hsl)
  have s1:Sm (ss.getD qq.1.toNat 0):=by unfold Sm;omega
  have s2:Sm qq.2:=by unfold Sm;omega
  generalize jW:(jb _ (pS (eU 4) _ wL):TS)=tl
  walk_at "dt"
  subst jW
  refine Sv.S9 rfl ?_
  walk_at "dt"
  refine Ev.Nv rfl ?_
  walk_at "dt"
  rw[hK.get]
  walk_at "dt"
  refine⟨_,_,_,_,?_,?_,rfl⟩
  ·rw[take_snoc hq,fP]
   exact hK.put _
  ·have:=Te ks ((letter-ss.getD qq.1.toNat 0*qq.2)%p) (.int (((List.map (fun q=>(letter-ss.getD q.1.toNat 0*q.2)%p) (List.take i vs)).count ((letter-ss.getD qq.1.toNat 0*qq.2)%p):Int)+1))
   omega
 ·rintro ρ ⟨ks,x5,x6,x7,hK,jK,rfl⟩
  rw[Rc] at hK jK
  rw[iF] at hK
  refine Sv.Uc 4 rfl ?_
  walk_at "dt"
  exact q ks hK jK
def xA:DF:=fun ds Φ=>∃(p n:Int) (cs:List ao) (ws:List Int) (pl:Int),ds=[dQ p n cs,cJ ws, .int pl]/\fG p n cs/\cs.length<=62/\ws.length=n.toNat/\(∀x∈ws,0<=x/\x<p)/\0<=pl/\pl<n/\
 ∀rs:List Int,rs.Pairwise (· < ·)->(∀k,k∈rs↔k∈dR p cs ws pl)->Φ true (.list (rs.map fun r=>pairD (r,((dR p cs ws pl).count r:Int))))
theorem Ez:dj xA:=by
 intro ds Φ Ψ hm z
 obtain⟨p,n,cs,ws,pl,e,h1,h2,h3,h4,h5,h6,q⟩:=hm
 exact⟨p,n,cs,ws,pl,e,h1,h2,h3,h4,h5,h6,fun rs a b=>z _ _ (q rs a b)⟩
theorem yZ:ck ["net","word","place","there","counts"] ["net","word","place"] (aR uq):=⟨rfl,rfl,rfl,by decide+kernel,rfl,by decide+kernel,by decide+kernel⟩
theorem Jf(F:bO K "votes" "votes" uq f fd)(AD:Callee P w K mg base "counts_of" 1 ["p","there","reached","letter"] (aY 4 rO))(xM:Callee P w K mg base "voices" 2 ["net","places"] (aY 2 rB))(pR:Callee P w K mg base "sums" 3 ["net","word"] (aY 2 qo))(gM:mg "sorted"=none):
  bH P w K mg base bM 4 f fd ["net","word","place"] (aY 3 xA):=by
 refine F.ok yZ (fun vs H Q E h=>h.1) (fun cdv A outer s H vs Q E hr h=>?_)
 obtain⟨nb,ds,Φ,hlive,hds,aD,hF⟩:=fV h
 obtain⟨p,n,cs,ws,pl,rfl,hN,U7,hwl,hws,K5,UZ,q⟩:=hF
 refine⟨_,(@au _ _ _ _ _ (@aN _ _ (3) _ _ _ _ yZ.nd rfl (Or.inl rfl) (@aF _ _ _ _ _ _ (jD) m9 (@aL _ _ _ _ _ _ _ _ _ _ xM (hr.mono (by decide)) (@aa _ _ _ _ _ (pv 0) (@aa _ _ _ _ _ (@eY _ _ _ _ (@aa _ _ _ _ _ (pv 2) ah rfl)) ah rfl) rfl) (by rfl) (by decide) (by rfl) (by rfl)) (pv 2) (fun _ _=>rfl)) (by rfl) (by first|exact .inl rfl|exact .inr rfl|assumption)) (@au _ _ _ _ _ (@aN _ _ (4) _ _ _ _ yZ.nd rfl (Or.inr rfl) (@aL _ _ _ _ _ _ _ _ _ _ AD (hr.mono (by decide)) (@aa _ _ _ _ _ (@aF _ _ _ _ _ _ (cz K) cD (pv 0) ak (fun _ _=>rfl)) (@aa _ _ _ _ _ (pv 3) (@aa _ _ _ _ _ (@aL _ _ _ _ _ _ _ _ _ _ pR (hr.mono (by decide)) (@aa _ _ _ _ _ (pv 0) (@aa _ _ _ _ _ (pv 1) ah rfl) rfl) (by rfl) (by decide) (by rfl) (by rfl)) (@aa _ _ _ _ _ (@aF _ _ _ _ _ _ (dM K) bQ (pv 1) (pv 2) (fun _ _=>rfl)) ah rfl) rfl) rfl) rfl) (by rfl) (by decide) (by rfl) (by rfl)) (by rfl) (by first|exact .inl rfl|exact .inr rfl|assumption)) (@aJ _ _ _ (@bu _ _ _ _ (fh (dB.of (show dY (aR uq) ["net","word","place","there","counts"] _ ["letter","counts"] [none,some 4]=true by decide+kernel)) (@fj _ _ _ _ (@cC _ _ _ _ _ _ _ _ (ve) (Ua rfl) rfl gM oW (@aa _ _ _ _ _ (pv 4) ah rfl) (by decide) (by decide) (by rfl) (by rfl))) (fun _ _ _ _=>⟨(aO (i:=0) (by show List.Nodup (["letter","counts"]:List Str);decide+kernel) rfl (Or.inl rfl)),fL,(@cZ _ _ _ _ _ (@aa _ _ _ _ _ (pv 0) (@aa _ _ _ _ _ (@aF _ _ _ _ _ _ (jD) m9 (pv 1) (pv 0) (fun _ _=>rfl)) ah rfl) rfl))⟩)))))),?_⟩
 refine Sv.fJ hlive hds aD (ρ:=[.d false _, .d false _, .d false _, .no, .no]) rfl ?_
 clear aD hds
 have p2:=hN.hp.1
 have gK:=hN.gK
 have n0:=hN.n0
 have n1:=hN.n1
 have m6:cJ ws=mO (ws.map some):=by show PyData.list _=PyData.list _;rw[c6];rfl
 have Vj:(ws.map some).length=n.toNat:=by rw[aj];exact hwl
 have pJ:∀prs∈cs,mj prs (ws.map some).length:=fun prs eZ pr bC=>by
  obtain⟨_,_,g⟩:=hN.ok prs eZ
  obtain⟨a0,a1,a2,a3⟩:=g pr bC
  exact⟨a0,by omega,by unfold Sm;omega⟩
 have pP:lF (ws.map some):=fun x hx=>by
  obtain⟨y,hy,e⟩:=bU.mp hx
  cases e
  obtain⟨a0,a1⟩:=hws x hy
  unfold Sm;omega
 have Hy:pl.toNat<ws.length:=by omega
 have hat:bD (ws.map PyData.int) pl=some (.int (ws.getD pl.toNat 0)):=gp K5 (by rw[aI,aB Hy,bA,aB Hy];rfl)
 have hvl:=qG (p:=p) (cs:=cs) (pl:=pl) cs.length
 walk_at "dt"
 refine Ev.qC ?_
 refine Ev.bZ FP ?_
 walk_at "dt"
 refine⟨rfl,p,n,cs,[pl],rfl,hN,by simp,by show 1<=1000;omega,fun f0=>?_⟩
 refine⟨[(pl,PyData.list ((dU p cs pl cs.length).map pairD))],rfl,?_⟩
 walk_at "dt"
 refine⟨_,by rw[oh,if_pos rfl],?_⟩
 walk_at "dt"
 refine Ev.bZ GX ?_
 walk_at "dt"
 refine Ev.bZ xJ ?_
 walk_at "dt"
 refine⟨rfl,p,n,cs,ws.map some,by show[_,_]=_;rw[m6],by omega,by omega,pJ,pP,?_⟩
 rw[xF]
 walk_at "dt"
 refine⟨rfl,p,ws.getD pl.toNat 0,dU p cs pl cs.length,eW p cs ws,rfl,by omega,gK,by omega,fun qq hq=>?_,fun s hs=>?_,fun ks hK jK=>?_⟩
 ·obtain⟨c,prs,ff,e1,e2,e3,rfl⟩:=sJ (aK _) hq
  have hr:=u6 (p:=p) (b:=ff) (a:=1) (by omega)
  refine⟨by show(0:Int)<=c;omega,?_,hr.1,hr.2⟩
  show(c:Int)<_
  unfold eW
  rw[aj]
  omega
 ·unfold eW at hs
  obtain⟨prs,_,rfl⟩:=bU.mp hs
  exact⟨gm _ (by omega),fY _ (by omega)⟩
 have eL:(dU p cs pl cs.length).map (fun q=>(ws.getD pl.toNat 0-(eW p cs ws).getD q.1.toNat 0*q.2)%p)=dR p cs ws pl:=by
  unfold dR
  apply e7
  intro qq hq
  obtain⟨c,prs,ff,e1,e2,e3,rfl⟩:=sJ (aK _) hq
  dsimp only
  rw[iT,HL c e2]
 rw[eL] at hK
 walk_at "dt"
 refine aA.ev (aA.iW (by decide) rfl ?_)
 refine aA.ev (aA.Og ?_)
 walk_at "dt"
 refine⟨ks,rfl,by omega,fun rs hrs iz=>?_⟩
 obtain⟨ms,nd,hm,rfl⟩:=id hK
 rw[c6,show((fun(x:Int×PyData)=>x.1)∘fun c=>(c,PyData.int ((dR p cs ws pl).count c)))=id from rfl,List.map_id] at iz
 have hrnd:rs.Nodup:=iz.nodup_iff.mpr nd
 have R6:rs.Pairwise (· < ·):=(hrs.and hrnd).imp fun⟨x,y⟩=>by omega
 have hmem:∀k,k∈rs↔k∈dR p cs ws pl:=fun k=>by rw[iz.mem_iff,hm k]
 rw[aj] at jK
 have hrl:rs.length<=1000:=by rw[iz.length_eq];omega
 walk_at "dt"
 refine⟨by rw[aj];omega,fun v=>⟨true,fun i ds=>ds=(rs.take i).map fun r=>pairD (r,((dR p cs ws pl).count r:Int)),rfl,?_,?_⟩⟩
 ·rintro i d ds hd hl' rfl
  obtain⟨r,hr,rfl⟩:=fT hd
  have hrm:r∈ms:=iz.mem_iff.mp (dN hr)
  walk_at "dt"
  refine⟨by walk_at "wk",?_⟩
  walk_at "dt"
  refine Ev.qC ?_
  walk_at "dt"
  refine⟨_,rfl,?_⟩
  walk_at "dt"
  refine⟨_,by rw[o8,if_pos hrm],?_⟩
  walk_at "dt"
  refine⟨fun _=>rfl,?_⟩
  show _=List.map _ (List.take (i+1) rs)
  rw[take_snoc hr,fP]
  rfl
 ·rintro ds hl' rfl
  rw[aj,iF]
  exact q rs R6 hmem
def qM:DF:=fun ds Φ=>∃(p n:Int) (cs:List ao) (ws:List Int),ds=[.int p, .dict ((lW p cs n.toNat).map cE), .list ((eW p cs ws).map .int),cJ ws]/\fG p n cs/\ws.length=n.toNat/\(∀x∈ws,0<=x/\x<p)/\Φ true (.list ((br p cs ws n.toNat).map c7))
theorem G8:dj qM:=by
 intro ds Φ Ψ hm z
 obtain⟨p,n,cs,ws,e,h1,h2,h3,q⟩:=hm
 exact⟨p,n,cs,ws,e,h1,h2,h3,z _ _ q⟩
theorem ow:ck ["p","found","reached","word","turns","place","old","counts","new"] ["p","found","reached","word"] (aR yT):=⟨rfl,rfl,rfl,by decide+kernel,rfl,by decide+kernel,by decide+kernel⟩
theorem Tz(F:bO K "turns_of" "turns_of" yT f fd)(AD:Callee P w K mg base "counts_of" 1 ["p","there","reached","letter"] (aY 4 rO))(nZ:mg "enumerate"=none)(bP:mg "len"=none):
  bH P w K mg base bM 2 f fd ["p","found","reached","word"] (aY 4 qM):=by
 refine F.ok ow (fun vs H Q E h=>h.1) (fun cdv A outer s H vs Q E hr h=>?_)
 obtain⟨nb,ds,Φ,hlive,hds,aD,hF⟩:=fV h
 obtain⟨p,n,cs,ws,rfl,hN,hwl,hws,q⟩:=hF
 refine⟨_,(@au _ _ _ _ _ (@aN _ _ (4) _ _ _ _ ow.nd rfl (Or.inl rfl) (@eY _ _ _ _ ah) (by rfl) (by first|exact .inl rfl|exact .inr rfl|assumption)) (@au _ _ _ _ _ (@gE _ _ _ _ _ _ _ _ fB rfl (@DQ _ (K) _ _ _ _ _ _ _ rfl rfl nZ (pv 3) (by rfl)) (@iA _ (K) _ _ _ (2) _ rfl rfl (@bV _ _ _ _ _ (aO (i:=5) ow.nd rfl (Or.inl rfl)) (@bV _ _ _ _ _ (aO (i:=6) ow.nd rfl (Or.inl rfl)) gR (by rfl)) (by rfl)) (by rfl) (by rfl)) (@au _ _ _ _ _ (@aN _ _ (7) _ _ _ _ ow.nd rfl (Or.inl rfl) (@aL _ _ _ _ _ _ _ _ _ _ AD (hr.mono (by decide)) (@aa _ _ _ _ _ (pv 0) (@aa _ _ _ _ _ (@aF _ _ _ _ _ _ (jD) m9 (pv 1) (pv 5) (fun _ _=>rfl)) (@aa _ _ _ _ _ (pv 2) (@aa _ _ _ _ _ (pv 6) ah rfl) rfl) rfl) rfl) (by rfl) (by decide) (by rfl) (by rfl)) (by rfl) (by first|exact .inl rfl|exact .inr rfl|assumption)) (@aJ _ _ _ (@Oc _ _ _ (@gE _ _ _ _ _ _ _ _ fB rfl (@Jl _ _ _ _ (pv 7)) (aO (i:=8) ow.nd rfl (Or.inl rfl)) (@aJ _ _ _ (@fc _ _ _ _ _ _ _ _ (PW.pt (nM (@cH _ _ _ _ _ _ _ _ jU (pv 8) (pv 6) (cg _)) (nJ (@cH _ _ _ _ _ _ _ _ yf (@aG _ _ _ _ _ _ _ _ gx ak (@aF _ _ _ _ _ _ (jD) m9 (pv 7) (pv 8) (fun _ _=>rfl))) (@cC _ _ _ _ _ _ _ _ (gn K) iM rfl bP iy (@aa _ _ _ _ _ (@aF _ _ _ _ _ _ (jD) m9 (pv 1) (pv 5) (fun _ _=>rfl)) ah rfl) (by decide) (by decide) (by rfl) (by rfl)) (cg _))))) (@aJ _ _ _ (@nj _ _ _ _ (kg kO nq nH lI (pv 4) (@aa _ _ _ _ _ (@cZ _ _ _ _ _ (@aa _ _ _ _ _ (pv 5) (@aa _ _ _ _ _ (pv 6) (@aa _ _ _ _ _ (pv 8) ah rfl) rfl) rfl)) ah rfl)) (by rfl))) fE)) (by intro _;rfl))))) (by intro _;rfl)) (@aJ _ _ _ (@bu _ _ _ _ (pv 4))))),?_⟩
 refine Sv.fJ hlive hds aD (ρ:=[.d false _, .d false _, .d false _, .d false _, .no, .no, .no, .no, .no]) rfl ?_
 clear aD hds
 have p2:=hN.hp.1
 have gK:=hN.gK
 have n0:=hN.n0
 have n1:=hN.n1
 have hcl:=hN.cl
 have tV:(ws.map PyData.int).length=ws.length:=aj ..
 have hsl:(eW p cs ws).length=cs.length:=by unfold eW;exact aj ..
 have OF:∀s∈eW p cs ws,0<=s/\s<p:=fun s hs=>by
  unfold eW at hs
  obtain⟨prs,_,rfl⟩:=bU.mp hs
  exact⟨gm _ (by omega),fY _ (by omega)⟩
 walk_at "dt"
 intro A4
 refine Sv.seq ?_
 refine Sv.Bt ?_
 walk_at "dt"
 refine fun v=>⟨fun i ρ=>∃(x5 x6 x7 x8:Sl),ρ=[.d false (.int p), .d false (.dict ((lW p cs n.toNat).map cE)), .d false (.list ((eW p cs ws).map .int)), .d false (cJ ws), .own A4 true ((br p cs ws i).map c7),x5,x6,x7,x8],⟨_,_,_,_,rfl⟩,?_,?_⟩
 ·rintro i d ρ ⟨e,he,rfl⟩ ⟨x5,x6,x7,x8,rfl⟩
  obtain⟨old,hold,rfl⟩:=fT he
  have hil:=(bh.mp hold).1
  have hin:i<n.toNat:=by omega
  have hval:=QC (p:=p) (cs:=cs) hin
  have hog:ws.getD i 0=old:=by rw[bA,hold];rfl
  have hvl:=qG (p:=p) (cs:=cs) (pl:=(i:Int)) cs.length
  have jW:=qm (p:=p) (cs:=cs) (ws:=ws) i
  have eL:(dU p cs (i:Int) cs.length).map (fun q=>(old-(eW p cs ws).getD q.1.toNat 0*q.2)%p)=dR p cs ws (i:Int):=by
   unfold dR
   apply e7
   intro qq hq
   obtain⟨c,prs,ff,e1,e2,e3,rfl⟩:=sJ (aK _) hq
   dsimp only
   rw[iT,iT,HL c e2,hog]
  have FY:(dU p cs (i:Int) cs.length).length=(dR p cs ws (i:Int)).length:=by unfold dR;rw[aj]
  walk_at "dt"
  refine Ev.bZ GX ?_
  walk_at "dt"
  refine Ev.qC ?_
  walk_at "dt"
  refine⟨_,rfl,?_⟩
  walk_at "dt"
  refine⟨_,hval,?_⟩
  walk_at "dt"
  refine⟨rfl,p,old,dU p cs (i:Int) cs.length,eW p cs ws,rfl,by omega,gK,by omega,fun qq hq=>?_,OF,fun ks hK jK=>?_⟩
  ·obtain⟨c,prs,ff,e1,e2,e3,rfl⟩:=sJ (aK _) hq
   have hr:=u6 (p:=p) (b:=ff) (a:=1) (by omega)
   exact⟨by show(0:Int)<=c;omega,by show(c:Int)<_;omega,hr.1,hr.2⟩
  rw[eL] at hK
  obtain⟨ms,nd,hm,rfl⟩:=id hK
  rw[aj] at jK
  obtain⟨VL,rQ⟩:∃VL,dR p cs ws (i:Int)=VL:=⟨_,rfl⟩
  rw[rQ] at hm FY hK
  have U4:∀x∈VL,0<=x/\x<p:=by rw[<-rQ];exact sQ (by omega)
  simp only[rQ]
  refine Gv.name ?_
  refine Sv.M7 ?_
  walk_at "dt"
  refine⟨_,rfl,fun G' v=>?_⟩
  have Pk:(ms.map fun c=>(c,PyData.int (VL.count c))).length=ms.length:=aj ..
  refine⟨fun j ρ=>∃(x8:Sl),ρ=[.d false (.int p), .d false (.dict ((lW p cs n.toNat).map cE)), .d false (.list ((eW p cs ws).map .int)), .d false (cJ ws), .own A4 true ((br p cs ws i++((ms.take j).filter (cS VL old)).map fun x=>((i:Int),old,x)).map c7), .d true (.int i), .d true (.int old), .d true (.dict ((ms.map fun c=>(c,PyData.int (VL.count c))).map cE)),x8],?_,?_,?_⟩
  ·refine⟨x8,?_⟩
   rw[List.take_zero,List.filter_nil,mK,iS]
   rfl
  ·rintro j d ρ ⟨kv,hkv,rfl⟩ ⟨x8,rfl⟩
   rw[aI] at hkv
   obtain⟨x,hx,rfl⟩:=i9.mp hkv
   have tQ:=dN hx
   have hjl:=(bh.mp hx).1
   have UA:VL.count x<=VL.length:=List.count_le_length
   have s1:Sm (VL.count x:Int):=by unfold Sm;omega
   have s2:Sm 2:=by unfold Sm;omega
   have Vl:(br p cs ws i++((ms.take j).filter (cS VL old)).map fun x=>((i:Int),old,x)).length<9999:=by
    rw[cO,aj]
    have:=List.length_filter_le (cS VL old) (ms.take j)
    rw[kF] at this
    omega
   have hts:=take_snoc hx
   refine Gv.pT ?_
   walk_at "dt"
   by_cases c1:x=old
   ·rw[if_neg (by simp[c1])]
    walk_at "dt"
    refine⟨.d true (.int x),?_⟩
    rw[hts,yO,show[x].filter (cS VL old)=[] by simp[cS,c1],iS]
    rfl
   ·rw[if_pos (by simp[c1])]
    walk_at "dt"
    refine Ev.qC ?_
    walk_at "dt"
    refine⟨_,rfl,?_⟩
    walk_at "dt"
    refine⟨_,by rw[o8,if_pos tQ],?_⟩
    walk_at "dt"
    refine Ev.qC ?_
    walk_at "dt"
    refine⟨_,rfl,?_⟩
    walk_at "dt"
    refine⟨_,hval,?_⟩
    walk_at "dt"
    have qj:((dU p cs (i:Int) cs.length).map pairD).length=VL.length:=by rw[aj,FY]
    rw[qj]
    by_cases c2:VL.length<2*VL.count x
    ·rw[if_pos (by simp;omega)]
     walk_at "dt"
     refine⟨by rw[aj];omega,?_⟩
     refine⟨.d true (.int x),?_⟩
     have heq:(br p cs ws i++((ms.take (j+1)).filter (cS VL old)).map fun x=>((i:Int),old,x)).map c7=(br p cs ws i++((ms.take j).filter (cS VL old)).map fun x=>((i:Int),old,x)).map c7++[c7 ((i:Int),old,x)]:=by
      rw[hts,yO,show[x].filter (cS VL old)=[x] by simp[cS,c1,c2]]
      simp
     rw[heq]
     rfl
    ·rw[if_neg (by simp;omega)]
     walk_at "dt"
     refine⟨.d true (.int x),?_⟩
     rw[hts,yO,show[x].filter (cS VL old)=[] by simp[cS,c2],iS]
     rfl
  ·rintro ρ ⟨x8,rfl⟩
   rw[Pk,iF,Rz nd hm]
   have hs:br p cs ws (i+1)=br p cs ws i++(jw VL old).map fun x=>((i:Int),old,x):=by
    rw[yR]
    unfold iP
    rw[rQ,hog]
   rw[<-hs]
   exact⟨_,_,_,_,rfl⟩
 ·rintro ρ ⟨x5,x6,x7,x8,rfl⟩
  rw[tV,hwl]
  walk_at "dt"
  exact q
def rZ:DF:=fun ds Φ=>∃(ws:List Int) (ts:List (Int×Int×Int)),ds=[cJ ws, .list (ts.map c7)]/\ws.length<=9000/\(∀t∈ts,0<=t.1/\t.1<ws.length)/\Φ true (cJ (c9 ws ts))
theorem EK:dj rZ:=by
 intro ds Φ Ψ hm z
 obtain⟨ws,ts,e,h1,h2,q⟩:=hm
 exact⟨ws,ts,e,h1,h2,z _ _ q⟩
theorem qp:ck ["word","turns","told","place","old","new"] ["word","turns"] (aR wZ):=⟨rfl,rfl,rfl,by decide+kernel,rfl,by decide+kernel,by decide+kernel⟩
theorem LY(F:bO K "with_turns" "with_turns" wZ f fd)(cX:mg "list"=none):
  bH P w K mg base bM 1 f fd ["word","turns"] (aY 2 rZ):=by
 refine F.ok qp (fun vs H Q E h=>h.1) (fun cdv A outer s H vs Q E hr h=>?_)
 obtain⟨nb,ds,Φ,hlive,hds,aD,hF⟩:=fV h
 obtain⟨ws,ts,rfl,hwl,hts,q⟩:=hF
 refine⟨_,(@au _ _ _ _ _ (@aN _ _ (2) _ _ _ _ qp.nd rfl (Or.inl rfl) (@iR _ _ _ _ _ _ _ _ (k9 K) oM rfl cX jz (@aa _ _ _ _ _ (pv 0) ah rfl) (by decide) (by decide) (by rfl) (by rfl)) (by rfl) (by first|exact .inl rfl|exact .inr rfl|assumption)) (@au _ _ _ _ _ (@gE _ _ _ _ _ _ _ _ fB rfl (@fj _ _ _ _ (pv 1)) (@iA _ (K) _ _ _ (3) _ rfl rfl (@bV _ _ _ _ _ (aO (i:=3) qp.nd rfl (Or.inl rfl)) (@bV _ _ _ _ _ (aO (i:=4) qp.nd rfl (Or.inl rfl)) (@bV _ _ _ _ _ (aO (i:=5) qp.nd rfl (Or.inl rfl)) gR (by rfl)) (by rfl)) (by rfl)) (by rfl) (by rfl)) (@aJ _ _ _ (@iY _ _ _ _ _ _ (pv 5) (l8 (pv 2) (pv 3) set_list) (by rfl) (by rfl) (by rfl))) (by intro _;rfl)) (@aJ _ _ _ (@bu _ _ _ _ (pv 2))))),?_⟩
 refine Sv.fJ hlive hds aD (ρ:=[.d false _, .d false _, .no, .no, .no, .no]) rfl ?_
 clear aD hds
 refine Sv.seq ?_
 refine Sv.wH (aA.listOf ?_)
 walk_at "dt"
 intro A2
 rw[vR,sE]
 refine Sv.seq ?_
 refine Sv.forL ?_
 walk_at "dt"
 refine fun v=>⟨fun i ρ=>∃(x3 x4 x5:Sl),ρ=[.d false (cJ ws), .d false (.list (ts.map c7)), .own A2 true ((c9 ws (ts.take i)).map .int),x3,x4,x5],⟨_,_,_,rfl⟩,?_,?_⟩
 ·rintro i d ρ hd ⟨x3,x4,x5,rfl⟩
  obtain⟨t,ht,rfl⟩:=fT hd
  obtain⟨t0,t1⟩:=hts t (dN ht)
  have hl:=l7 ws (ts.take i)
  have hix:gz ((c9 ws (ts.take i)).map PyData.int).length t.1=some t.1.toNat:=by
   unfold gz
   rw[aj]
   repeat (first|rw[if_pos (by omega)]|rw[if_neg (by omega)])
  walk_at "dt"
  refine⟨_,_,rfl,hix,?_⟩
  rw[<-List.map_set,<-S1,<-take_snoc ht]
  exact⟨_,_,_,rfl⟩
 ·rintro ρ ⟨x3,x4,x5,rfl⟩
  rw[aj,iF]
  walk_at "dt"
  exact q
def Ad:DF:=fun ds Φ=>∃(p n:Int) (cs:List ao) (ws:List Int),ds=[dQ p n cs,cJ ws]/\fG p n cs/\ws.length=n.toNat/\(∀x∈ws,0<=x/\x<p)/\Φ true (.tuple [cJ (c9 ws (br p cs ws n.toNat)), .list ((br p cs ws n.toNat).map c7)])
theorem BN:dj Ad:=by
 intro ds Φ Ψ hm z
 obtain⟨p,n,cs,ws,e,h1,h2,h3,q⟩:=hm
 exact⟨p,n,cs,ws,e,h1,h2,h3,z _ _ q⟩
theorem Bj:ck ["net","word","turns"] ["net","word"] (aR wJ):=⟨rfl,rfl,rfl,by decide+kernel,rfl,by decide+kernel,by decide+kernel⟩
theorem Pf(F:bO K "turned" "turned" wJ f fd)(uZ:Callee P w K mg base "turns_of" 2 ["p","found","reached","word"] (aY 4 qM))(zL:Callee P w K mg base "all_voices" 3 ["net"] (aY 1 rS))(pR:Callee P w K mg base "sums" 3 ["net","word"] (aY 2 qo))(yI:Callee P w K mg base "with_turns" 1 ["word","turns"] (aY 2 rZ)):
  bH P w K mg base bM 4 f fd ["net","word"] (aY 2 Ad):=by
 refine F.ok Bj (fun vs H Q E h=>h.1) (fun cdv A outer s H vs Q E hr h=>?_)
 obtain⟨nb,ds,Φ,hlive,hds,aD,hF⟩:=fV h
 obtain⟨p,n,cs,ws,rfl,hN,hwl,hws,q⟩:=hF
 refine⟨_,(@au _ _ _ _ _ (@aN _ _ (2) _ _ _ _ Bj.nd rfl (Or.inl rfl) (@aL _ _ _ _ _ _ _ _ _ _ uZ (hr.mono (by decide)) (@aa _ _ _ _ _ (@aF _ _ _ _ _ _ (cz K) cD (pv 0) ak (fun _ _=>rfl)) (@aa _ _ _ _ _ (@aL _ _ _ _ _ _ _ _ _ _ zL (hr.mono (by decide)) (@aa _ _ _ _ _ (pv 0) ah rfl) (by rfl) (by decide) (by rfl) (by rfl)) (@aa _ _ _ _ _ (@aL _ _ _ _ _ _ _ _ _ _ pR (hr.mono (by decide)) (@aa _ _ _ _ _ (pv 0) (@aa _ _ _ _ _ (pv 1) ah rfl) rfl) (by rfl) (by decide) (by rfl) (by rfl)) (@aa _ _ _ _ _ (pv 1) ah rfl) rfl) rfl) rfl) (by rfl) (by decide) (by rfl) (by rfl)) (by rfl) (by first|exact .inl rfl|exact .inr rfl|assumption)) (@aJ _ _ _ (@bu _ _ _ _ (@cZ _ _ _ _ _ (@aa _ _ _ _ _ (@aL _ _ _ _ _ _ _ _ _ _ yI (hr.mono (by decide)) (@aa _ _ _ _ _ (pv 1) (@aa _ _ _ _ _ (pv 2) ah rfl) rfl) (by rfl) (by decide) (by rfl) (by rfl)) (@aa _ _ _ _ _ (pv 2) ah rfl) rfl))))),?_⟩
 refine Sv.fJ hlive hds aD (ρ:=[.d false _, .d false _, .no]) rfl ?_
 clear aD hds
 have p2:=hN.hp.1
 have gK:=hN.gK
 have n0:=hN.n0
 have n1:=hN.n1
 have hcl:=hN.cl
 have yu:cJ ws=mO (ws.map some):=by show PyData.list _=PyData.list _;rw[c6];rfl
 have pJ:∀prs∈cs,mj prs (ws.map some).length:=fun prs eZ pr bC=>by
  obtain⟨_,_,g⟩:=hN.ok prs eZ
  obtain⟨a0,a1,a2,a3⟩:=g pr bC
  exact⟨a0,by rw[aj];omega,by unfold Sm;omega⟩
 have pP:lF (ws.map some):=fun x hx=>by
  obtain⟨y,hy,e⟩:=bU.mp hx
  cases e
  obtain⟨a0,a1⟩:=hws x hy
  unfold Sm;omega
 walk_at "dt"
 refine Ev.bZ G8 ?_
 walk_at "dt"
 refine Ev.bZ Cz ?_
 walk_at "dt"
 refine⟨rfl,p,n,cs,rfl,hN,fun f0=>?_⟩
 walk_at "dt"
 refine Ev.bZ xJ ?_
 walk_at "dt"
 refine⟨rfl,p,n,cs,ws.map some,by show[_,_]=_;rw[yu],by omega,by omega,pJ,pP,?_⟩
 rw[xF]
 walk_at "dt"
 refine⟨rfl,p,n,cs,ws,rfl,hN,hwl,hws,?_⟩
 refine Gv.name ?_
 walk_at "dt"
 refine Ev.bZ EK ?_
 walk_at "dt"
 refine⟨rfl,ws,_,rfl,by omega,fun t ht=>?_,?_⟩
 ·obtain⟨i,hi,e1,_⟩:=pZ ht
  omega
 walk_at "dt"
 exact q
def Ba:DF:=fun ds Φ=>∃(ss:List Int),ds=[.list (ss.map .int)]/\ss.length<=9000/\Φ true (.int (ss.countP fun s=>decide (s≠0):Nat))
theorem KP:dj Ba:=by
 intro ds Φ Ψ hm z
 obtain⟨ss,e,h1,q⟩:=hm
 exact⟨ss,e,h1,z _ _ q⟩
theorem QT:ck ["reached"] ["reached"] (aR rN):=⟨rfl,rfl,rfl,by decide+kernel,rfl,by decide+kernel,by decide+kernel⟩
theorem Sq(F:bO K "broken_of" "broken_of" rN f fd)(bP:mg "len"=none):
  bH P w K mg base bM 1 f fd ["reached"] (aY 1 Ba):=by
 refine F.ok QT (fun vs H Q E h=>h.1) (fun cdv A outer s H vs Q E hr h=>?_)
 obtain⟨nb,ds,Φ,hlive,hds,aD,hF⟩:=fV h
 obtain⟨ss,rfl,hl,q⟩:=hF
 refine⟨_,(@aJ _ _ _ (@bu _ _ _ _ (@cC _ _ _ _ _ _ _ _ (gn K) iM rfl bP iy (@aa _ _ _ _ _ (fh (dB.of (show dY (aR rN) ["reached"] _ ["number"] [none]=true by decide+kernel)) (@fj _ _ _ _ (pv 0)) (fun _ _ _ _=>⟨(aO (i:=0) (by show List.Nodup (["number"]:List Str);decide+kernel) rfl (Or.inl rfl)),(tF (@cH _ _ _ _ _ _ _ _ jU (pv 0) ak (cg _))),(pv 0)⟩)) ah rfl) (by decide) (by decide) (by rfl) (by rfl)))),?_⟩
 refine Sv.fJ hlive hds aD (ρ:=[.d false _]) rfl ?_
 clear aD hds
 walk_at "dt"
 refine aA.ev (aA.iW (by decide) rfl ?_)
 walk_at "dt"
 refine⟨by rw[aj];omega,fun v=>⟨false,fun i ds=>ds.length=(ss.take i).countP fun s=>decide (s≠0),rfl,?_,?_⟩⟩
 ·rintro i d ds hd hl' hds
  obtain⟨s,hs,rfl⟩:=fT hd
  have hts:=take_snoc hs
  walk_at "dt"
  refine⟨by walk_at "wk",?_⟩
  walk_at "dt"
  by_cases c:s=0
  ·rw[if_neg (by simp[c])]
   show ds.length=(ss.take (i+1)).countP _
   rw[hds,hts,Ar,xD,if_neg (by simp[c])]
   rfl
  ·rw[if_pos (by simp[c])]
   walk_at "dt"
   show(ds++[_]).length=(ss.take (i+1)).countP _
   rw[cO,gQ,hds,hts,Ar,xD,if_pos (by simp[c])]
 ·rintro ds hl' hds
  rw[aj,iF] at hds
  refine⟨ds, .inl rfl,?_⟩
  rw[hds]
  walk_at "dt"
  exact q
def vK:DF:=fun ds Φ=>∃(p n:Int) (cs:List ao) (ws:List Int) (m:Nat),ds=[dQ p n cs,cJ ws, .int m]/\fG p n cs/\m<=5000/\ws.length=n.toNat/\(∀x∈ws,0<=x/\x<p)/\Φ true (sS (cF p cs n.toNat m ws))
theorem Gs:dj vK:=by
 intro ds Φ Ψ hm z
 obtain⟨p,n,cs,ws,m,e,h1,h2,h3,h4,q⟩:=hm
 exact⟨p,n,cs,ws,m,e,h1,h2,h3,h4,z _ _ q⟩
theorem mG:ck ["net","word","most","found","told","rounds","reached","turns"] ["net","word","most"] (aR zf):=⟨rfl,rfl,rfl,by decide+kernel,rfl,by decide+kernel,by decide+kernel⟩
theorem Ju(F:bO K "voted" "voted" zf f fd)(zL:Callee P w K mg base "all_voices" 3 ["net"] (aY 1 rS))(pR:Callee P w K mg base "sums" 3 ["net","word"] (aY 2 qo))(uZ:Callee P w K mg base "turns_of" 2 ["p","found","reached","word"] (aY 4 qM))(yI:Callee P w K mg base "with_turns" 1 ["word","turns"] (aY 2 rZ))(OE:Callee P w K mg base "broken_of" 1 ["reached"] (aY 1 Ba))(cX:mg "list"=none)(bP:mg "len"=none):
  bH P w K mg base bM 4 f fd ["net","word","most"] (aY 3 vK):=by
 refine F.ok mG (fun vs H Q E h=>h.1) (fun cdv A outer s H vs Q E hr h=>?_)
 obtain⟨nb,ds,Φ,hlive,hds,aD,hF⟩:=fV h
 obtain⟨p,n,cs,ws,m,rfl,hN,hm,hwl,hws,q⟩:=hF
 refine⟨_,(@au _ _ _ _ _ (@aN _ _ (3) _ _ _ _ mG.nd rfl (Or.inl rfl) (@aL _ _ _ _ _ _ _ _ _ _ zL (hr.mono (by decide)) (@aa _ _ _ _ _ (pv 0) ah rfl) (by rfl) (by decide) (by rfl) (by rfl)) (by rfl) (by first|exact .inl rfl|exact .inr rfl|assumption)) (@au _ _ _ _ _ (@aN _ _ (4) _ _ _ _ mG.nd rfl (Or.inl rfl) (@iR _ _ _ _ _ _ _ _ (k9 K) oM rfl cX jz (@aa _ _ _ _ _ (pv 1) ah rfl) (by decide) (by decide) (by rfl) (by rfl)) (by rfl) (by first|exact .inl rfl|exact .inr rfl|assumption)) (@au _ _ _ _ _ (@aN _ _ (5) _ _ _ _ mG.nd rfl (Or.inl rfl) (@eY _ _ _ _ ah) (by rfl) (by first|exact .inl rfl|exact .inr rfl|assumption)) (@aJ _ _ _ (@xS _ _ _ _ _ _ fB (@qI _ (K) _ _ rfl nB (fun _=>rfl)) (@au _ _ _ _ _ (@aN _ _ (6) _ _ _ _ mG.nd rfl (Or.inl rfl) (@aL _ _ _ _ _ _ _ _ _ _ pR (hr.mono (by decide)) (@aa _ _ _ _ _ (pv 0) (@aa _ _ _ _ _ (pv 4) ah rfl) rfl) (by rfl) (by decide) (by rfl) (by rfl)) (by rfl) (by first|exact .inl rfl|exact .inr rfl|assumption)) (@au _ _ _ _ _ (@fc _ _ _ _ _ _ _ _ (@cH _ _ _ _ _ _ _ _ ji (@aL _ _ _ _ _ _ _ _ _ _ OE (hr.mono (by decide)) (@aa _ _ _ _ _ (pv 6) ah rfl) (by rfl) (by decide) (by rfl) (by rfl)) ak (cg _)) (@aJ _ _ _ (@bu _ _ _ _ (@cZ _ _ _ _ _ (@aa _ _ _ _ _ (pv 4) (@aa _ _ _ _ _ (pv 5) (@aa _ _ _ _ _ (@cZ _ _ _ _ _ (@aa _ _ _ _ _ yi ah rfl)) ah rfl) rfl) rfl)))) fE) (@au _ _ _ _ _ (@fc _ _ _ _ _ _ _ _ (@cH _ _ _ _ _ _ _ _ MC (@cC _ _ _ _ _ _ _ _ (gn K) iM rfl bP iy (@aa _ _ _ _ _ (pv 5) ah rfl) (by decide) (by decide) (by rfl) (by rfl)) (pv 2) (cg _)) (@aJ _ _ _ (@bu _ _ _ _ (@cZ _ _ _ _ _ (@aa _ _ _ _ _ (pv 4) (@aa _ _ _ _ _ (pv 5) (@aa _ _ _ _ _ (@cZ _ _ _ _ _ (@aa _ _ _ _ _ yi ah rfl)) ah rfl) rfl) rfl)))) fE) (@au _ _ _ _ _ (@aN _ _ (7) _ _ _ _ mG.nd rfl (Or.inl rfl) (@aL _ _ _ _ _ _ _ _ _ _ uZ (hr.mono (by decide)) (@aa _ _ _ _ _ (@aF _ _ _ _ _ _ (cz K) cD (pv 0) ak (fun _ _=>rfl)) (@aa _ _ _ _ _ (pv 3) (@aa _ _ _ _ _ (pv 6) (@aa _ _ _ _ _ (pv 4) ah rfl) rfl) rfl) rfl) (by rfl) (by decide) (by rfl) (by rfl)) (by rfl) (by first|exact .inl rfl|exact .inr rfl|assumption)) (@au _ _ _ _ _ (@fc _ _ _ _ _ _ _ _ (@cH _ _ _ _ _ _ _ _ (uI hr.units) (pv 7) (@eY _ _ _ _ ah) (cg _)) (@aJ _ _ _ (@bu _ _ _ _ (@cZ _ _ _ _ _ (@aa _ _ _ _ _ (pv 4) (@aa _ _ _ _ _ (pv 5) (@aa _ _ _ _ _ (@cZ _ _ _ _ _ (@aa _ _ _ _ _ yi ah rfl)) ah rfl) rfl) rfl)))) fE) (@au _ _ _ _ _ (@aN _ _ (4) _ _ _ _ mG.nd rfl (Or.inl rfl) (@aL _ _ _ _ _ _ _ _ _ _ yI (hr.mono (by decide)) (@aa _ _ _ _ _ (pv 4) (@aa _ _ _ _ _ (pv 7) ah rfl) rfl) (by rfl) (by decide) (by rfl) (by rfl)) (by rfl) (by first|exact .inl rfl|exact .inr rfl|assumption)) (@aJ _ _ _ (@nj _ _ _ _ (kg kO nq nH lI (pv 5) (@aa _ _ _ _ _ (pv 7) ah rfl)) (by rfl)))))))))))))),?_⟩
 refine Sv.fJ hlive hds aD (ρ:=[.d false _, .d false _, .d false _, .no, .no, .no, .no, .no]) rfl ?_
 clear aD hds
 have p2:=hN.hp.1
 have gK:=hN.gK
 have n0:=hN.n0
 have n1:=hN.n1
 have hcl:=hN.cl
 walk_at "dt"
 refine Ev.bZ Cz ?_
 walk_at "dt"
 refine⟨rfl,p,n,cs,rfl,hN,fun f0=>?_⟩
 refine Gv.kY ?_
 refine Sv.seq ?_
 refine Sv.asg ?_
 generalize uS:(gG 4:TG)=g4
 walk_at "dt"
 subst uS
 rw[vR,sE]
 refine Gv.name ?_
 walk_at "dt"
 intro A5
 obtain⟨wf,hwf⟩:∃wf,(cF p cs n.toNat m ws).1=wf:=⟨_,rfl⟩
 obtain⟨rf,Ep⟩:∃rf,(cF p cs n.toNat m ws).2.1=rf:=⟨_,rfl⟩
 obtain⟨ef,hef⟩:∃ef,(cF p cs n.toNat m ws).2.2=ef:=⟨_,rfl⟩
 have q:Φ true (sS (wf,rf,ef)):=by rw[<-hwf,<-Ep,<-hef];exact q
 refine Sv.Bq (fun ρ=>∃(w:List Int) (st:List (List bN)) (k:Nat) (x6 x7:Sl),w.length=n.toNat/\(∀x∈w,0<=x/\x<p)/\(cF p cs n.toNat k w).1=wf/\st++(cF p cs n.toNat k w).2.1=rf/\(cF p cs n.toNat k w).2.2=ef/\st.length+k=m/\ρ=[.d false (dQ p n cs), .d false (cJ ws), .d false (.int m), .d false (.dict ((lW p cs n.toNat).map cE)), .d true (cJ w), .own A5 true (st.map nh),x6,x7]) (fun(ρ:Rh)=>match ρ[5]? with|some (Sl.own _ _ ds)=>m-ds.length|_=>0) ⟨ws,[],m,_,_,hwl,hws,hwf,Ep,hef,by simp,rfl⟩ ?_
 rintro ρ' ⟨w,st,k,x6,x7,hl,hr,h1,h2,h3,h4,rfl⟩
 have yu:cJ w=mO (w.map some):=by show PyData.list _=PyData.list _;rw[c6];rfl
 have pJ:∀prs∈cs,mj prs (w.map some).length:=fun prs eZ pr bC=>by
  obtain⟨_,_,g⟩:=hN.ok prs eZ
  obtain⟨a0,a1,a2,a3⟩:=g pr bC
  exact⟨a0,by rw[aj];omega,by unfold Sm;omega⟩
 have pP:lF (w.map some):=fun x hx=>by
  obtain⟨y,hy,e⟩:=bU.mp hx
  cases e
  obtain⟨a0,a1⟩:=hr x hy
  unfold Sm;omega
 walk_at "dt"
 refine Ev.bZ xJ ?_
 walk_at "dt"
 refine⟨rfl,p,n,cs,w.map some,by show[_,_]=_;rw[yu],by omega,by omega,pJ,pP,?_⟩
 rw[xF]
 walk_at "dt"
 refine Ev.bZ KP ?_
 walk_at "dt"
 refine⟨rfl,_,rfl,by unfold eW;rw[aj];omega,?_⟩
 rw[Iv]
 walk_at "dt"
 by_cases c1:brk p cs w=0
 ·rw[if_pos (by simpa using c1)]
  rw[mL c1] at h1 h2 h3
  rw[iS] at h2
  dsimp only at h1 h3
  subst h1 h2 h3
  refine Sv.oH 5 rfl ?_
  walk_at "dt"
  exact q
 rw[if_neg (by simpa using c1)]
 walk_at "dt"
 rw[aj]
 by_cases c2:k=0
 ·subst c2
  rw[if_pos (by simp;omega)]
  rw[uO c1] at h1 h2 h3
  rw[iS] at h2
  dsimp only at h1 h3
  subst h1 h2 h3
  refine Sv.oH 5 rfl ?_
  walk_at "dt"
  exact q
 rw[if_neg (by simp;omega)]
 obtain⟨k,rfl⟩:∃k',k=k'+1:=⟨k-1,by omega⟩
 walk_at "dt"
 refine Ev.bZ G8 ?_
 walk_at "dt"
 refine⟨rfl,p,n,cs,w,rfl,hN,hl,hr,?_⟩
 refine Gv.name ?_
 obtain⟨ts,hts⟩:∃ts,br p cs w n.toNat=ts:=⟨_,rfl⟩
 rw[hts]
 walk_at "dt"
 refine⟨T4 ts,R5,_,rfl,?_⟩
 rw[mK,Rk]
 by_cases c3:ts=[]
 ·have c4:=hts
  rw[c3] at c4
  rw[pK c1 c4] at h1 h2 h3
  rw[iS] at h2
  dsimp only at h1 h3
  subst h1 h2 h3
  subst c3
  rw[if_pos (by simp)]
  refine Sv.oH 5 rfl ?_
  walk_at "dt"
  exact q
 rw[if_neg (by simpa using c3)]
 rw[p6 c1 (by rw[hts];exact c3),hts] at h1 h2 h3
 dsimp only at h1 h2 h3
 have hrd:=Eo (cs:=cs) (by omega) hl hr
 rw[hts] at hrd
 refine Sv.next ?_
 refine Sv.seq ?_
 refine Sv.asg ?_
 generalize uS:(gG 4:TG)=g4
 refine Ev.bZ EK ?_
 walk_at "dt"
 refine⟨rfl,w,ts,rfl,by omega,fun t ht=>?_,?_⟩
 ·rw[<-hts] at ht
  obtain⟨i,hi,e1,_⟩:=pZ ht
  omega
 subst uS
 refine Gv.name ?_
 walk_at "dt"
 refine⟨by rw[aj];omega,?_⟩
 refine⟨⟨c9 w ts,st++[ts],k, .d false (.list ((eW p cs w).map .int)), .d true (.list (ts.map c7)),hrd.1,hrd.2,h1,by rw[pL];exact h2,h3,by rw[cO,gQ];omega,by rw[fP];rfl⟩,?_⟩
 show m-(List.map nh st++[_]).length<m-(List.map nh st).length
 rw[cO,gQ,aj]
 omega
theorem rF:ck ["script","stir","cell"] ["script"] (aR sO):=⟨rfl,rfl,rfl,by decide+kernel,rfl,by decide+kernel,by decide+kernel⟩
theorem QV(F:bO K "_law_bag" "_law_bag" sO f fd)(w5:mg "abs"=none):
  bH P w K mg base bM 1 f fd ["script"] (EL K):=by
 refine F.ok rF (fun vs H Q E h=>?_) (fun cdv A outer s H vs Q E hr h=>?_)
 ·obtain⟨a,ns,rfl,hS,hl,q⟩:=h
  rfl
 obtain⟨a,ns,rfl,hS,hl,q⟩:=h
 refine⟨_,(@au _ _ _ _ _ (@aN _ _ (1) _ _ _ _ rF.nd rfl (Or.inl rfl) ak (by rfl) (by first|exact .inl rfl|exact .inr rfl|assumption)) (@au _ _ _ _ _ (@gE _ _ _ _ _ _ _ _ fB rfl (@fj _ _ _ _ (@mw _ _ _ _ _ _ _ _ _ _ lT (pv 0) mH (@lD _ _ _ ak))) (aO (i:=2) rF.nd rfl (Or.inl rfl)) (@aJ _ _ _ (@aN _ _ (1) _ _ _ _ rF.nd rfl (Or.inl rfl) (@aG _ _ _ _ _ _ _ _ gJ (@aG _ _ _ _ _ _ _ _ eN (@aG _ _ _ _ _ _ _ _ eN (@aG _ _ _ _ _ _ _ _ gx (pv 1) ak) (@aG _ _ _ _ _ _ _ _ gJ (pv 2) ak)) ak) ak) (by rfl) (by first|exact .inl rfl|exact .inr rfl|assumption))) (by intro _;rfl)) (@aJ _ _ _ (@bu _ _ _ _ (@eY _ _ _ _ (@aa _ _ _ _ _ (fh (dB.of (show dY (aR sO) ["script","stir","cell"] _ ["cell"] [none]=true by decide+kernel)) (@fj _ _ _ _ (@mw _ _ _ _ _ _ _ _ _ _ lT (pv 0) mH (@lD _ _ _ ak))) (fun _ _ _ _=>⟨(aO (i:=0) (by show List.Nodup (["cell"]:List Str);decide+kernel) rfl (Or.inl rfl)),fL,(@aG _ _ _ _ _ _ _ _ gJ (@cC _ _ _ _ _ _ _ _ _ Ke rfl w5 PyProof.Rows.boot_abs (@aa _ _ _ _ _ (pv 0) ah rfl) (by decide) (by decide) (by rfl) (by rfl)) (@aG _ _ _ _ _ _ _ _ Ht ak ak))⟩)) (@aa _ _ _ _ _ ak (@aa _ _ _ _ _ ak (@aa _ _ _ _ _ (pv 1) (@aa _ _ _ _ _ ak ah rfl) rfl) rfl) rfl) rfl)))))),?_⟩
 have D8:j7 (ns.map V.int) none (some 63)=ns.map V.int:=by
  have e:(ns.map V.int).length=ns.length:=aj _
  show List.take (min 63 (ns.map V.int).length-0) (List.drop 0 (ns.map V.int))=_
  rw[zN]
  exact xV (by omega)
 walk_at "st"
 refine R.Gn hS fun c hc=>?_
 rw[D8]
 refine R.rX (aS.of aV) ?_
 refine GN (xs:=ns.map V.int) (fun i σ H1=>∃(st:Int) (x:Option V),σ=[some (.ref a),some (.int st),x]/\0<=st/\st<2147483647/\H1=upd H c (.lst (ns.map V.int))) ⟨19,none,rfl,by omega,by omega,rfl⟩ ?_ ?_ ?_
 ·rintro i σ H1 hi ⟨st,x,rfl,h1,h2,rfl⟩
  exact aS.of aV
 ·rintro i x σ H1 hx ⟨st,y,rfl,h1,h2,rfl⟩
  rw[aI] at hx
  obtain⟨n,_,rfl⟩:=i9.mp hx
  walk_at "st"
  exact⟨_,_,rfl,gm _ (by decide),fY _ (by decide),rfl⟩
 ·rintro σ H1 ⟨st,x,rfl,h1,h2,rfl⟩
  walk_at "st"
  refine R.Gn ((dg hc).seq hS) fun c2 hc2=>?_
  rw[D8]
  refine R.rX (aS.of aV) ?_
  intro acc hacc
  refine R.z5 (xs:=ns.map V.int) (fun i σ H2=>∃(x:Option V),σ=[x]/\H2=upd (upd (upd H c (.lst (ns.map V.int))) c2 (.lst (ns.map V.int))) acc (.lst (((ns.take i).map fun n=>(if n<0 then-n else n)%10^60).map V.int))) ⟨none,rfl,rfl⟩ ?_ ?_ ?_
  ·rintro i σ H1 hi ⟨x,rfl,rfl⟩
   refine aS.of ?_
   rw[aq (ig aV hacc)]
   exact aV
  ·rintro i x σ H1 hx ⟨y,rfl,rfl⟩
   rw[aI] at hx
   obtain⟨n,hn,rfl⟩:=i9.mp hx
   walk_at "st"
   refine⟨_,aV,?_,_,rfl,?_⟩
   ·rw[aj,aj,kF]
    exact HA (by omega)
   ·rw[u5,wA,hn,fP,fP]
    rfl
  ·rintro σ H1 ⟨x,rfl,rfl⟩
   walk_at "st"
   refine(show z4 _ _ _ from⟨by show 5<=sizeLine;decide,fun p hp=>?_⟩)
   have hn1:=ig (aV (H:=upd (upd H c (.lst (ns.map V.int))) c2 (.lst (ns.map V.int))) (a:=acc)) hp
   have s1:dh H (upd (upd (upd H c (.lst (ns.map V.int))) c2 (.lst (ns.map V.int))) acc (.lst (((ns.take (ns.map V.int).length).map fun n=>(if n<0 then-n else n)%10^60).map V.int))):=(dg hc).trans ((dg hc2).trans (dg hacc))
   refine q p acc _ (s1.trans (dg hp)) (s1.free hp) ⟨_,0,0,st,0,aV,by rw[aq hn1];exact aV,?_,?_,by omega,by omega,by omega,h1,h2⟩
   ·intro y hy
    obtain⟨z,_,rfl⟩:=bU.mp hy
    exact⟨gm _ (by decide),fY _ (by decide)⟩
   ·rw[aj,kF]
    omega
theorem rq:ck ["bag","many","found","k"] ["bag","many"] (aR zj):=⟨rfl,rfl,rfl,by decide+kernel,rfl,by decide+kernel,by decide+kernel⟩
theorem MF(F:bO K "_law_stirred" "_law_stirred" zj f fd)(aZ:mg "range"=none):
  bH P w K mg base bM 1 f fd ["bag","many"] jx:=by
 refine F.ok rq (fun vs H Q E h=>?_) (fun cdv A outer s H vs Q E hr h=>?_)
 ·obtain⟨b,l,many,rfl,hB,hm,hs,q⟩:=h
  rfl
 obtain⟨b,l,many,rfl,hB,hm,hs,q⟩:=h
 refine⟨_,(@au _ _ _ _ _ (@aN _ _ (2) _ _ _ _ rq.nd rfl (Or.inl rfl) ak (by rfl) (by first|exact .inl rfl|exact .inr rfl|assumption)) (@au _ _ _ _ _ (@gE _ _ _ _ _ _ _ _ fB rfl (@iN _ _ _ _ _ _ rfl aZ (@aa _ _ _ _ _ (@aG _ _ _ _ _ _ _ _ eN ak (@aG _ _ _ _ _ _ _ _ nQ (Kh PySem.F.plainAttrs_int PySem.F.slot_int_bit_length PySem.F.type_int_bit_length Oz (pv 1)) ak)) ah rfl) (by rfl)) (aO (i:=3) rq.nd rfl (Or.inl rfl)) (@au _ _ _ _ _ (@iY _ _ _ _ _ _ (@aG _ _ _ _ _ _ _ _ eN (@aF _ _ _ _ _ _ _ bQ (pv 0) ak (fun _ _=>rfl)) ak) (l8 (pv 0) ak set_list) (by rfl) (by rfl) (by rfl)) (@au _ _ _ _ _ (@iY _ _ _ _ _ _ (@aG _ _ _ _ _ _ _ _ gJ (@aG _ _ _ _ _ _ _ _ eN (@aG _ _ _ _ _ _ _ _ eN (@aG _ _ _ _ _ _ _ _ eN (@aG _ _ _ _ _ _ _ _ Ht (@aF _ _ _ _ _ _ _ bQ (pv 0) ak (fun _ _=>rfl)) ak) (@aG _ _ _ _ _ _ _ _ gx ak (@aF _ _ _ _ _ _ _ bQ (pv 0) ak (fun _ _=>rfl)))) (@aG _ _ _ _ _ _ _ _ gx ak (@aF _ _ _ _ _ _ _ bQ (pv 0) ak (fun _ _=>rfl)))) ak) ak) (l8 (pv 0) ak set_list) (by rfl) (by rfl) (by rfl)) (@aJ _ _ _ (@aN _ _ (2) _ _ _ _ rq.nd rfl (Or.inl rfl) (@aG _ _ _ _ _ _ _ _ eN (@aG _ _ _ _ _ _ _ _ gx (pv 2) ak) (@aG _ _ _ _ _ _ _ _ nQ (@aF _ _ _ _ _ _ _ bQ (pv 0) ak (fun _ _=>rfl)) ak)) (by rfl) (by first|exact .inl rfl|exact .inr rfl|assumption))))) (by intro _;rfl)) (@aJ _ _ _ (@bu _ _ _ _ (@aG _ _ _ _ _ _ _ _ gJ (pv 2) (pv 1)))))),?_⟩
 have UP:=wR hs
 walk_at "st"
 refine uL (fun i σ H1=>∃(fv:Int) (x:Option V),σ=[some (.ref b),some (.int many),some (.int fv),x]/\aU (Nb b) H H1/\cU H1 b l) ⟨0,none,rfl,aU.refl _ _,hB⟩ ?_ ?_
 ·rintro i σ H1 hi ⟨fv,x,rfl,bt,ns,j,c,st,n,h1,h2,h3,h4,h5,h6,h7,h8,h9⟩
  have hlb:=CB h1 h2
  walk_at "st"
  refine⟨_,_,rfl,bt.trans (aU.set rfl),?_⟩
  exact cU.put hlb h2 h3 h4 h5 h6 h7 (gm _ (by decide)) (fY _ (by decide))
 ·rintro σ H1 ⟨fv,x,rfl,bt,B⟩
  walk_at "st"
  exact q _ _ (gm _ (by omega)) (fY _ hm) bt B
theorem D0:ck ["bag","many","found"] ["bag","many"] (aR wg):=⟨rfl,rfl,rfl,by decide+kernel,rfl,by decide+kernel,by decide+kernel⟩
theorem Ny(F:bO K "_law_draw" "_law_draw" wg f fd)(SY:Callee P w K mg base "_law_stirred" 1 ["bag","many"] jx)(bP:mg "len"=none):
  bH P w K mg base bM 2 f fd ["bag","many"] jx:=by
 refine F.ok D0 (fun vs H Q E h=>?_) (fun cdv A outer s H vs Q E hr h=>?_)
 ·obtain⟨b,l,many,rfl,hB,hm,hs,q⟩:=h
  rfl
 obtain⟨b,l,many,rfl,hB,hm,hs,q⟩:=h
 refine⟨_,(@au _ _ _ _ _ (@fc _ _ _ _ _ _ _ _ (PW.pt (nM (@cH _ _ _ _ _ _ _ _ ji (@aF _ _ _ _ _ _ _ bQ (pv 0) ak (fun _ _=>rfl)) ak (cg _)) (nJ (@cH _ _ _ _ _ _ _ _ Fy (@aF _ _ _ _ _ _ _ bQ (pv 0) ak (fun _ _=>rfl)) (@cC _ _ _ _ _ _ _ _ _ Cf rfl bP iy (@aa _ _ _ _ _ (@aF _ _ _ _ _ _ _ bQ (pv 0) ak (fun _ _=>rfl)) ah rfl) (by decide) (by decide) (by rfl) (by rfl)) (cg _))))) (@au _ _ _ _ _ (@iY _ _ _ _ _ _ (@aF _ _ _ _ _ _ _ bQ (@aF _ _ _ _ _ _ _ bQ (pv 0) ak (fun _ _=>rfl)) (@aF _ _ _ _ _ _ _ bQ (pv 0) ak (fun _ _=>rfl)) (fun _ _=>rfl)) (l8 (pv 0) ak set_list) (by rfl) (by rfl) (by rfl)) (@aJ _ _ _ (@iY _ _ _ _ _ _ (@aG _ _ _ _ _ _ _ _ eN (@aF _ _ _ _ _ _ _ bQ (pv 0) ak (fun _ _=>rfl)) ak) (l8 (pv 0) ak set_list) (by rfl) (by rfl) (by rfl)))) (@aJ _ _ _ (@fc _ _ _ _ _ _ _ _ (@cH _ _ _ _ _ _ _ _ ji (@aF _ _ _ _ _ _ _ bQ (pv 0) ak (fun _ _=>rfl)) ak (cg _)) (@aJ _ _ _ (@bu _ _ _ _ (@aL _ _ _ _ _ _ _ _ _ _ SY (hr.mono (by decide)) (@aa _ _ _ _ _ (pv 0) (@aa _ _ _ _ _ (pv 1) ah rfl) rfl) (by rfl) (by decide) (by rfl) (by rfl)))) fE))) (@au _ _ _ _ _ (@aN _ _ (2) _ _ _ _ D0.nd rfl (Or.inl rfl) (@aG _ _ _ _ _ _ _ _ gJ (@aF _ _ _ _ _ _ _ bQ (pv 0) ak (fun _ _=>rfl)) (pv 1)) (by rfl) (by first|exact .inl rfl|exact .inr rfl|assumption)) (@au _ _ _ _ _ (@iY _ _ _ _ _ _ (@aG _ _ _ _ _ _ _ _ nQ (@aF _ _ _ _ _ _ _ bQ (pv 0) ak (fun _ _=>rfl)) (pv 1)) (l8 (pv 0) ak set_list) (by rfl) (by rfl) (by rfl)) (@aJ _ _ _ (@bu _ _ _ _ (pv 2)))))),?_⟩
 obtain⟨ns,i,c,st,n,h1,h2,h3,h4,h5,h6,h7,h8,h9⟩:=id hB
 have hlb:=CB h1 h2
 have fin:∀(H1:Hp) (i' c':Int),H1 b=some (.lst [.ref l, .int i', .int c', .int st, .int n])->aU (Nb b) H H1->0<=i'->0<=c'->c'<10^60->
   ∀(H2:Hp),H2=upd H1 b (.lst [.ref l, .int i', .int (c'/many), .int st, .int n])->Q (.int (c'%many)) H2:=fun H1 i' c' e1 bt g1 g2 g3 H2 e2=>by
  subst e2
  have hd1:0<=c'/many:=rR g2 (by omega)
  have hd2:c'/many<=c':=uY _ g2
  exact q _ _ (gm _ (by omega)) (fY _ hm) (bt.trans (aU.set rfl)) (cU.put hlb (bt _ _ hlb h2) h3 h4 g1 hd1 (by omega) h8 h9)
 walk_at "st"
 refine nP (fun c1=>?_) (fun c1=>?_)
 ·have c1:c=0:=of_decide_eq_true c1
  walk_at "st"
  refine nP (fun c2=>?_) (fun c2=>?_)
  ·have c2:i<(List.map V.int ns).length:=of_decide_eq_true c2
   rw[aj] at c2
   have hi:i.toNat<ns.length:=by omega
   obtain⟨g1,g2⟩:=h3 _ (dZ hi)
   walk_at "st"
   refine R.qQ h2 (v:= .int ns[i.toNat]) (gp h5 (by rw[aI,aB hi];rfl)) ?_
   walk_at "st"
   refine fin (upd H b (.lst [.ref l, .int (i+1), .int ns[i.toNat], .int st, .int n])) (i+1) ns[i.toNat] aV (aU.set rfl) (by omega) g1 g2 _ ?_
   rw[u5]
   rfl
  ·walk_at "st"
   exact⟨b,l,many,rfl,hB,hm,hs,q⟩
 ·have c1:¬c=0:=of_decide_eq_false (v7.mpr c1)
  walk_at "st"
  exact fin H i c h1 (aU.refl _ _) h5 h6 h7 _ rfl
theorem L1(is:List Int):PyData.eqv (.list (is.map PyData.int)) (.list [])=decide (is=[]):=by
 cases is<;>simp[PyData.eqv,PyData.eqvAll]
theorem KH(is:List Int):SeqAt.shaped (.list (is.map PyData.int))=true:=by
 have h:PyData.depthAll (is.map PyData.int)=0/\PyData.canLayAll0 (is.map PyData.int)=true:=by
  induction is with
  |nil=>simp[PyData.depthAll,PyData.canLayAll0]
  |cons a r ih=>simp[PyData.depthAll,PyData.depth,PyData.canLayAll0,PyData.canLay0,ih.2,ih.1]
 unfold SeqAt.shaped
 simp[PyData.canLay0,PyData.depth,h.2,h.1]
theorem GS{nb:Addr->Prop}{H:Hp}:∀is:List Int,af nb H (is.map PyData.int) (is.map V.int)
 |[]=>af.nil
 |i::is=>af.cons (.int i) (GS is)
theorem T9{r:Int}(h0:r<=10100)(h:∀d:Int,2<=d->d<102->¬(d*d<=r/\r%d=0)):tB r:=fun d d1 d2 e=>by
 by_cases hd:d<102
 ·exact h d d1 hd ⟨d2,e⟩
 ·have:102*102<=d*d:=Int.mul_le_mul (by omega) (by omega) (by omega) (by omega)
  omega
theorem EA:ck ["number","found"] ["number"] (aR rT):=⟨rfl,rfl,rfl,by decide+kernel,rfl,by decide+kernel,by decide+kernel⟩
theorem J2(F:bO K "_law_prime_from" "_law_prime_from" rT f fd)(aZ:mg "range"=none):
  bH P w K mg base bM 1 f fd ["number"] zJ:=by
 refine F.ok EA (fun vs H Q E h=>?_) (fun cdv A outer s H vs Q E hr h=>?_)
 ·obtain⟨n,rfl,hn1,hn2,q⟩:=h
  rfl
 obtain⟨n,rfl,hn1,hn2,q⟩:=h
 refine⟨_,(@au _ _ _ _ _ (@gE _ _ _ _ _ _ _ _ fB rfl (@DN _ _ _ _ _ _ _ rfl aZ (@aa _ _ _ _ _ (pv 0) (@aa _ _ _ _ _ (@aG _ _ _ _ _ _ _ _ eN (pv 0) ak) ah rfl) rfl) (by rfl) (by rfl)) (aO (i:=1) EA.nd rfl (Or.inr rfl)) (@aJ _ _ _ (@fc _ _ _ _ _ _ _ _ (@cH _ _ _ _ _ _ _ _ (uI hr.units) (fh (dB.of (show dY (aR rT) ["number","found"] _ ["k","found"] [none,some 1]=true by decide+kernel)) (@DN _ _ _ _ _ _ _ rfl aZ (@aa _ _ _ _ _ ak (@aa _ _ _ _ _ ak ah rfl) rfl) (by rfl) (by rfl)) (fun _ _ _ _=>⟨(aO (i:=0) (by show List.Nodup (["k","found"]:List Str);decide+kernel) rfl (Or.inl rfl)),(tF (PW.pt (nM (@cH _ _ _ _ _ _ _ _ KY (@aG _ _ _ _ _ _ _ _ gx (pv 0) (pv 0)) (pv 1) (cg _)) (nJ (@cH _ _ _ _ _ _ _ _ ji (@aG _ _ _ _ _ _ _ _ gJ (pv 1) (pv 0)) ak (cg _)))))),(pv 0)⟩)) (@eY _ _ _ _ ah) (cg _)) (@aJ _ _ _ (@bu _ _ _ _ (pv 1))) fE)) (by intro _;rfl)) (@aJ _ _ _ (@bu _ _ _ _ ak))),?_⟩
 walk_at "st"
 refine uL (fun i σ H1=>dh H H1/\∃(x:Option V),σ=[some (.int n),x]) ⟨dh.refl _,none,rfl⟩ ?_ ?_
 ·rintro i σ H1 hi ⟨s1,x,rfl⟩
  have hi2:(i:Int)<60:=by omega
  walk_at "st"
  intro acc hacc
  refine R.HF (fun j σ H2=>dh H1 H2/\(∃x:Option V,σ=[x,some (.int (n+i))])/\∃is:List Int,H2 acc=some (.lst (is.map V.int))/\is.length<=j/\(is=[]->∀d:Int,2<=d->d<2+j->¬(d*d<=n+i/\(n+i)%d=0))) ?_ ?_ ?_
  ·exact⟨dg hacc,⟨none,rfl⟩,[],aV,fF _,fun _ d d1 d2=>by omega⟩
  ·rintro j σ H2 hj ⟨s2,⟨x,rfl⟩,is,e2,l2,h2⟩
   have hj2:(j:Int)<100:=by omega
   have next:∀d:Int,d<2+((j+1:Nat):Int)->d<2+j\/d=2+j:=fun d h=>by omega
   walk_at "st"
   refine nP (fun c1=>?_) (fun c1=>?_)
   ·have c1:(2+(j:Int))*(2+j)<=n+i:=of_decide_eq_true c1
    walk_at "st"
    refine nP (fun c2=>?_) (fun c2=>?_)
    ·have c2:(n+i)%(2+(j:Int))=0:=of_decide_eq_true c2
     walk_at "st"
     refine⟨_,e2,?_,?_,⟨_,rfl⟩,is++[2+(j:Int)],?_,?_,fun e=>?_⟩
     ·rw[aj];exact HA (by omega)
     ·exact fun a o h=>by rw[aq (ig h hacc)];exact s2 _ _ h
     ·rw[aV,fP];rfl
     ·rw[cO,gQ];omega
     ·simp at e
    ·have c2:¬(n+i)%(2+(j:Int))=0:=of_decide_eq_false (v7.mpr c2)
     refine⟨s2,⟨_,rfl⟩,is,e2,by omega,fun e d d1 d2=>?_⟩
     rcases next d d2 with h|h
     ·exact h2 e d d1 h
     ·rw[h];exact fun z=>c2 z.2
   ·have c1:¬(2+(j:Int))*(2+j)<=n+i:=of_decide_eq_false (v7.mpr c1)
    walk_at "st"
    refine⟨s2,⟨_,rfl⟩,is,e2,by omega,fun e d d1 d2=>?_⟩
    rcases next d d2 with h|h
    ·exact h2 e d d1 h
    ·rw[h];exact fun z=>c1 z.1
  ·rintro σ H2 ⟨s2,⟨x,rfl⟩,is,e2,l2,h2⟩
   walk_at "st"
   refine R.P6 (by decide) fun p H3 s3 f3 e3=>?_
   refine⟨fun _=>False, .list (is.map PyData.int), .list [], .lst id (s3 _ _ e2) (GS is), .lst id e3 af.nil,KH is,by decide,?_⟩
   rw[L1]
   walk_at "st"
   have s:dh H H3:=s1.trans (s2.trans s3)
   refine nP (fun c=>?_) (fun c=>?_)
   ·have c:is=[]:=by simpa using c
    walk_at "st"
    exact q _ _ s (by omega) (by omega) (T9 (by omega) fun d d1 d2=>h2 c d d1 (by omega))
   ·walk_at "st"
    exact⟨s,_,rfl⟩
 ·rintro σ H1 ⟨s1,x,rfl⟩
  walk_at "st"
  refine q _ _ s1 (by omega) (by omega) fun d d1 d2=>?_
  have:2*2<=d*d:=Int.mul_le_mul d1 d1 (by omega) (by omega)
  omega
def AQ:DF:=fun ds Φ=>ds=[]/\∀p:Int,eK p->p<10^40->∀f,Φ f (.int p)
theorem MT:dj AQ:=by
 intro ds Φ Ψ hm z
 obtain⟨e,q⟩:=hm
 exact⟨e,fun p h1 h2 f=>z _ _ (q p h1 h2 f)⟩
theorem Ka:∀x∈([2,3,5,7,2,11,101,10007,65537,1000003,998244353,1000000007,2147483647,1000000000039,1000000000000000003,18446744073709551557,2305843009213693951,618970019642690137449562111,162259276829213363391578010288127,170141183460469231731687303715884105727,1000000000000000000000000000000000000003,9999999999999999999999999999999999999983]:List Int),x∈rH/\x<10^40:=by decide+kernel
theorem nX:ck ["bag","some","way"] ["bag"] (aR Az):=⟨rfl,rfl,rfl,by decide+kernel,rfl,by decide+kernel,by decide+kernel⟩
theorem Ue(F:bO K "_law_prime" "_law_prime" Az f fd)(c5:Callee P w K mg base "_law_draw" 2 ["bag","many"] jx)(Ti:Callee P w K mg base "_law_prime_from" 1 ["number"] zJ):
  bH P w K mg base bM 3 f fd ["bag"] (fX 1 AQ):=by
 refine F.ok nX (fun vs H Q E h=>h.1) (fun cdv A outer s H vs Q E hr h=>?_)
 obtain⟨b,l,ws,nb,ds,Φ,rfl,hB,hlive,hnb,hds,aD,hF⟩:=lY h
 obtain⟨rfl,q⟩:=hF
 refine⟨_,(@au _ _ _ _ _ (@TX _ 1 _ _ _ _ _ _ nX.nd rfl (Or.inl rfl) rfl (Or.inl rfl)) (@au _ _ _ _ _ (@aN _ _ (1) _ _ _ _ nX.nd rfl (Or.inl rfl) (@aG _ _ _ _ _ _ _ _ mV (pv 1) (@eY _ _ _ _ (@Hw _ _ _ rfl))) (by rfl) (by first|exact .inl rfl|exact .inr rfl|assumption)) (@au _ _ _ _ _ (@aN _ _ (1) _ _ _ _ nX.nd rfl (Or.inl rfl) (@aG _ _ _ _ _ _ _ _ mV (pv 1) (@eY _ _ _ _ (@aa _ _ _ _ _ ak (@aa _ _ _ _ _ ak ah rfl) rfl))) (by rfl) (by first|exact .inl rfl|exact .inr rfl|assumption)) (@au _ _ _ _ _ (@aN _ _ (1) _ _ _ _ nX.nd rfl (Or.inl rfl) (@aG _ _ _ _ _ _ _ _ mV (pv 1) (@eY _ _ _ _ (@aa _ _ _ _ _ ak (@aa _ _ _ _ _ ak ah rfl) rfl))) (by rfl) (by first|exact .inl rfl|exact .inr rfl|assumption)) (@au _ _ _ _ _ (@aN _ _ (2) _ _ _ _ nX.nd rfl (Or.inl rfl) (@aL _ _ _ _ _ _ _ _ _ _ c5 (hr.mono (by decide)) (@aa _ _ _ _ _ (pv 0) (@aa _ _ _ _ _ ak ah rfl) rfl) (by rfl) (by decide) (by rfl) (by rfl)) (by rfl) (by first|exact .inl rfl|exact .inr rfl|assumption)) (@aJ _ _ _ (@bu _ _ _ _ (@C5 _ _ _ _ _ _ _ _ (@cH _ _ _ _ _ _ _ _ Fy (pv 2) ak (cg _)) (@aF _ _ _ _ _ _ (dM K) bQ (pv 1) (pv 2) (fun _ _=>rfl)) (@aL _ _ _ _ _ _ _ _ _ _ Ti (hr.mono (by decide)) (@aa _ _ _ _ _ (@aG _ _ _ _ _ _ _ _ eN ak (@aL _ _ _ _ _ _ _ _ _ _ c5 (hr.mono (by decide)) (@aa _ _ _ _ _ (pv 0) (@aa _ _ _ _ _ ak ah rfl) rfl) (by rfl) (by decide) (by rfl) (by rfl))) ah rfl) (by rfl) (by decide) (by rfl) (by rfl)))))))))),?_⟩
 refine Sv.lZ hB hlive hnb hds aD (ρ:=[.az, .no, .no]) rfl ?_
 clear aD hds
 walk_at "dt"
 intro way w1 w2
 by_cases c:way<22
 ·walk_at "dt"
  obtain⟨m,em,hm1,hm2⟩:=pick (L:=[2,3,5,7,2,11,101,10007,65537,1000003,998244353,1000000007,2147483647,1000000000039,1000000000000000003,18446744073709551557,2305843009213693951,618970019642690137449562111,162259276829213363391578010288127,170141183460469231731687303715884105727,1000000000000000000000000000000000000003,9999999999999999999999999999999999999983]) (k:=way) w1 (by show _<(22:Int);omega) _ Ka
  refine⟨_,em,?_⟩
  exact q m (RP m hm1) hm2 _
 ·walk_at "dt"
  intro r r1 r2
  walk_at "dt"
  exact fun r' h1 h2=>q r' h1 h2 _
def zk:DF:=fun ds Φ=>∃p n:Int,ds=[.int p, .int n]/\SO p/\0<=n/\n<=10000/\∀os:List Int,(os.length:Int)=n->(∀x∈os,0<=x/\x<p)->Φ true (.list (os.map .int))
theorem QK:dj zk:=by
 intro ds Φ Ψ hm z
 obtain⟨p,n,e,h1,h2,h3,q⟩:=hm
 exact⟨p,n,e,h1,h2,h3,fun os a b=>z _ _ (q os a b)⟩
theorem EH:ck ["bag","p","n","way"] ["bag","p","n"] (aR pD):=⟨rfl,rfl,rfl,by decide+kernel,rfl,by decide+kernel,by decide+kernel⟩
theorem Rt(F:bO K "_law_letters" "_law_letters" pD f fd)(c5:Callee P w K mg base "_law_draw" 2 ["bag","many"] jx)(aZ:mg "range"=none)(jj:mg "int"=none)(AV:mg "min"=none):
  bH P w K mg base bM 3 f fd ["bag","p","n"] (fX 3 zk):=by
 refine F.ok EH (fun vs H Q E h=>h.1) (fun cdv A outer s H vs Q E hr h=>?_)
 obtain⟨b,l,ws,nb,ds,Φ,rfl,hB,hlive,hnb,hds,aD,hF⟩:=lY h
 obtain⟨p,n,rfl,⟨p2,Vb⟩,n0,n1,q⟩:=hF
 refine⟨_,(@au _ _ _ _ _ (@aN _ _ (3) _ _ _ _ EH.nd rfl (Or.inr rfl) (@aL _ _ _ _ _ _ _ _ _ _ c5 (hr.mono (by decide)) (@aa _ _ _ _ _ (pv 0) (@aa _ _ _ _ _ ak ah rfl) rfl) (by rfl) (by decide) (by rfl) (by rfl)) (by rfl) (by first|exact .inl rfl|exact .inr rfl|assumption)) (@au _ _ _ _ _ (@fc _ _ _ _ _ _ _ _ (@cH _ _ _ _ _ _ _ _ ji (pv 3) ak (cg _)) (@aJ _ _ _ (@bu _ _ _ _ (fh (dB.of (show dY (aR pD) ["bag","p","n","way"] _ ["k","bag","p"] [none,some 0,some 1]=true by decide+kernel)) (@iN _ _ _ _ _ _ rfl aZ (@aa _ _ _ _ _ (pv 2) ah rfl) (by rfl)) (fun _ _ _ _=>⟨(aO (i:=0) (by show List.Nodup (["k","bag","p"]:List Str);decide+kernel) rfl (Or.inl rfl)),fL,(@aG _ _ _ _ _ _ _ _ gx (@aL _ _ _ _ _ _ _ _ _ _ c5 (hr.mono (by decide)) (@aa _ _ _ _ _ (pv 1) (@aa _ _ _ _ _ (pv 2) ah rfl) rfl) (by rfl) (by decide) (by rfl) (by rfl)) (@iR _ _ _ _ _ _ _ _ _ T3 rfl jj xU (@aa _ _ _ _ _ (@uw _ _ _ _ _ _ _ _ ji (@aL _ _ _ _ _ _ _ _ _ _ c5 (hr.mono (by decide)) (@aa _ _ _ _ _ (pv 1) (@aa _ _ _ _ _ ak ah rfl) rfl) (by rfl) (by decide) (by rfl) (by rfl)) ak (cg _)) ah rfl) (by decide) (by decide) (by rfl) (by rfl)))⟩)))) fE) (@aJ _ _ _ (@bu _ _ _ _ (fh (dB.of (show dY (aR pD) ["bag","p","n","way"] _ ["k","bag","p","way"] [none,some 0,some 1,some 3]=true by decide+kernel)) (@iN _ _ _ _ _ _ rfl aZ (@aa _ _ _ _ _ (pv 2) ah rfl) (by rfl)) (fun _ _ _ _=>⟨(aO (i:=0) (by show List.Nodup (["k","bag","p","way"]:List Str);decide+kernel) rfl (Or.inl rfl)),fL,(@aL _ _ _ _ _ _ _ _ _ _ c5 (hr.mono (by decide)) (@aa _ _ _ _ _ (pv 1) (@aa _ _ _ _ _ (@aF _ _ _ _ _ _ (dM K) bQ (@eY _ _ _ _ (@aa _ _ _ _ _ (pv 2) (@aa _ _ _ _ _ (@cC _ _ _ _ _ _ _ _ _ (Pj rfl) rfl AV PyProof.Rows.boot_min (@aa _ _ _ _ _ (pv 2) (@aa _ _ _ _ _ ak ah rfl) rfl) (by decide) (by decide) (by rfl) (by rfl)) ah rfl) rfl)) (pv 3) (fun _ _=>rfl)) ah rfl) rfl) (by rfl) (by decide) (by rfl) (by rfl))⟩)))))),?_⟩
 refine Sv.lZ hB hlive hnb hds aD (ρ:=[.az, .d false _, .d false _, .no]) rfl ?_
 clear aD hds
 walk_at "dt"
 intro way w1 w2
 by_cases c:way=2
 ·walk_at "dt"
  refine aA.ev (aA.lA (by decide) rfl ?_)
  walk_at "dt"
  refine fq.ints (fun x=>0<=x/\x<p) ?_ fun os iG hos=>q os (by omega) hos
  rintro i d ⟨hi,rfl⟩
  walk_at "dt"
  refine⟨by walk_at "wk",?_⟩
  walk_at "dt"
  intro r r1 r2
  walk_at "dt"
  intro s s1 s2
  by_cases c2:s=3
  ·walk_at "dt"
   rw[decide_eq_true c2]
   exact⟨by simp;omega,by simp;omega⟩
  ·walk_at "dt"
   rw[decide_eq_false c2]
   exact⟨by simp,by simp;omega⟩
 ·obtain⟨m,em,m1,m2⟩:∃m:Int,bD [PyData.int p, .int (if 3<p then 3 else p)] way=some (.int m)/\1<=m/\m<=p:=by
   rcases(show way=0\/way=1 by omega) with rfl|rfl
   ·exact⟨p,rfl,by omega,by omega⟩
   ·exact⟨_,rfl,by split<;>omega,by split<;>omega⟩
  walk_at "dt"
  refine aA.ev (aA.lA (by decide) rfl ?_)
  walk_at "dt"
  refine fq.ints (fun x=>0<=x/\x<p) ?_ fun os iG hos=>q os (by omega) hos
  rintro i d ⟨hi,rfl⟩
  walk_at "dt"
  refine⟨by walk_at "wk",?_⟩
  walk_at "dt"
  exact fun r r1 r2=>⟨r,rfl,r1,by omega⟩
def A1:DF:=fun ds Φ=>∃p a b:Int,ds=[.int p, .int a, .int b]/\eK p/\p<10^40/\b%p≠0/\ -(10^61)<=a/\a<=10^61/\((∃k,b*sol p b a-a=p*k)->Φ true (.int (sol p b a)))
theorem QE:dj A1:=by
 intro ds Φ Ψ hm z
 obtain⟨p,a,b,e,h1,h2,h3,h4,h5,q⟩:=hm
 exact⟨p,a,b,e,h1,h2,h3,h4,h5,fun h=>z _ _ (q h)⟩
theorem jV:ck ["p","a","b","old","new","one","two","times"] ["p","a","b"] (aR zw):=⟨rfl,rfl,rfl,by decide+kernel,rfl,by decide+kernel,by decide+kernel⟩
theorem MS(F:bO K "_law_over" "_law_over" zw f fd):
  bH P w K mg base bM 1 f fd ["p","a","b"] (aY 3 A1):=by
 refine F.ok jV (fun vs H Q E h=>h.1) (fun cdv A outer s H vs Q E hr h=>?_)
 obtain⟨nb,ds,Φ,hlive,hds,aD,hF⟩:=fV h
 obtain⟨p,a,b,rfl,hp,iw,hb,a0,a1,q⟩:=hF
 refine⟨_,(@au _ _ _ _ _ (@iY _ _ _ _ _ _ (@cZ _ _ _ _ _ (@aa _ _ _ _ _ (@aG _ _ _ _ _ _ _ _ gJ (pv 2) (pv 0)) (@aa _ _ _ _ _ (pv 0) (@aa _ _ _ _ _ ak (@aa _ _ _ _ _ ak ah rfl) rfl) rfl) rfl)) (@iA _ (K) _ _ _ (4) _ rfl rfl (@bV _ _ _ _ _ (aO (i:=3) jV.nd rfl (Or.inl rfl)) (@bV _ _ _ _ _ (aO (i:=4) jV.nd rfl (Or.inl rfl)) (@bV _ _ _ _ _ (aO (i:=5) jV.nd rfl (Or.inl rfl)) (@bV _ _ _ _ _ (aO (i:=6) jV.nd rfl (Or.inl rfl)) gR (by rfl)) (by rfl)) (by rfl)) (by rfl)) (by rfl) (by rfl)) (by rfl) (by rfl) (by rfl)) (@au _ _ _ _ _ (@xS _ _ _ _ _ _ fB (@cH _ _ _ _ _ _ _ _ jU (pv 4) ak (cg _)) (@au _ _ _ _ _ (@aN _ _ (7) _ _ _ _ jV.nd rfl (Or.inl rfl) (@aG _ _ _ _ _ _ _ _ nQ (pv 3) (pv 4)) (by rfl) (by first|exact .inl rfl|exact .inr rfl|assumption)) (@aJ _ _ _ (@iY _ _ _ _ _ _ (@cZ _ _ _ _ _ (@aa _ _ _ _ _ (pv 4) (@aa _ _ _ _ _ (@aG _ _ _ _ _ _ _ _ j8 (pv 3) (@aG _ _ _ _ _ _ _ _ gx (pv 7) (pv 4))) (@aa _ _ _ _ _ (pv 6) (@aa _ _ _ _ _ (@aG _ _ _ _ _ _ _ _ j8 (pv 5) (@aG _ _ _ _ _ _ _ _ gx (pv 7) (pv 6))) ah rfl) rfl) rfl) rfl)) (@iA _ (K) _ _ _ (4) _ rfl rfl (@bV _ _ _ _ _ (aO (i:=3) jV.nd rfl (Or.inl rfl)) (@bV _ _ _ _ _ (aO (i:=4) jV.nd rfl (Or.inl rfl)) (@bV _ _ _ _ _ (aO (i:=5) jV.nd rfl (Or.inl rfl)) (@bV _ _ _ _ _ (aO (i:=6) jV.nd rfl (Or.inl rfl)) gR (by rfl)) (by rfl)) (by rfl)) (by rfl)) (by rfl) (by rfl)) (by rfl) (by rfl) (by rfl))))) (@aJ _ _ _ (@bu _ _ _ _ (@aG _ _ _ _ _ _ _ _ gJ (@aG _ _ _ _ _ _ _ _ gx (pv 1) (pv 5)) (pv 0)))))),?_⟩
 refine Sv.fJ hlive hds aD (ρ:=[.d false _, .d false _, .d false _, .no, .no, .no, .no, .no]) rfl ?_
 clear aD hds
 have p2:=hp.1
 have m1:=gm b (show p≠0 by omega)
 have m2:=fY b (show 0<p by omega)
 walk_at "dt"
 show kU _ _ _ _ [PyData.int (b%p), .int p, .int 1, .int 0] _
 walk_at "dt"
 refine Sv.Bq (fun ρ=>∃(L lt r t:Int) (x6:Sl),ρ=[.d false (.int p), .d false (.int a), .d false (.int b), .d true (.int L), .d true (.int r), .d true (.int lt), .d true (.int t),x6]/\(-p<=lt/\lt<=p)/\((L=b%p/\r=p/\lt=1/\t=0)\/Eu p b L lt r t)) (fun ρ:Rh=>match ρ[4]? with|some (Sl.d _ (PyData.int r))=>r.toNat|_=>0) ⟨_,_,_,_,_,rfl,by omega, .inl ⟨rfl,rfl,rfl,rfl⟩⟩ ?_
 rintro ρ ⟨L,lt,r,t,x6,rfl,hlt,hI⟩
 by_cases c:r=0
 ·rcases hI with ⟨_,h,_,_⟩|hE
  ·omega
  subst c
  obtain⟨k,hk⟩:=hE.fin hp hb
  obtain⟨t1,t2⟩:=hE.tb
  have sa:Sm a:=by unfold Sm;omega
  have sl:Sm lt:=by unfold Sm;omega
  walk_at "dt"
  have e:=qb (a*lt) p
  have ef:=qb lt p
  have ex:∃k,b*(a*lt%p)-a=p*k:=⟨a*k+a*(lt/p)*b-a*lt/p*b,by
   generalize a*lt/p=Q1 at*
   generalize a*lt%p=R1 at*
   generalize lt/p=Q2 at*
   generalize lt%p=R2 at*
   have h1:R1=a*lt-p*Q1:=by omega
   have h2:lt=p*Q2+R2:=by omega
   rw[h1]
   have h3:a*(R2*b)=a*(1+p*k):=by rw[hk]
   grind⟩
  have es:=BJ (x:=a*lt%p) (a:=a) hp hb (gm _ (by omega)) (fY _ (by omega)) ex
  rw[es]
  rw[es] at ex
  exact q ex
 ·rcases hI with ⟨rfl,rfl,rfl,rfl⟩|hE
  ·have e0:b%r/r=0:=Int.ediv_eq_zero_of_lt m1 m2
   walk_at "dt"
   show kU _ _ _ _ [PyData.int r, .int (b%r-b%r/r*r), .int 0, .int (1-b%r/r*0)] _
   rw[e0]
   walk_at "dt"
   refine⟨⟨_,_,_,_,_,rfl,by omega, .inr ?_⟩,?_⟩
   ·rw[qH,w9,Int.mul_zero,w9]
    exact Eu.start p2
   ·show(b%r-0*r).toNat<r.toNat
    rw[qH];omega
  ·obtain⟨t1,t2⟩:=hE.tb
   have e1:=hE.l0
   have e2:=hE.r0
   have e3:=hE.lp
   have e4:=hE.rp
   have hr:0<r:=by omega
   have q1:0<=L/r:=rR (by omega) (by omega)
   have q2:L/r<=L:=uY _ (by omega)
   obtain⟨N1,N2⟩:=hE.next hr
   walk_at "dt"
   show kU _ _ _ _ [PyData.int r, .int (L-L/r*r), .int t, .int (lt-L/r*t)] _
   walk_at "dt"
   exact⟨⟨_,_,_,_,_,rfl,⟨t1,t2⟩, .inr N1⟩,by show(L-L/r*r).toNat<r.toNat;omega⟩
def Aw:DF:=fun ds Φ=>∃(p:Int) (prs:ao) (wd:Wo),ds=[.int p,eT prs,mO wd]/\0<p/\prs.length<=10000/\mj prs wd.length/\lF wd/\Φ true (.int (bJ prs wd%p))
theorem Qy:dj Aw:=by
 intro ds Φ Ψ hm z
 obtain⟨p,prs,wd,e,h1,h2,h3,h4,q⟩:=hm
 exact⟨p,prs,wd,e,h1,h2,h3,h4,z _ _ q⟩
theorem Uh:ck ["p","pairs","word"] ["p","pairs","word"] (aR qP):=⟨rfl,rfl,rfl,by decide+kernel,rfl,by decide+kernel,by decide+kernel⟩
theorem OV(F:bO K "_law_sum" "_law_sum" qP f fd)(vO:mg "sum"=none):
    bH P w K mg base bM 1 f fd ["p","pairs","word"] (aY 3 Aw):=by
  refine F.ok Uh (fun vs H Q E h=>h.1) (fun cdv A outer s H vs Q E hr h=>?_)
  obtain⟨nb,ds,Φ,hlive,hds,aD,hF⟩:=fV h
  obtain⟨p,prs,wd,rfl,hp,hl,h1,h2,q⟩:=hF
  refine⟨_,(@aJ _ _ _ (@bu _ _ _ _ (@aG _ _ _ _ _ _ _ _ gJ (@cC _ _ _ _ _ _ _ _ (zq K) (RZ rfl) rfl vO PyProof.Rows.boot_sum (@aa _ _ _ _ _ (fh (dB.of (show dY (aR qP) ["p","pairs","word"] _ ["place","factor","word"] [none,none,some 2]=true by decide+kernel)) (@fj _ _ _ _ (pv 1)) (fun _ _ _ _=>⟨(@iA _ (K) _ _ _ (2) _ rfl rfl (@bV _ _ _ _ _ (aO (i:=0) (by show List.Nodup (["place","factor","word"]:List Str);decide+kernel) rfl (Or.inl rfl)) (@bV _ _ _ _ _ (aO (i:=1) (by show List.Nodup (["place","factor","word"]:List Str);decide+kernel) rfl (Or.inl rfl)) gR (by rfl)) (by rfl)) (by rfl) (by rfl)),(tF (@cH _ _ _ _ _ _ _ _ yG (@aF _ _ _ _ _ _ (dM K) bQ (pv 2) (pv 0) (fun _ _=>rfl)) nk (cg _))),(@aG _ _ _ _ _ _ _ _ gx (pv 1) (@aF _ _ _ _ _ _ (dM K) bQ (pv 2) (pv 0) (fun _ _=>rfl)))⟩)) ah rfl) (by decide) (by decide) (by rfl) (by rfl)) (pv 0)))),?_⟩
  refine Sv.fJ hlive hds aD (ρ:=[.d false _, .d false _, .d false _]) rfl ?_
  clear aD hds
  walk_at "dt"
  refine aA.ev (aA.iW (by decide) rfl ?_)
  walk_at "dt"
  refine⟨by rw[aj];exact hl,fun v=>⟨false,fun i ds=>∃ns:List Int,ds=ns.map .int/\ns.sum=bJ (prs.take i) wd,⟨[],rfl,by simp[bJ]⟩,?_,?_⟩⟩
  · rintro i d ds hd hl' ⟨ns,rfl,hs⟩
    obtain⟨pr,bC,rfl⟩:=fT hd
    obtain⟨g1,g2,g3⟩:=h1 pr (dN bC)
    obtain⟨o,ho,hat⟩:=BH (xs:=wd) ie g1 g2 rfl
    have hi:i<prs.length:=(bh.mp bC).1
    have xC:=BP (wd:=wd) hi
    have Kg:prs[i]=pr:=(bh.mp bC).2
    rw[Kg] at xC
    walk_at "dt"
    refine⟨by walk_at "wk",?_⟩
    walk_at "dt"
    rw[CD]
    cases o with
    | none =>
      walk_at "dt"
      refine⟨ns,rfl,?_⟩
      rw[xC,hs]
      unfold fZ
      rw[ho];simp
    | some x =>
      have hx:Sm x:=h2 x (dN ho)
      have UB:bD (wd.map ie) pr.1=some (.int x):=hat
      walk_at "dt"
      refine⟨ns++[pr.2*x],by simp,?_⟩
      rw[xC,List.sum_append,hs]
      unfold fZ
      rw[ho];simp
  · rintro ds hl' ⟨ns,rfl,hs⟩
    rw[aj,iF] at hs
    refine⟨ns,rfl,?_⟩
    rw[hs]
    walk_at "dt"
    exact q
def rj:Option ao->PyData
 |none=> .none
 |some prs=>eT prs
def vC:DF:=fun ds Φ=>∃(p wide:Int) (wd:List Int),ds=[.int p, .list (wd.map .int), .int wide]/\eK p/\p<10^40/\1<=wd.length/\wd.length<=400/\(∀x∈wd,0<=x/\x<p)/\1<=wide/\wide<=60/\∀(o:Option ao) (f:Bool),(∀prs,o=some prs->iH p wd.length prs)->Φ f (rj o)
theorem J5:dj vC:=by
 intro ds Φ Ψ hm z
 obtain⟨p,w,wd,e,h1,h2,h3,h4,h5,h6,h7,q⟩:=hm
 exact⟨p,w,wd,e,h1,h2,h3,h4,h5,h6,h7,fun o f h=>z _ _ (q o f h)⟩
theorem oA:ck ["bag","p","word","wide","n","places","pairs","rest","last"] ["bag","p","word","wide"] (aR pM):=⟨rfl,rfl,rfl,by decide+kernel,rfl,by decide+kernel,by decide+kernel⟩
theorem LR(F:bO K "_law_planted_check" "_law_planted_check" pM f fd)(OH:Callee P w K mg base "_law_sum" 1 ["p","pairs","word"] (aY 3 Aw))(c5:Callee P w K mg base "_law_draw" 2 ["bag","many"] jx)(O7:Callee P w K mg base "_law_over" 1 ["p","a","b"] (aY 3 A1))(bP:mg "len"=none)(gM:mg "sorted"=none)(m5:mg "set"=none)(aZ:mg "range"=none):
  bH P w K mg base bM 3 f fd ["bag","p","word","wide"] (fX 4 vC):=by
 refine F.ok oA (fun vs H Q E h=>h.1) (fun cdv A outer s H vs Q E hr h=>?_)
 obtain⟨b,l,ws,nb,ds,Φ,rfl,hB,hlive,hnb,hds,aD,hF⟩:=lY h
 obtain⟨p,wide,wd,rfl,hp,iw,w1,w2,sY,d1,d2,q⟩:=hF
 refine⟨_,(@au _ _ _ _ _ (@aN _ _ (4) _ _ _ _ oA.nd rfl (Or.inr rfl) (@cC _ _ _ _ _ _ _ _ (gn K) iM rfl bP iy (@aa _ _ _ _ _ (pv 2) ah rfl) (by decide) (by decide) (by rfl) (by rfl)) (by rfl) (by first|exact .inl rfl|exact .inr rfl|assumption)) (@au _ _ _ _ _ (@aN _ _ (5) _ _ _ _ oA.nd rfl (Or.inl rfl) (@cC _ _ _ _ _ _ _ _ (uy P w) (FU rfl) rfl gM oW (@aa _ _ _ _ _ (@iR _ _ _ _ _ _ _ _ (rE P w K) (Ea rfl) rfl m5 Ey (@aa _ _ _ _ _ (fh (dB.of (show dY (aR pM) ["bag","p","word","wide","n","places","pairs","rest","last"] _ ["k","bag","n"] [none,some 0,some 4]=true by decide+kernel)) (@iN _ _ _ _ _ _ rfl aZ (@aa _ _ _ _ _ (@aG _ _ _ _ _ _ _ _ eN ak (@aL _ _ _ _ _ _ _ _ _ _ c5 (hr.mono (by decide)) (@aa _ _ _ _ _ (pv 0) (@aa _ _ _ _ _ (pv 3) ah rfl) rfl) (by rfl) (by decide) (by rfl) (by rfl))) ah rfl) (by rfl)) (fun _ _ _ _=>⟨(aO (i:=0) (by show List.Nodup (["k","bag","n"]:List Str);decide+kernel) rfl (Or.inl rfl)),fL,(@aL _ _ _ _ _ _ _ _ _ _ c5 (hr.mono (by decide)) (@aa _ _ _ _ _ (pv 1) (@aa _ _ _ _ _ (pv 2) ah rfl) rfl) (by rfl) (by decide) (by rfl) (by rfl))⟩)) ah rfl) (by decide) (by decide) (by rfl) (by rfl)) ah rfl) (by decide) (by decide) (by rfl) (by rfl)) (by rfl) (by first|exact .inl rfl|exact .inr rfl|assumption)) (@au _ _ _ _ _ (DB (i:=6) oA.nd rfl rfl (dB.of (show dY (aR pM) ["bag","p","word","wide","n","places","pairs","rest","last"] _ ["place","bag","p"] [none,some 0,some 1]=true by decide+kernel)) (@fj _ _ _ _ (pv 5)) (fun _ _ _ _=>⟨(aO (i:=0) (by show List.Nodup (["place","bag","p"]:List Str);decide+kernel) rfl (Or.inl rfl)),fL,(@cZ _ _ _ _ _ (@aa _ _ _ _ _ (pv 0) (@aa _ _ _ _ _ (@aG _ _ _ _ _ _ _ _ eN ak (@aL _ _ _ _ _ _ _ _ _ _ c5 (hr.mono (by decide)) (@aa _ _ _ _ _ (pv 1) (@aa _ _ _ _ _ (@aG _ _ _ _ _ _ _ _ j8 (pv 2) ak) ah rfl) rfl) (by rfl) (by decide) (by rfl) (by rfl))) ah rfl) rfl))⟩)) (@au _ _ _ _ _ (@aN _ _ (7) _ _ _ _ oA.nd rfl (Or.inl rfl) (@aL _ _ _ _ _ _ _ _ _ _ OH (hr.mono (by decide)) (@aa _ _ _ _ _ (pv 1) (@aa _ _ _ _ _ (@mw _ _ _ _ _ _ _ _ _ (kc K) lT (pv 6) mH (@lD _ _ _ (@sG _ _ _ _ _ _ t7 ak))) (@aa _ _ _ _ _ (pv 2) ah rfl) rfl) rfl) (by rfl) (by decide) (by rfl) (by rfl)) (by rfl) (by first|exact .inl rfl|exact .inr rfl|assumption)) (@au _ _ _ _ _ (@aN _ _ (8) _ _ _ _ oA.nd rfl (Or.inl rfl) (@aF _ _ _ _ _ _ (dM K) bQ (pv 5) (@sG _ _ _ _ _ _ t7 ak) (fun _ _=>rfl)) (by rfl) (by first|exact .inl rfl|exact .inr rfl|assumption)) (@au _ _ _ _ _ (@fc _ _ _ _ _ _ _ _ (PW.pt (nM (@cH _ _ _ _ _ _ _ _ jU (pv 7) ak (cg _)) (nJ (@cH _ _ _ _ _ _ _ _ jU (@aF _ _ _ _ _ _ (dM K) bQ (pv 2) (pv 8) (fun _ _=>rfl)) ak (cg _))))) (@aJ _ _ _ (@bu _ _ _ _ (@aG _ _ _ _ _ _ _ _ mV (@mw _ _ _ _ _ _ _ _ _ (kc K) lT (pv 6) mH (@lD _ _ _ (@sG _ _ _ _ _ _ t7 ak))) (@eY _ _ _ _ (@aa _ _ _ _ _ (@cZ _ _ _ _ _ (@aa _ _ _ _ _ (pv 8) (@aa _ _ _ _ _ (@aL _ _ _ _ _ _ _ _ _ _ O7 (hr.mono (by decide)) (@aa _ _ _ _ _ (pv 1) (@aa _ _ _ _ _ (@aG _ _ _ _ _ _ _ _ j8 ak (pv 7)) (@aa _ _ _ _ _ (@aF _ _ _ _ _ _ (dM K) bQ (pv 2) (pv 8) (fun _ _=>rfl)) ah rfl) rfl) rfl) (by rfl) (by decide) (by rfl) (by rfl)) ah rfl) rfl)) ah rfl))))) fE) (@au _ _ _ _ _ (@fc _ _ _ _ _ _ _ _ (PW.pt (nM (@cH _ _ _ _ _ _ _ _ ji (pv 7) ak (cg _)) (nJ (@cH _ _ _ _ _ _ _ _ ji (@aF _ _ _ _ _ _ (dM K) bQ (pv 2) (pv 8) (fun _ _=>rfl)) ak (cg _))))) (@aJ _ _ _ (@bu _ _ _ _ (pv 6))) fE) (@aJ _ _ _ (@bu _ _ _ _ (@C5 _ _ _ _ _ _ _ _ (PW.pt (nM (@cH _ _ _ _ _ _ _ _ ji (pv 7) ak (cg _)) (nJ (@cH _ _ _ _ _ _ _ _ yf (@cC _ _ _ _ _ _ _ _ (gn K) iM rfl bP iy (@aa _ _ _ _ _ (pv 6) ah rfl) (by decide) (by decide) (by rfl) (by rfl)) ak (cg _))))) (@mw _ _ _ _ _ _ _ _ _ (kc K) lT (pv 6) mH (@lD _ _ _ (@sG _ _ _ _ _ _ t7 ak))) nk)))))))))),?_⟩
 refine Sv.lZ hB hlive hnb hds aD (ρ:=[.az, .d false _, .d false _, .d false _, .no, .no, .no, .no, .no]) rfl ?_
 clear aD hds
 have p2:=hp.1
 have G1:(wd.map PyData.int).length=wd.length:=aj ..
 have hsm:∀x:Int,0<=x->x<=p->Sm x:=fun x x0 x1=>by unfold Sm;omega
 walk_at "dt"
 refine aA.ev (aA.E7 (aA.ev (aA.lA (by decide) rfl ?_)))
 walk_at "dt"
 intro k0 k1 k2
 walk_at "dt"
 refine fq.ints (fun x=>0<=x/\x<(wd.map PyData.int).length) ?_ fun os iG hos=>⟨os,rfl,by omega,fun rs vn hmem=>?_⟩
 ·rintro i d ⟨hi,rfl⟩
  walk_at "dt"
  refine⟨by walk_at "wk",?_⟩
  walk_at "dt"
  exact fun r r1 r2=>⟨r,rfl,r1,r2⟩
 have hrs:rs.Nodup:=vn.imp fun h=>by omega
 have hrl:0<rs.length:=by
  have:0<os.length:=by omega
  obtain⟨y,hy⟩:=List.exists_mem_of_length_pos this
  exact List.length_pos_of_mem ((hmem y).mpr hy)
 have MM:rs.length<=os.length:=nG hrs fun k hk=>(hmem k).mp hk
 walk_at "dt"
 refine aA.ev (aA.iW (by decide) rfl ?_)
 walk_at "dt"
 refine⟨by rw[aj];omega,fun v=>fq.rel pairD true (fun i pr=>rs[i]?=some pr.1/\1<=pr.2/\pr.2<p) ?_ fun prs hpl eZ=>?_⟩
 ·rintro i d hd
  obtain⟨x,hx,rfl⟩:=fT hd
  walk_at "dt"
  refine⟨by walk_at "wk",?_⟩
  walk_at "dt"
  intro r r1 r2
  walk_at "dt"
  exact⟨fun _=>rfl,(x,1+r),rfl,hx,by show 1<=1+r;omega,by show 1+r<p;omega⟩
 rw[aj] at hpl
 have ux:prs.map (·.1)=rs:=by
  apply eH
  intro j
  rw[aI]
  cases e:prs[j]? with
  |none=>rw[cQ (by have:=qy.mp e;omega)];rfl
  |some pr=>exact(eZ j pr e).1.symm
 have hQ:iH p wd.length prs:=⟨by rw[ux];exact hrs,by omega,fun pr bC=>by
  obtain⟨k,hk⟩:=je bC
  have h2:=eZ k pr hk
  have h1:=hos pr.1 ((hmem _).mp (dN h2.1))
  omega⟩
 have K6:(prs.map pairD).length=prs.length:=aj ..
 have uh:eG (prs.map pairD) none (some (-1))=prs.dropLast.map pairD:=by
  unfold eG HT.dO
  simp only[zN,Nat.sub_zero]
  rw[List.dropLast_eq_take,List.map_take,K6]
  congr 1
  first|omega|(split<;>omega)
 have hdl:prs.dropLast.length=prs.length-1:=List.length_dropLast ..
 have wW:iH p wd.length prs.dropLast:=⟨((List.dropLast_sublist prs).map _).nodup hQ.1,by omega,fun pr bC=>hQ.2.2 pr (List.dropLast_subset _ bC)⟩
 have G2:rs.length-1<rs.length:=by omega
 have Dt:bD (rs.map PyData.int) (-1)=some (.int rs[rs.length-1]):=by
  unfold bD gz
  rw[if_neg (by decide),if_pos (by rw[aj];omega)]
  show(rs.map PyData.int)[_]?=_
  rw[aI,aj,show(-1+(rs.length:Int)).toNat=rs.length-1 by omega,aB G2];rfl
 obtain⟨last,sP⟩:∃x,rs[rs.length-1]=x:=⟨_,rfl⟩
 rw[sP] at Dt
 have qj:0<=last/\last<wd.length:=by
  have:=hos last ((hmem _).mp (sP▸dZ G2))
  omega
 have hlt:last.toNat<wd.length:=by omega
 have NI:bD (wd.map PyData.int) last=some (.int wd[last.toNat]):=gp qj.1 (by rw[aI,aB hlt];rfl)
 have hwl:=sY _ (dZ hlt)
 generalize wd[last.toNat]=wl at*
 have hD:wd.map PyData.int=(wd.map some).map ie:=by rw[c6];rfl
 have L4:mj prs.dropLast (wd.map some).length:=fun pr bC=>by
  have:=wW.2.2 pr bC
  rw[aj]
  exact⟨this.1,this.2.1,hsm _ (by omega) (by omega)⟩
 have Ib:lF (wd.map some):=fun x hx=>by
  obtain⟨y,hy,e⟩:=bU.mp hx
  cases e
  have:=sY x hy
  exact hsm x (by omega) (by omega)
 walk_at "dt"
 refine Ev.bZ Qy ?_
 walk_at "dt"
 refine⟨rfl,p,prs.dropLast,wd.map some,by show[_,PyData.list _,PyData.list _]=_;rw[uh,hD],by omega,by omega,L4,Ib,?_⟩
 have R0:=gm (bJ prs.dropLast (wd.map some)) (show p≠0 by omega)
 have R1:=fY (bJ prs.dropLast (wd.map some)) (show 0<p by omega)
 generalize bJ prs.dropLast (wd.map some)%p=R at*
 walk_at "dt"
 by_cases cR:R=0
 ·walk_at "dt"
  by_cases cw:wl=0
  ·walk_at "dt"
   exact q (some prs) _ (fun _ e=>by cases e;exact hQ)
  ·walk_at "dt"
   by_cases cl:1<((prs.map pairD).length:Int)
   ·walk_at "dt"
    rw[uh]
    exact q (some prs.dropLast) _ (fun _ e=>by cases e;exact wW)
   ·walk_at "dt"
    exact q none _ (fun _ e=>by cases e)
 ·walk_at "dt"
  by_cases cw:wl=0
  ·walk_at "dt"
   exact q none _ (fun _ e=>by cases e)
  ·have hwp:wl%p≠0:=by rw[m7 (by omega) (by omega)];exact cw
   walk_at "dt"
   refine Ev.bZ QE ?_
   walk_at "dt"
   refine⟨rfl,p,0-R,wl,rfl,hp,iw,hwp,by omega,by omega,fun⟨k,hk⟩=>?_⟩
   have hs:=u6 (p:=p) (b:=wl) (a:=0-R) (by omega)
   generalize sol p wl (0-R)=sl at*
   have hs1:sl≠0:=fun z=>by
    subst z
    rw[Int.mul_zero] at hk
    have U8:R=p*k:=by omega
    rcases yV k 0 with z|z|z
    ·have:p*k<=p*(-1):=qh (by omega) (by omega)
     omega
    ·subst z;omega
    ·have:p*1<=p*k:=qh (by omega) (by omega)
     omega
   walk_at "dt"
   refine⟨by rw[uh,aj];show _+1<=10000;omega,?_⟩
   show Φ _ (.list (eG (prs.map pairD) none (some (-1))++[pairD (last,sl)]))
   rw[uh,show(prs.dropLast.map pairD++[pairD (last,sl)])=(prs.dropLast++[(last,sl)]).map pairD by rw[fP];rfl]
   refine q (some (prs.dropLast++[(last,sl)])) _ (fun _ e=>?_)
   cases e
   have hdr:(prs.dropLast++[(last,sl)]).map (·.1)=rs:=by
    rw[fP,List.map_dropLast,ux,List.map_singleton,<-sP]
    have:=List.dropLast_concat_getLast (List.ne_nil_of_length_pos hrl)
    rw[List.getLast_eq_getElem] at this
    exact this
   refine⟨by rw[hdr];exact hrs,by rw[cO,gQ];omega,fun pr bC=>?_⟩
   rcases iQ.mp bC with h|h
   ·exact wW.2.2 pr h
   ·rw[bS.mp h]
    exact⟨qj.1,qj.2,by show 1<=sl;omega,hs.2⟩
def vg:DF:=fun ds Φ=>∃(p many wide:Int) (wd:List Int),ds=[.int p, .list (wd.map .int), .int many, .int wide]/\eK p/\p<10^40/\1<=wd.length/\wd.length<=400/\(∀x∈wd,0<=x/\x<p)/\0<=many/\many<=400/\1<=wide/\wide<=60/\∀(cs:List ao) (f:Bool),(cs.length:Int)<=many->(∀prs∈cs,iH p wd.length prs)->Φ f (dQ p wd.length cs)
theorem Qf:dj vg:=by
 intro ds Φ Ψ hm z
 obtain⟨p,m,w,wd,e,h1,h2,h3,h4,h5,h6,h7,h8,h9,q⟩:=hm
 exact⟨p,m,w,wd,e,h1,h2,h3,h4,h5,h6,h7,h8,h9,fun cs f a b=>z _ _ (q cs f a b)⟩
theorem Lh(o:Option ao):qf (rj o)=o.isNone:=by cases o<;>rfl
theorem DU:ck ["bag","p","word","many","wide","checks"] ["bag","p","word","many","wide"] (aR p9):=⟨rfl,rfl,rfl,by decide+kernel,rfl,by decide+kernel,by decide+kernel⟩
theorem Sk(F:bO K "_law_planted" "_law_planted" p9 f fd)(TJ:Callee P w K mg base "_law_planted_check" 3 ["bag","p","word","wide"] (fX 4 vC))(bP:mg "len"=none)(aZ:mg "range"=none):
    bH P w K mg base bM 4 f fd ["bag","p","word","many","wide"] (fX 5 vg):=by
  refine F.ok DU (fun vs H Q E h=>h.1) (fun cdv A outer s H vs Q E hr h=>?_)
  obtain⟨b,l,ws,nb,ds,Φ,rfl,hB,hlive,hnb,hds,aD,hF⟩:=lY h
  obtain⟨p,many,wide,wd,rfl,hp,iw,w1,w2,sY,m1,m2,d1,d2,q⟩:=hF
  refine⟨_,(@au _ _ _ _ _ (DB (i:=5) DU.nd rfl rfl (dB.of (show dY (aR p9) ["bag","p","word","many","wide","checks"] _ ["c","bag","p","word","wide"] [none,some 0,some 1,some 2,some 4]=true by decide+kernel)) (@iN _ _ _ _ _ _ rfl aZ (@aa _ _ _ _ _ (pv 3) ah rfl) (by rfl)) (fun _ _ _ _=>⟨(aO (i:=0) (by show List.Nodup (["c","bag","p","word","wide"]:List Str);decide+kernel) rfl (Or.inl rfl)),fL,(@aL _ _ _ _ _ _ _ _ _ _ TJ (hr.mono (by decide)) (@aa _ _ _ _ _ (pv 1) (@aa _ _ _ _ _ (pv 2) (@aa _ _ _ _ _ (pv 3) (@aa _ _ _ _ _ (pv 4) ah rfl) rfl) rfl) rfl) (by rfl) (by decide) (by rfl) (by rfl))⟩)) (@aJ _ _ _ (@bu _ _ _ _ (@cZ _ _ _ _ _ (@aa _ _ _ _ _ (pv 1) (@aa _ _ _ _ _ (@cC _ _ _ _ _ _ _ _ (gn K) iM rfl bP iy (@aa _ _ _ _ _ (pv 2) ah rfl) (by decide) (by decide) (by rfl) (by rfl)) (@aa _ _ _ _ _ (fh (dB.of (show dY (aR p9) ["bag","p","word","many","wide","checks"] _ ["pairs"] [none]=true by decide+kernel)) (@fj _ _ _ _ (pv 5)) (fun _ _ _ _=>⟨(aO (i:=0) (by show List.Nodup (["pairs"]:List Str);decide+kernel) rfl (Or.inl rfl)),(tF (@cH _ _ _ _ _ _ _ _ yG (pv 0) nk (cg _))),(pv 0)⟩)) ah rfl) rfl) rfl))))),?_⟩
  refine Sv.lZ hB hlive hnb hds aD (ρ:=[.az, .d false _, .d false _, .d false _, .d false _, .no]) rfl ?_
  clear aD hds
  have G1:(wd.map PyData.int).length=wd.length:=aj ..
  walk_at "dt"
  refine aA.ev (aA.lA (by decide) rfl ?_)
  walk_at "dt"
  refine fq.rel rj false (fun _ o=>∀prs,o=some prs->iH p wd.length prs) ?_ fun os iG hos=>?_
  · rintro i d ⟨hi,rfl⟩
    walk_at "dt"
    refine⟨by walk_at "wk",?_⟩
    refine Ev.kW J5 rfl ?_
    walk_at "dt"
    exact⟨rfl,p,wide,wd,rfl,hp,iw,w1,w2,sY,d1,d2,fun o f h=>⟨(fun z=>by cases z),o,rfl,h⟩⟩
  walk_at "dt"
  refine aA.ev (aA.iW (by decide) rfl ?_)
  walk_at "dt"
  refine⟨by rw[aj];omega,fun v=>⟨false,fun i ds=>∃es:List ao,ds=es.map eT/\es.length<=i/\∀prs∈es,iH p wd.length prs,⟨[],rfl,aK _,(fun _ h=>nomatch h)⟩,?_,?_⟩⟩
  · rintro j d ds hd hl' ⟨es,rfl,hel,hes⟩
    obtain⟨o,ho,rfl⟩:=fT hd
    walk_at "dt"
    refine⟨by walk_at "wk",?_⟩
    walk_at "dt"
    rw[Lh]
    cases o with
    | none =>
      walk_at "dt"
      exact⟨es,rfl,by omega,hes⟩
    | some prs =>
      rw[show rj (some prs)=eT prs from rfl]
      walk_at "dt"
      refine⟨es++[prs],by rw[fP];rfl,by simp;omega,fun q hq=>?_⟩
      rcases iQ.mp hq with h|h
      · exact hes q h
      · rw[bS.mp h];exact hos j _ ho prs rfl
  rintro ds hl' ⟨es,rfl,hel,hes⟩
  walk_at "dt"
  rw[aj] at hel
  show Φ _ (.tuple [.int p, .int ((wd.map PyData.int).length:Int), .list (es.map eT)])
  rw[G1]
  exact q es _ (by omega) hes
def AL:DF:=fun ds Φ=>∃(p places many wide:Int),ds=[.int p, .int places, .int many, .int wide]/\eK p/\p<10^40/\1<=places/\places<=400/\0<=many/\many<=400/\1<=wide/\wide<=60/\∀(n:Int) (cs:List ao) (f:Bool),fG p n cs->n<=places->(cs.length:Int)<=many->Φ f (dQ p n cs)
theorem LQ:dj AL:=by
 intro ds Φ Ψ hm z
 obtain⟨p,a,b,c,e,hp,h4,h1,h2,h3,h5,h6,h7,q⟩:=hm
 exact⟨p,a,b,c,e,hp,h4,h1,h2,h3,h5,h6,h7,fun n cs f h g k=>z _ _ (q n cs f h g k)⟩
theorem qi:ck ["bag","p","places","many","wide","n","checks","c","there"] ["bag","p","places","many","wide"] (aR qB):=⟨rfl,rfl,rfl,by decide+kernel,rfl,by decide+kernel,by decide+kernel⟩
theorem HQ(F:bO K "_law_net" "_law_net" qB f fd)(c5:Callee P w K mg base "_law_draw" 2 ["bag","many"] jx)(aZ:mg "range"=none)(gM:mg "sorted"=none)(m5:mg "set"=none):
  bH P w K mg base bM 3 f fd ["bag","p","places","many","wide"] (fX 5 AL):=by
 refine F.ok qi (fun vs H Q E h=>h.1) (fun cdv A outer s H vs Q E hr h=>?_)
 obtain⟨b,l,ws,nb,ds,Φ,rfl,hB,hlive,hnb,hds,aD,hF⟩:=lY h
 obtain⟨p,places,many,wide,rfl,hp,iw,l1,l2,m1,m2,w1,w2,q⟩:=hF
 refine⟨_,(@au _ _ _ _ _ (@aN _ _ (5) _ _ _ _ qi.nd rfl (Or.inr rfl) (@aG _ _ _ _ _ _ _ _ eN ak (@aL _ _ _ _ _ _ _ _ _ _ c5 (hr.mono (by decide)) (@aa _ _ _ _ _ (pv 0) (@aa _ _ _ _ _ (pv 2) ah rfl) rfl) (by rfl) (by decide) (by rfl) (by rfl))) (by rfl) (by first|exact .inl rfl|exact .inr rfl|assumption)) (@au _ _ _ _ _ (@aN _ _ (6) _ _ _ _ qi.nd rfl (Or.inl rfl) (@eY _ _ _ _ ah) (by rfl) (by first|exact .inl rfl|exact .inr rfl|assumption)) (@au _ _ _ _ _ (@gE _ _ _ _ _ _ _ _ fB rfl (@iN _ _ _ _ _ _ rfl aZ (@aa _ _ _ _ _ (@aL _ _ _ _ _ _ _ _ _ _ c5 (hr.mono (by decide)) (@aa _ _ _ _ _ (pv 0) (@aa _ _ _ _ _ (@aG _ _ _ _ _ _ _ _ eN (pv 3) ak) ah rfl) rfl) (by rfl) (by decide) (by rfl) (by rfl)) ah rfl) (by rfl)) (aO (i:=7) qi.nd rfl (Or.inl rfl)) (@au _ _ _ _ _ (@aN _ _ (8) _ _ _ _ qi.nd rfl (Or.inl rfl) (@cC _ _ _ _ _ _ _ _ (uy P w) (FU rfl) rfl gM oW (@aa _ _ _ _ _ (@iR _ _ _ _ _ _ _ _ (rE P w K) (Ea rfl) rfl m5 Ey (@aa _ _ _ _ _ (fh (dB.of (show dY (aR qB) ["bag","p","places","many","wide","n","checks","c","there"] _ ["k","bag","n"] [none,some 0,some 5]=true by decide+kernel)) (@iN _ _ _ _ _ _ rfl aZ (@aa _ _ _ _ _ (@aG _ _ _ _ _ _ _ _ eN ak (@aL _ _ _ _ _ _ _ _ _ _ c5 (hr.mono (by decide)) (@aa _ _ _ _ _ (pv 0) (@aa _ _ _ _ _ (pv 4) ah rfl) rfl) (by rfl) (by decide) (by rfl) (by rfl))) ah rfl) (by rfl)) (fun _ _ _ _=>⟨(aO (i:=0) (by show List.Nodup (["k","bag","n"]:List Str);decide+kernel) rfl (Or.inl rfl)),fL,(@aL _ _ _ _ _ _ _ _ _ _ c5 (hr.mono (by decide)) (@aa _ _ _ _ _ (pv 1) (@aa _ _ _ _ _ (pv 2) ah rfl) rfl) (by rfl) (by decide) (by rfl) (by rfl))⟩)) ah rfl) (by decide) (by decide) (by rfl) (by rfl)) ah rfl) (by decide) (by decide) (by rfl) (by rfl)) (by rfl) (by first|exact .inl rfl|exact .inr rfl|assumption)) (@aJ _ _ _ (@nj _ _ _ _ (kg kO nq nH lI (pv 6) (@aa _ _ _ _ _ (fh (dB.of (show dY (aR qB) ["bag","p","places","many","wide","n","checks","c","there"] _ ["place","bag","p"] [none,some 0,some 1]=true by decide+kernel)) (@fj _ _ _ _ (pv 8)) (fun _ _ _ _=>⟨(aO (i:=0) (by show List.Nodup (["place","bag","p"]:List Str);decide+kernel) rfl (Or.inl rfl)),fL,(@cZ _ _ _ _ _ (@aa _ _ _ _ _ (pv 0) (@aa _ _ _ _ _ (@aG _ _ _ _ _ _ _ _ eN ak (@aL _ _ _ _ _ _ _ _ _ _ c5 (hr.mono (by decide)) (@aa _ _ _ _ _ (pv 1) (@aa _ _ _ _ _ (@aG _ _ _ _ _ _ _ _ j8 (pv 2) ak) ah rfl) rfl) (by rfl) (by decide) (by rfl) (by rfl))) ah rfl) rfl))⟩)) ah rfl)) (by rfl)))) (by intro _;rfl)) (@aJ _ _ _ (@bu _ _ _ _ (@cZ _ _ _ _ _ (@aa _ _ _ _ _ (pv 1) (@aa _ _ _ _ _ (pv 5) (@aa _ _ _ _ _ (pv 6) ah rfl) rfl) rfl))))))),?_⟩
 refine Sv.lZ hB hlive hnb hds aD (ρ:=[.az, .d false _, .d false _, .d false _, .d false _, .no, .no, .no, .no]) rfl ?_
 clear aD hds
 have p2:=hp.1
 walk_at "dt"
 intro n n0 n1
 walk_at "dt"
 intro A6
 refine Sv.seq ?_
 refine Sv.pH ?_
 walk_at "dt"
 intro m mm0 mm1
 walk_at "dt"
 refine⟨fun c ρ=>∃(cs:List ao) (f6:Bool) (x7 x8:Sl),cs.length<=c/\(∀prs∈cs,iH p (1+n).toNat prs)/\ρ=[.az, .d false (.int p), .d false (.int places), .d false (.int many), .d false (.int wide), .d true (.int (1+n)), .own A6 f6 (cs.map eT),x7,x8],⟨[],_,_,_,aK _,(fun _ h=>nomatch h),rfl⟩,?_,?_⟩
 ·rintro c d ρ ⟨hc,rfl⟩ ⟨cs,f6,x7,x8,hcl,hcs,rfl⟩
  refine Gv.pT ?_
  walk_at "dt"
  refine aA.ev (aA.E7 (aA.ev (aA.lA (by decide) rfl ?_)))
  walk_at "dt"
  intro k0 k1 k2
  walk_at "dt"
  refine fq.ints (fun x=>0<=x/\x<1+n) ?_ fun os iG hos=>⟨os,rfl,by omega,fun rs vn hmem=>?_⟩
  ·rintro i d ⟨hi,rfl⟩
   walk_at "dt"
   refine⟨by walk_at "wk",?_⟩
   walk_at "dt"
   exact fun r r1 r2=>⟨r,rfl,r1,r2⟩
  have hrs:rs.Nodup:=vn.imp fun h=>by omega
  have MM:rs.length<=os.length:=nG hrs fun k hk=>(hmem k).mp hk
  walk_at "dt"
  refine aA.ev (aA.iW (by decide) rfl ?_)
  walk_at "dt"
  refine⟨by rw[aj];omega,fun v=>fq.rel pairD true (fun i pr=>rs[i]?=some pr.1/\1<=pr.2/\pr.2<p) ?_ fun prs hpl eZ=>?_⟩
  ·rintro i d hd
   obtain⟨x,hx,rfl⟩:=fT hd
   walk_at "dt"
   refine⟨by walk_at "wk",?_⟩
   walk_at "dt"
   intro r r1 r2
   walk_at "dt"
   exact⟨fun _=>rfl,(x,1+r),rfl,hx,by show 1<=1+r;omega,by show 1+r<p;omega⟩
  rw[aj] at hpl
  have ux:prs.map (·.1)=rs:=by
   apply eH
   intro j
   rw[aI]
   cases e:prs[j]? with
   |none=>rw[cQ (by have:=qy.mp e;omega)];rfl
   |some pr=>exact(eZ j pr e).1.symm
  have hQ:iH p (1+n).toNat prs:=⟨by rw[ux];exact hrs,by omega,fun pr bC=>by
   obtain⟨k,hk⟩:=je bC
   have h2:=eZ k pr hk
   have h1:=hos pr.1 ((hmem _).mp (dN h2.1))
   omega⟩
  refine⟨by rw[aj];omega,?_⟩
  refine⟨cs++[prs],_,_,_,by rw[cO,gQ];omega,fun q' hq'=>?_,by rw[fP];rfl⟩
  rcases iQ.mp hq' with h|h
  ·exact hcs q' h
  ·rw[bS.mp h];exact hQ
 ·rintro ρ ⟨cs,f6,x7,x8,hcl,hcs,rfl⟩
  refine Sv.oH 6 rfl ?_
  walk_at "dt"
  exact q (1+n) cs _ ⟨hp,iw,by omega,by omega,by omega,hcs⟩ (by omega) (by omega)
def Ah:DF:=fun ds Φ=>∃(p places many wide:Int),ds=[.int p, .int places, .int many, .int wide]/\eK p/\p<10^40/\1<=places/\places<=62/\0<=many/\many<=61/\1<=wide/\wide<=60/\∀(n:Int) (cs:List ao) (ws:List Int) (f:Bool),fG p n cs->n<=places->(cs.length:Int)<=many->ws.length=n.toNat->(∀x∈ws,0<=x/\x<p)->Φ f (.tuple [dQ p n cs,cJ ws])
theorem Mn:dj Ah:=by
 intro ds Φ Ψ hm z
 obtain⟨p,a,b,c,e,hp,h4,h1,h2,h3,h5,h6,h7,q⟩:=hm
 exact⟨p,a,b,c,e,hp,h4,h1,h2,h3,h5,h6,h7,fun n cs ws f h g k l m=>z _ _ (q n cs ws f h g k l m)⟩
theorem k6:ck ["bag","p","places","many","wide","way","net","word","k","at"] ["bag","p","places","many","wide"] (aR Ac):=⟨rfl,rfl,rfl,by decide+kernel,rfl,by decide+kernel,by decide+kernel⟩
theorem IU(F:bO K "_law_side" "_law_side" Ac f fd)(c5:Callee P w K mg base "_law_draw" 2 ["bag","many"] jx)(RT:Callee P w K mg base "_law_net" 3 ["bag","p","places","many","wide"] (fX 5 AL))(Nj:Callee P w K mg base "_law_letters" 3 ["bag","p","n"] (fX 3 zk))(Jh:Callee P w K mg base "_law_planted" 4 ["bag","p","word","many","wide"] (fX 5 vg))(aZ:mg "range"=none):
  bH P w K mg base bM 5 f fd ["bag","p","places","many","wide"] (fX 5 Ah):=by
 refine F.ok k6 (fun vs H Q E h=>h.1) (fun cdv A outer s H vs Q E hr h=>?_)
 obtain⟨b,l,ws,nb,ds,Φ,rfl,hB,hlive,hnb,hds,aD,hF⟩:=lY h
 obtain⟨p,places,many,wide,rfl,hp,iw,l1,l2,m1,m2,w1,w2,q⟩:=hF
 refine⟨_,(@au _ _ _ _ _ (@aN _ _ (5) _ _ _ _ k6.nd rfl (Or.inl rfl) (@aL _ _ _ _ _ _ _ _ _ _ c5 (hr.mono (by decide)) (@aa _ _ _ _ _ (pv 0) (@aa _ _ _ _ _ ak ah rfl) rfl) (by rfl) (by decide) (by rfl) (by rfl)) (by rfl) (by first|exact .inl rfl|exact .inr rfl|assumption)) (@au _ _ _ _ _ (@aN _ _ (6) _ _ _ _ k6.nd rfl (Or.inl rfl) (@aL _ _ _ _ _ _ _ _ _ _ RT (hr.mono (by decide)) (@aa _ _ _ _ _ (pv 0) (@aa _ _ _ _ _ (pv 1) (@aa _ _ _ _ _ (pv 2) (@aa _ _ _ _ _ (pv 3) (@aa _ _ _ _ _ (pv 4) ah rfl) rfl) rfl) rfl) rfl) (by rfl) (by decide) (by rfl) (by rfl)) (by rfl) (by first|exact .inl rfl|exact .inr rfl|assumption)) (@au _ _ _ _ _ (@aN _ _ (7) _ _ _ _ k6.nd rfl (Or.inl rfl) (@aL _ _ _ _ _ _ _ _ _ _ Nj (hr.mono (by decide)) (@aa _ _ _ _ _ (pv 0) (@aa _ _ _ _ _ (pv 1) (@aa _ _ _ _ _ (@aF _ _ _ _ _ _ (cz K) cD (pv 6) ak (fun _ _=>rfl)) ah rfl) rfl) rfl) (by rfl) (by decide) (by rfl) (by rfl)) (by rfl) (by first|exact .inl rfl|exact .inr rfl|assumption)) (@au _ _ _ _ _ (@fc _ _ _ _ _ _ _ _ (@cH _ _ _ _ _ _ _ _ yf (pv 5) ak (cg _)) (@au _ _ _ _ _ (@aN _ _ (6) _ _ _ _ k6.nd rfl (Or.inl rfl) (@aL _ _ _ _ _ _ _ _ _ _ Jh (hr.mono (by decide)) (@aa _ _ _ _ _ (pv 0) (@aa _ _ _ _ _ (pv 1) (@aa _ _ _ _ _ (pv 7) (@aa _ _ _ _ _ (@aL _ _ _ _ _ _ _ _ _ _ c5 (hr.mono (by decide)) (@aa _ _ _ _ _ (pv 0) (@aa _ _ _ _ _ (@aG _ _ _ _ _ _ _ _ eN (pv 3) ak) ah rfl) rfl) (by rfl) (by decide) (by rfl) (by rfl)) (@aa _ _ _ _ _ (pv 4) ah rfl) rfl) rfl) rfl) rfl) (by rfl) (by decide) (by rfl) (by rfl)) (by rfl) (by first|exact .inl rfl|exact .inr rfl|assumption)) (@aJ _ _ _ (@gE _ _ _ _ _ _ _ _ fB rfl (@iN _ _ _ _ _ _ rfl aZ (@aa _ _ _ _ _ (@aL _ _ _ _ _ _ _ _ _ _ c5 (hr.mono (by decide)) (@aa _ _ _ _ _ (pv 0) (@aa _ _ _ _ _ ak ah rfl) rfl) (by rfl) (by decide) (by rfl) (by rfl)) ah rfl) (by rfl)) (aO (i:=8) k6.nd rfl (Or.inl rfl)) (@au _ _ _ _ _ (@aN _ _ (9) _ _ _ _ k6.nd rfl (Or.inl rfl) (@aL _ _ _ _ _ _ _ _ _ _ c5 (hr.mono (by decide)) (@aa _ _ _ _ _ (pv 0) (@aa _ _ _ _ _ (@aF _ _ _ _ _ _ (cz K) cD (pv 6) ak (fun _ _=>rfl)) ah rfl) rfl) (by rfl) (by decide) (by rfl) (by rfl)) (by rfl) (by first|exact .inl rfl|exact .inr rfl|assumption)) (@aJ _ _ _ (@aN _ _ (7) _ _ _ _ k6.nd rfl (Or.inl rfl) (@aG _ _ _ _ _ _ _ _ mV (@aG _ _ _ _ _ _ _ _ mV (@mw _ _ _ _ _ _ _ _ _ (kc K) lT (pv 7) mH (@lD _ _ _ (pv 9))) (@eY _ _ _ _ (@aa _ _ _ _ _ (@aL _ _ _ _ _ _ _ _ _ _ c5 (hr.mono (by decide)) (@aa _ _ _ _ _ (pv 0) (@aa _ _ _ _ _ (pv 1) ah rfl) rfl) (by rfl) (by decide) (by rfl) (by rfl)) ah rfl))) (@mw _ _ _ _ _ _ _ _ _ (kc K) lT (pv 7) (@lD _ _ _ (@aG _ _ _ _ _ _ _ _ eN (pv 9) ak)) mH)) (by rfl) (by first|exact .inl rfl|exact .inr rfl|assumption)))) (by intro _;rfl)))) fE) (@aJ _ _ _ (@bu _ _ _ _ (@cZ _ _ _ _ _ (@aa _ _ _ _ _ (pv 6) (@aa _ _ _ _ _ (pv 7) ah rfl) rfl)))))))),?_⟩
 refine Sv.lZ hB hlive hnb hds aD (ρ:=[.az, .d false _, .d false _, .d false _, .d false _, .no, .no, .no, .no, .no]) rfl ?_
 clear aD hds
 have p2:=hp.1
 walk_at "dt"
 intro way y0 y1
 walk_at "dt"
 refine Ev.kW LQ rfl ?_
 walk_at "dt"
 refine⟨rfl,p,places,many,wide,rfl,hp,iw,l1,by omega,m1,by omega,w1,w2,fun n cs f hV hn hcl=>?_⟩
 have n0:=hV.n0
 have n1:=hV.n1
 have hsm:∀(n:Int) (ws:List Int) (k:Int),0<=k->k<(ws.length:Int)->∀y,eG (ws.map PyData.int) none (some k)++[.int y]++eG (ws.map PyData.int) (some (k+1)) none=(ws.set k.toNat y).map .int:=fun n ws k h0 h1 y=>by
  rw[Sg h0 (by rw[aj];exact h1),List.map_set]
 walk_at "dt"
 refine Ev.kW QK rfl ?_
 walk_at "dt"
 refine⟨rfl,p,n,rfl,⟨by omega,by omega⟩,by omega,by omega,fun ws hwl hws=>?_⟩
 by_cases cw:0<way
 ·walk_at "dt"
  refine Ev.kW Qf rfl ?_
  walk_at "dt"
  intro u0 u1 u2
  walk_at "dt"
  refine⟨rfl,p,_,wide,ws,rfl,hp,iw,by omega,by omega,hws,by omega,by omega,w1,w2,fun DR f2 hc2 hq2=>?_⟩
  refine Gv.kY ?_
  refine Sv.pH ?_
  walk_at "dt"
  intro g0 g1 g2
  walk_at "dt"
  refine⟨fun i ρ=>∃(aC:List Int) (f7:Bool) (x8 x9:Sl),aC.length=ws.length/\(∀x∈aC,0<=x/\x<p)/\ρ=[.az, .d false (.int p), .d false (.int places), .d false (.int many), .d false (.int wide), .d true (.int way), .d false (dQ p (ws.length:Int) DR), .d f7 (.list (aC.map .int)),x8,x9],⟨ws,_,_,_,rfl,hws,rfl⟩,?_,?_⟩
  ·rintro i d ρ ⟨hi,rfl⟩ ⟨aC,f7,x8,x9,hl',hw',rfl⟩
   have tV:(aC.map PyData.int).length=aC.length:=aj ..
   walk_at "dt"
   intro oq a1 a2
   have hc1:=BZ (xs:=aC.map PyData.int) (lo:=none) (hi:=some oq)
   have hc2:=BZ (xs:=aC.map PyData.int) (lo:=some (oq+1)) (hi:=none)
   walk_at "dt"
   intro y y1 y2
   walk_at "dt"
   refine⟨by show _+1<=_;omega,_,rfl,?_⟩
   walk_at "dt"
   refine⟨by rw[cO];show _+1+_<=_;omega,?_⟩
   show Gv _ _ _ _ (.list (eG (aC.map PyData.int) none (some oq)++[.int y]++eG (aC.map PyData.int) (some (oq+1)) none)) _
   rw[hsm n aC oq a1 (by omega) y]
   refine Gv.name ?_
   exact⟨aC.set oq.toNat y,_,_,_,by rw[gv];exact hl',fun x hx=>(CO hx).elim (hw' x) fun z=>z▸⟨y1,y2⟩,rfl⟩
  rintro ρ ⟨aC,f7,x8,x9,hl',hw',rfl⟩
  walk_at "dt"
  exact q (ws.length:Int) DR aC _ ⟨hp,iw,by omega,by omega,by omega,fun prs h=>by rw[iT];exact hq2 prs h⟩ (by omega) (by omega) (by omega) hw'
 ·walk_at "dt"
  exact q n cs ws _ hV hn hcl (by omega) hws
theorem Gu:∀{N:List Int} {m:Nat},(N.map PyData.int).eraseIdx m=(N.eraseIdx m).map .int
 |[],_=>rfl
 |_::_,0=>rfl
 |x::N,m+1=>congrArg (PyData.int x:: ·) (Gu (N:=N) (m:=m))
def Ay:DF:=fun ds Φ=>∃(n:Int),ds=[.int n]/\0<=n/\n<=400/\∀(f:Bool) (O:List Int),cB O n.toNat->Φ f (cJ O)
theorem Fc:dj Ay:=by
 intro ds Φ Ψ hm z
 obtain⟨n,e,h1,h2,q⟩:=hm
 exact⟨n,e,h1,h2,fun f O a=>z _ _ (q f O a)⟩
theorem sU:ck ["bag","many","left","found","k"] ["bag","many"] (aR vf):=⟨rfl,rfl,rfl,by decide+kernel,rfl,by decide+kernel,by decide+kernel⟩
theorem M9(F:bO K "_law_order" "_law_order" vf f fd)(c5:Callee P w K mg base "_law_draw" 2 ["bag","many"] jx)(cX:mg "list"=none)(aZ:mg "range"=none)(bP:mg "len"=none):
  bH P w K mg base bM 3 f fd ["bag","many"] (fX 2 Ay):=by
 refine F.ok sU (fun vs H Q E h=>h.1) (fun cdv A outer s H vs Q E hr h=>?_)
 obtain⟨b,l,ws,nb,ds,Φ,rfl,hB,hlive,hnb,hds,aD,hF⟩:=lY h
 obtain⟨n,rfl,n1,n2,q⟩:=hF
 refine⟨_,(@au _ _ _ _ _ (@aN _ _ (2) _ _ _ _ sU.nd rfl (Or.inl rfl) (@iR _ _ _ _ _ _ _ _ _ (Hg rfl) rfl cX jz (@aa _ _ _ _ _ (@iR _ _ _ _ _ _ _ _ _ HH rfl aZ C6 (@aa _ _ _ _ _ (pv 1) ah rfl) (by decide) (by decide) (by rfl) (by rfl)) ah rfl) (by decide) (by decide) (by rfl) (by rfl)) (by rfl) (by first|exact .inl rfl|exact .inr rfl|assumption)) (@au _ _ _ _ _ (@aN _ _ (3) _ _ _ _ sU.nd rfl (Or.inl rfl) (@eY _ _ _ _ ah) (by rfl) (by first|exact .inl rfl|exact .inr rfl|assumption)) (@au _ _ _ _ _ (@gE _ _ _ _ _ _ _ _ fB rfl (@iN _ _ _ _ _ _ rfl aZ (@aa _ _ _ _ _ (pv 1) ah rfl) (by rfl)) (aO (i:=4) sU.nd rfl (Or.inl rfl)) (@aJ _ _ _ (@nj _ _ _ _ (kg kO nq nH lI (pv 3) (@aa _ _ _ _ _ (kg kO PySem.F.slot_list_pop PySem.F.type_list_pop MZ (pv 2) (@aa _ _ _ _ _ (@aL _ _ _ _ _ _ _ _ _ _ c5 (hr.mono (by decide)) (@aa _ _ _ _ _ (pv 0) (@aa _ _ _ _ _ (@cC _ _ _ _ _ _ _ _ (gn K) iM rfl bP iy (@aa _ _ _ _ _ (pv 2) ah rfl) (by decide) (by decide) (by rfl) (by rfl)) ah rfl) rfl) (by rfl) (by decide) (by rfl) (by rfl)) ah rfl)) ah rfl)) (by rfl))) (by intro _;rfl)) (@aJ _ _ _ (@bu _ _ _ _ (pv 3)))))),?_⟩
 refine Sv.lZ hB hlive hnb hds aD (ρ:=[.az, .d false _, .no, .no, .no]) rfl ?_
 clear aD hds
 refine Sv.seq ?_
 refine Sv.wH (aA.DA ?_)
 walk_at "dt"
 intro A3
 walk_at "dt"
 intro A4
 obtain⟨N0,tu⟩:∃N0,(List.range n.toNat).map (fun(i:Nat)=>(0:Int)+(i:Int))=N0:=⟨_,rfl⟩
 rw[tu]
 have P9:N0.length=n.toNat:=by rw[<-tu];simp
 have Jy:∀x∈N0,0<=x/\x<n:=fun x hx=>by
  rw[<-tu] at hx
  obtain⟨i,hi,rfl⟩:=bU.mp hx
  have:=fQ.mp hi;omega
 have J8:N0.Nodup:=by
  rw[<-tu]
  refine pW.mpr (xh.imp fun h z=>h (by omega))
 refine Sv.seq ?_
 refine Sv.pH ?_
 walk_at "dt"
 refine⟨fun i ρ=>∃(N O:List Int) (f4:Bool) (x5:Sl),(O++N).Perm N0/\O.length=i/\ρ=[.az, .d false (.int n), .own A3 true (N.map .int), .own A4 f4 (O.map .int),x5],⟨N0,[],_,_,List.Perm.refl _,rfl,rfl⟩,?_,?_⟩
 ·rintro i d ρ ⟨hi,rfl⟩ ⟨N,O,f4,x5,hp,hO,rfl⟩
  have hl:=hp.length_eq
  rw[cO] at hl
  have Vc:(N.map PyData.int).length=N.length:=aj ..
  have Vg:(O.map PyData.int).length=O.length:=aj ..
  refine Gv.pT ?_
  refine Sv.IG (by decide) rfl rfl ?_
  walk_at "dt"
  intro r r0 r1
  obtain⟨m,rfl⟩:=rC r0
  have hm:m<N.length:=by omega
  refine⟨m, .int N[m],rfl,by omega,by rw[aI,aB hm];rfl,by omega,?_⟩
  rw[show(N.map PyData.int).eraseIdx m=(N.eraseIdx m).map .int by rw[Gu],show O.map PyData.int++[.int N[m]]=(O++[N[m]]).map .int by rw[fP];rfl]
  refine⟨N.eraseIdx m,O++[N[m]],_,_,?_,by rw[cO];simp;omega,rfl⟩
  rw[pL]
  exact(Ff O (CG (aB hm))).trans hp
 rintro ρ ⟨N,O,f4,x5,hp,hO,rfl⟩
 have hl:=hp.length_eq
 rw[cO] at hl
 have hNe:N=[]:=mz.mp (by omega)
 subst hNe
 rw[iS] at hp
 have Nd:cB O n.toNat:=⟨hp.nodup_iff.mpr J8,by omega,fun x hx=>by have:=Jy x (hp.mem_iff.mp hx);omega⟩
 refine Sv.oH 3 rfl ?_
 walk_at "dt"
 exact q _ O Nd
theorem I0{p t:Int}(hp:eK p)(h1:1<=t)(h2:t<p):yW p t:=by
 have p2:=hp.1
 have ht:t%p≠0:=by rw[m7 (by omega) h2];omega
 obtain⟨k,hk⟩:=GD (a:=1) hp ht
 exact⟨sol p t 1,k,by omega⟩
theorem Q9{p:Int}{O Q:List Int}{cs cs':List ao}(hQ:cB Q cs.length)(hl:cs'.length=Q.length)(h:∀(k:Nat) b,cs'[k]?=some b->Rn p O (cs.getD (aT Q k).toNat []) b):NR p O cs cs':=by
 have hq:=hQ.len
 refine⟨(List.range Q.length).map fun k=>cs.getD (aT Q k).toNat [],?_,by rw[aj,fU];omega,fun k a b ha hb=>?_⟩
 ·have e1:Q.map Int.toNat=(List.range Q.length).map fun i=>(aT Q i).toNat:=by
   apply eH
   intro k
   rw[aI,aI]
   by_cases hk:k<Q.length
   ·rw[hQ.at (by omega),nE hk];rfl
   ·rw[cQ (by omega),cQ (by rw[fU];omega)];rfl
  have e2:((List.range Q.length).map fun k=>cs.getD (aT Q k).toNat [])=(Q.map Int.toNat).map fun c=>cs.getD c []:=by rw[e1,c6];rfl
  rw[e2]
  refine(hQ.perm.map _).trans (List.Perm.of_eq ?_)
  apply eH
  intro k
  rw[aI]
  by_cases hk:k<cs.length
  ·rw[nE hk,aB hk];show some (cs.getD k [])=_;rw[bA,aB hk];rfl
  ·rw[cQ (by rw[fU];omega),cQ (by omega)];rfl
 ·rw[aI] at ha
  obtain⟨j,hj,rfl⟩:=i9.mp ha
  have hjk:j=k:=by
   have:=(bh.mp hj).2
   rw[List.getElem_range] at this
   exact this.symm
  subst hjk
  exact h j b hb
def Al:DF:=fun ds Φ=>∃(p n:Int) (cs:List ao) (O Q T:List Int),ds=[dQ p n cs,cJ O,cJ Q,cJ T]/\eK p/\p<10^40/\n<=400/\cB O n.toNat/\cB Q cs.length/\cs.length<=400/\T.length=Q.length/\(∀t∈T,1<=t/\t<p)/\(∀prs∈cs,prs.length<64/\∀pr∈prs,0<=pr.1/\pr.1<n.toNat/\1<=pr.2/\pr.2<p)/\∀(cs':List ao) (f:Bool),NR p O cs cs'->Φ f (dQ p n cs')
theorem HS:dj Al:=by
 intro ds Φ Ψ hm z
 obtain⟨p,n,cs,O,Q,T,e,h1,h2,h3,h4,h5,h6,h7,h8,h9,q⟩:=hm
 exact⟨p,n,cs,O,Q,T,e,h1,h2,h3,h4,h5,h6,h7,h8,h9,fun c f a=>z _ _ (q c f a)⟩
theorem t6:ck ["net","order","rows","times","checks","k","pairs"] ["net","order","rows","times"] (aR tw):=⟨rfl,rfl,rfl,by decide+kernel,rfl,by decide+kernel,by decide+kernel⟩
theorem J3(F:bO K "_law_renamed" "_law_renamed" tw f fd)(aZ:mg "range"=none)(bP:mg "len"=none)(gM:mg "sorted"=none):
  bH P w K mg base bM 1 f fd ["net","order","rows","times"] (aY 4 Al):=by
 refine F.ok t6 (fun vs H Q E h=>h.1) (fun cdv A outer s H vs Q E hr h=>?_)
 obtain⟨nb,ds,Φ,hlive,hds,aD,hF⟩:=fV h
 obtain⟨p,n,cs,O,Q,T,rfl,hp,iw,hn,hO,hQ,hcl,hT,zo,hcs,q⟩:=hF
 refine⟨_,(@au _ _ _ _ _ (@aN _ _ (4) _ _ _ _ t6.nd rfl (Or.inl rfl) (@eY _ _ _ _ ah) (by rfl) (by first|exact .inl rfl|exact .inr rfl|assumption)) (@au _ _ _ _ _ (@gE _ _ _ _ _ _ _ _ fB rfl (@iN _ _ _ _ _ _ rfl aZ (@aa _ _ _ _ _ (@cC _ _ _ _ _ _ _ _ (gn K) iM rfl bP iy (@aa _ _ _ _ _ (pv 2) ah rfl) (by decide) (by decide) (by rfl) (by rfl)) ah rfl) (by rfl)) (aO (i:=5) t6.nd rfl (Or.inr rfl)) (@au _ _ _ _ _ (@aN _ _ (6) _ _ _ _ t6.nd rfl (Or.inl rfl) (@aF _ _ _ _ _ _ (dM K) bQ (@aF _ _ _ _ _ _ (cz K) cD (pv 0) ak (fun _ _=>rfl)) (@aF _ _ _ _ _ _ (dM K) bQ (pv 2) (pv 5) (fun _ _=>rfl)) (fun _ _=>rfl)) (by rfl) (by first|exact .inl rfl|exact .inr rfl|assumption)) (@aJ _ _ _ (@nj _ _ _ _ (kg kO nq nH lI (pv 4) (@aa _ _ _ _ _ (@cC _ _ _ _ _ _ _ _ (AY K) Pg rfl gM oW (@aa _ _ _ _ _ (fh (dB.of (show dY (aR tw) ["net","order","rows","times","checks","k","pairs"] _ ["place","factor","net","order","times","k"] [none,none,some 0,some 1,some 3,some 5]=true by decide+kernel)) (@fj _ _ _ _ (pv 6)) (fun _ _ _ _=>⟨(@iA _ (K) _ _ _ (2) _ rfl rfl (@bV _ _ _ _ _ (aO (i:=0) (by show List.Nodup (["place","factor","net","order","times","k"]:List Str);decide+kernel) rfl (Or.inl rfl)) (@bV _ _ _ _ _ (aO (i:=1) (by show List.Nodup (["place","factor","net","order","times","k"]:List Str);decide+kernel) rfl (Or.inl rfl)) gR (by rfl)) (by rfl)) (by rfl) (by rfl)),fL,(@cZ _ _ _ _ _ (@aa _ _ _ _ _ (@aF _ _ _ _ _ _ (dM K) bQ (pv 3) (pv 0) (fun _ _=>rfl)) (@aa _ _ _ _ _ (@aG _ _ _ _ _ _ _ _ gJ (@aG _ _ _ _ _ _ _ _ gx (pv 1) (@aF _ _ _ _ _ _ (dM K) bQ (pv 4) (pv 5) (fun _ _=>rfl))) (@aF _ _ _ _ _ _ (cz K) cD (pv 2) ak (fun _ _=>rfl))) ah rfl) rfl))⟩)) ah rfl) (by decide) (by decide) (by rfl) (by rfl)) ah rfl)) (by rfl)))) (by intro _;rfl)) (@aJ _ _ _ (@bu _ _ _ _ (@cZ _ _ _ _ _ (@aa _ _ _ _ _ (@aF _ _ _ _ _ _ (cz K) cD (pv 0) ak (fun _ _=>rfl)) (@aa _ _ _ _ _ (@aF _ _ _ _ _ _ (cz K) cD (pv 0) ak (fun _ _=>rfl)) (@aa _ _ _ _ _ (pv 4) ah rfl) rfl) rfl)))))),?_⟩
 refine Sv.fJ hlive hds aD (ρ:=[.d false _, .d false _, .d false _, .d false _, .no, .no, .no]) rfl ?_
 clear aD hds
 have p2:=hp.1
 have qY:=hO.len
 have T7:=hQ.len
 have vF:(cs.map eT).length=cs.length:=aj ..
 have UG:(Q.map PyData.int).length=Q.length:=aj ..
 unfold cJ
 walk_at "dt"
 intro A4
 refine Sv.seq ?_
 refine Sv.pH ?_
 walk_at "dt"
 refine⟨fun i ρ=>∃(cs':List ao) (f4:Bool) (x5 x6:Sl),cs'.length=i/\(∀(k:Nat) b,cs'[k]?=some b->Rn p O (cs.getD (aT Q k).toNat []) b)/\ρ=[.d false (dQ p n cs), .d false (.list (O.map .int)), .d false (.list (Q.map .int)), .d false (.list (T.map .int)), .own A4 f4 (cs'.map eT),x5,x6],⟨[],_,_,_,rfl,(fun k b z=>by simp at z),rfl⟩,?_,?_⟩
 ·rintro i d ρ ⟨hi,rfl⟩ ⟨cs',f4,x5,x6,hl',hcs',rfl⟩
  have DK:i<cs.length:=by omega
  have hlt:=hQ.lt DK
  have Dt:bD (Q.map PyData.int) (0+(i:Int))=some (.int (aT Q i)):=gp (by omega) (by rw[show(0+(i:Int)).toNat=i by omega,aI,hQ.at DK];rfl)
  obtain⟨P0,Df⟩:∃P0,cs.getD (aT Q i).toNat []=P0:=⟨_,rfl⟩
  have Et:cs[(aT Q i).toNat]?=some P0:=by rw[<-Df,bA,aB (by omega)];rfl
  have NI:bD (cs.map eT) (aT Q i)=some (eT P0):=gp (by omega) (by rw[aI,Et];rfl)
  obtain⟨UO,LC⟩:=hcs P0 (dN Et)
  have Pz:(P0.map pairD).length=P0.length:=aj ..
  have hiT:i<T.length:=by omega
  have Vh:bD (T.map PyData.int) (0+(i:Int))=some (.int T[i]):=gp (by omega) (by rw[show(0+(i:Int)).toNat=i by omega,aI,aB hiT];rfl)
  obtain⟨t1,t2⟩:=zo T[i] (dZ _)
  have Um:(cs'.map eT).length=cs'.length:=aj ..
  walk_at "dt"
  refine aA.ev (aA.M3 (aA.ev (aA.iW (by decide) rfl ?_)))
  walk_at "dt"
  refine fun v=>fq.rel pairD false (fun j x=>∃pr,P0[j]?=some pr/\x=(aT O pr.1.toNat,pr.2*T[i]%p)) ?_ fun os iG hos=>?_
  ·rintro j d hd
   obtain⟨pr,hj,rfl⟩:=fT hd
   obtain⟨r0,r1,r2,r3⟩:=LC pr (dN hj)
   have hat:bD (O.map PyData.int) pr.1=some (.int (aT O pr.1.toNat)):=gp r0 (by rw[aI,hO.at (by omega)];rfl)
   unfold pairD
   walk_at "dt"
   refine⟨by walk_at "wk",?_⟩
   walk_at "dt"
   exact⟨fun z=>absurd z (by decide),(aT O pr.1.toNat,pr.2*T[i]%p),rfl,pr,hj,rfl⟩
  rw[Pz] at iG
  have xN:os=P0.map fun pr=>(aT O pr.1.toNat,pr.2*T[i]%p):=by
   apply eH
   intro k
   rw[aI]
   by_cases hk:k<P0.length
   ·obtain⟨t,e1,e2⟩:=hos k os[k] (aB (by omega))
    rw[e1,aB (by omega),e2];rfl
   ·rw[cQ (by omega),cQ (by omega)];rfl
  refine⟨os,rfl,by omega,fun xs g qJ hxs=>⟨by omega,?_⟩⟩
  refine⟨cs'++[xs],_,_,_,by rw[cO];simp;omega,fun k b hb=>?_,by rw[fP];rfl⟩
  by_cases hk:k<cs'.length
  ·rw[g7 hk] at hb
   exact hcs' k b hb
  ·have hki:k=i:=by
    have:=(bh.mp hb).1
    rw[cO,gQ] at this
    omega
   subst hki
   rw[ic (by omega),hl',Bf] at hb
   cases hb
   exact⟨T[k],I0 hp t1 t2,by rw[Df,<-xN];exact qJ⟩
 rintro ρ ⟨cs',f4,x5,x6,hl',hcs',rfl⟩
 refine Sv.oH 4 rfl ?_
 walk_at "dt"
 exact q cs' _ (Q9 hQ (by omega) hcs')
def mY:Nat->PyData->Prop
 |0,_=>False
 |n+1,d=>jo d=true\/∃ds,(d= .list ds\/d= .tuple ds)/\ds.length<=10000/\∀e∈ds,mY n e
def mU(n:Nat):DF:=fun ds Φ=>∃d,ds=[d,d]/\mY n d/\Φ true (.bool true)
theorem qE(n:Nat):dj (mU n):=fun ds Φ Ψ ⟨d,e,h,q⟩ z=>⟨d,e,h,z _ _ q⟩
theorem LU:∀vs H Q E,¬aY 2 (mU 0) vs H Q E:=fun vs H Q E ⟨_,_,_,_,_,d,_,h,_⟩=>h
theorem JO:ck ["found","due"] ["found","due"] (aR qR):=⟨rfl,rfl,rfl,by decide+kernel,rfl,by decide+kernel,by decide+kernel⟩
theorem oY(n:Nat)(F:bO K "_law_alike" "_law_alike" qR f fd)(o6:Callee P w K mg base "_law_alike" (n) ["found","due"] (aY 2 (mU n)))(gu:mg "isinstance"=none)(cX:mg "list"=none)(kP:mg "tuple"=none)(lN:mg "all"=none)(bP:mg "len"=none)(kX:mg "bool"=none)(jj:mg "int"=none)(kI:mg "str"=none)(aZ:mg "range"=none):
  bH P w K mg base bM (n+1) f fd ["found","due"] (aY 2 (mU (n+1))):=by
 refine F.ok JO (fun vs H Q E h=>h.1) (fun cdv A outer s H vs Q E hr h=>?_)
 obtain⟨nb,ds,Φ,hlive,hds,aD,hF⟩:=fV h
 obtain⟨d,rfl,hok,q⟩:=hF
 refine⟨_,(@au _ _ _ _ _ (@fc _ _ _ _ _ _ _ _ (@qI _ (K) _ _ rfl (@cC _ _ _ _ _ _ _ _ (se) BK rfl gu jC (@aa _ _ _ _ _ (pv 1) (@aa _ _ _ _ _ (@cZ _ _ _ _ _ (@aa _ _ _ _ _ (ja (v:= .ty "list") rfl cX jz rfl) (@aa _ _ _ _ _ (ja (v:= .ty "tuple") rfl kP Cm rfl) ah rfl) rfl)) ah rfl) rfl) (by decide) (by decide) (by rfl) (by rfl)) (fun _=>rfl)) (@au _ _ _ _ _ (@fc _ _ _ _ _ _ _ _ (PW.pt (DP (@vY _ _ _ _ (@qI _ (K) _ _ rfl (@cC _ _ _ _ _ _ _ _ (se) BK rfl gu jC (@aa _ _ _ _ _ (pv 0) (@aa _ _ _ _ _ (@cZ _ _ _ _ _ (@aa _ _ _ _ _ (ja (v:= .ty "list") rfl cX jz rfl) (@aa _ _ _ _ _ (ja (v:= .ty "tuple") rfl kP Cm rfl) ah rfl) rfl)) ah rfl) rfl) (by decide) (by decide) (by rfl) (by rfl)) (fun _=>rfl))) (Bh (@cH _ _ _ _ _ _ _ _ jU (@cC _ _ _ _ _ _ _ _ (jP K) kK rfl gu jC (@aa _ _ _ _ _ (pv 0) (@aa _ _ _ _ _ (ja (v:= .ty "list") rfl cX jz rfl) ah rfl) rfl) (by decide) (by decide) (by rfl) (by rfl)) (@cC _ _ _ _ _ _ _ _ (jP K) kK rfl gu jC (@aa _ _ _ _ _ (pv 1) (@aa _ _ _ _ _ (ja (v:= .ty "list") rfl cX jz rfl) ah rfl) rfl) (by decide) (by decide) (by rfl) (by rfl)) (cg _))))) (@aJ _ _ _ (@bu _ _ _ _ nB)) fE) (@au _ _ _ _ _ (@fc _ _ _ _ _ _ _ _ (@cH _ _ _ _ _ _ _ _ jU (@cC _ _ _ _ _ _ _ _ (gn K) iM rfl bP iy (@aa _ _ _ _ _ (pv 0) ah rfl) (by decide) (by decide) (by rfl) (by rfl)) (@cC _ _ _ _ _ _ _ _ (gn K) iM rfl bP iy (@aa _ _ _ _ _ (pv 1) ah rfl) (by decide) (by decide) (by rfl) (by rfl)) (cg _)) (@aJ _ _ _ (@bu _ _ _ _ nB)) fE) (@aJ _ _ _ (@bu _ _ _ _ (@cC _ _ _ _ _ _ _ _ (wI K) (Ob rfl) rfl lN PyProof.Rows.boot_all (@aa _ _ _ _ _ (fh (dB.of (show dY (aR qR) ["found","due"] _ ["k","found","due"] [none,some 0,some 1]=true by decide+kernel)) (@iN _ _ _ _ _ _ rfl aZ (@aa _ _ _ _ _ (@cC _ _ _ _ _ _ _ _ (gn K) iM rfl bP iy (@aa _ _ _ _ _ (pv 1) ah rfl) (by decide) (by decide) (by rfl) (by rfl)) ah rfl) (by rfl)) (fun _ _ _ _=>⟨(aO (i:=0) (by show List.Nodup (["k","found","due"]:List Str);decide+kernel) rfl (Or.inl rfl)),fL,(@aL _ _ _ _ _ _ _ _ _ _ o6 (hr.mono (aK _)) (@aa _ _ _ _ _ (@aF _ _ _ _ _ _ (t9 K) DW (pv 1) (pv 0) (fun _ _=>rfl)) (@aa _ _ _ _ _ (@aF _ _ _ _ _ _ (t9 K) DW (pv 2) (pv 0) (fun _ _=>rfl)) ah rfl) rfl) (by rfl) (by decide) (by rfl) (by rfl))⟩)) ah rfl) (by decide) (by decide) (by rfl) (by rfl)))))) fE) (@au _ _ _ _ _ (@fc _ _ _ _ _ _ _ _ (PW.pt (DP (@cH _ _ _ _ _ _ _ _ jU (@cC _ _ _ _ _ _ _ _ (jP K) kK rfl gu jC (@aa _ _ _ _ _ (pv 0) (@aa _ _ _ _ _ (ja (v:= .ty "bool") rfl kX DG rfl) ah rfl) rfl) (by decide) (by decide) (by rfl) (by rfl)) (@cC _ _ _ _ _ _ _ _ (jP K) kK rfl gu jC (@aa _ _ _ _ _ (pv 1) (@aa _ _ _ _ _ (ja (v:= .ty "bool") rfl kX DG rfl) ah rfl) rfl) (by decide) (by decide) (by rfl) (by rfl)) (cg _)) (Bh (@cH _ _ _ _ _ _ _ _ jU (@cC _ _ _ _ _ _ _ _ (jP K) kK rfl gu jC (@aa _ _ _ _ _ (pv 0) (@aa _ _ _ _ _ (ja (v:= .ty "int") rfl jj xU rfl) ah rfl) rfl) (by decide) (by decide) (by rfl) (by rfl)) (@cC _ _ _ _ _ _ _ _ (jP K) kK rfl gu jC (@aa _ _ _ _ _ (pv 1) (@aa _ _ _ _ _ (ja (v:= .ty "int") rfl jj xU rfl) ah rfl) rfl) (by decide) (by decide) (by rfl) (by rfl)) (cg _))))) (@aJ _ _ _ (@bu _ _ _ _ nB)) fE) (@aJ _ _ _ (@bu _ _ _ _ (@Dg _ _ _ _ _ _ _ (@uw _ _ _ _ _ _ _ _ ji (@cC _ _ _ _ _ _ _ _ (jP K) kK rfl gu jC (@aa _ _ _ _ _ (pv 0) (@aa _ _ _ _ _ (ja (v:= .ty "str") rfl kI Ga rfl) ah rfl) rfl) (by decide) (by decide) (by rfl) (by rfl)) (@cC _ _ _ _ _ _ _ _ (jP K) kK rfl gu jC (@aa _ _ _ _ _ (pv 1) (@aa _ _ _ _ _ (ja (v:= .ty "str") rfl kI Ga rfl) ah rfl) rfl) (by decide) (by decide) (by rfl) (by rfl)) (cg _)) (@BI _ _ _ _ _ (@uw _ _ _ _ _ _ _ _ ji (pv 0) (pv 1) (cg _)))))))),?_⟩
 refine Sv.fJ hlive hds aD (ρ:=[.d false _, .d false _]) rfl ?_
 clear aD hds
 walk_at "dt"
 rcases hok with hs|⟨ds,hd,hl,he⟩
 ·have h1:(g9 d "list" ||g9 d "tuple")=false:=by cases d<;>first|rfl|cases hs
  rw[h1]
  walk_at "dt"
  rw[beq_self_eq_true]
  walk_at "dt"
  rw[beq_self_eq_true]
  walk_at "dt"
  rw[beq_self_eq_true]
  walk_at "dt"
  exact⟨true, .self hs,q⟩
 rcases hd with rfl|rfl
 ·rw[(EZ ds).1,(EZ ds).2,Bool.true_or]
  walk_at "dt"
  refine aA.ev (aA.lA (by decide) rfl ?_)
  walk_at "dt"
  refine⟨true,fun i es=>es=List.replicate i (.bool true),rfl,?_,?_⟩
  ·rintro i d' es ⟨hi,rfl⟩ hl' rfl
   have hi':i<ds.length:=by omega
   have hat:bD ds (0+(i:Int))=some ds[i]:=gp (by omega) (by rw[show(0+(i:Int)).toNat=i by omega];exact aB hi')
   walk_at "dt"
   refine⟨by walk_at "wk",?_⟩
   walk_at "dt"
   refine Ev.bZ (qE n) ?_
   walk_at "dt"
   refine⟨rfl,ds[i],rfl,he _ (dZ hi'),fun _=>rfl,?_⟩
   show _=List.replicate (i+1) _
   rw[GV]
  ·rintro es hl' rfl
   refine⟨List.replicate ds.length true,by simp,?_⟩
   rw[show(List.replicate ds.length true).all id=true by simp]
   exact q
 ·rw[(Fv ds).1,(Fv ds).2,pC]
  walk_at "dt"
  refine aA.ev (aA.lA (by decide) rfl ?_)
  walk_at "dt"
  refine⟨true,fun i es=>es=List.replicate i (.bool true),rfl,?_,?_⟩
  ·rintro i d' es ⟨hi,rfl⟩ hl' rfl
   have hi':i<ds.length:=by omega
   have hat:bD ds (0+(i:Int))=some ds[i]:=gp (by omega) (by rw[show(0+(i:Int)).toNat=i by omega];exact aB hi')
   walk_at "dt"
   refine⟨by walk_at "wk",?_⟩
   walk_at "dt"
   refine Ev.bZ (qE n) ?_
   walk_at "dt"
   refine⟨rfl,ds[i],rfl,he _ (dZ hi'),fun _=>rfl,?_⟩
   show _=List.replicate (i+1) _
   rw[GV]
  ·rintro es hl' rfl
   refine⟨List.replicate ds.length true,by simp,?_⟩
   rw[show(List.replicate ds.length true).all id=true by simp]
   exact q
def yU:DF:=fun ds Φ=>∃(p n:Int) (cs:List ao),ds=[dQ p n cs]/\cs.length<=10000/\∀f,Φ f (dQ p n cs)
theorem G4:dj yU:=by
 intro ds Φ Ψ hm z
 obtain⟨p,n,cs,e,h,q⟩:=hm
 exact⟨p,n,cs,e,h,fun f=>z _ _ (q f)⟩
theorem QY:ck ["net"] ["net"] (aR sf):=⟨rfl,rfl,rfl,by decide+kernel,rfl,by decide+kernel,by decide+kernel⟩
theorem Lg(F:bO K "_law_copy" "_law_copy" sf f fd)(cX:mg "list"=none):
  bH P w K mg base bM 1 f fd ["net"] (aY 1 yU):=by
 refine F.ok QY (fun vs H Q E h=>h.1) (fun cdv A outer s H vs Q E hr h=>?_)
 obtain⟨nb,ds,Φ,hlive,hds,aD,hF⟩:=fV h
 obtain⟨p,n,cs,rfl,hl,q⟩:=hF
 refine⟨_,(@aJ _ _ _ (@bu _ _ _ _ (@cZ _ _ _ _ _ (@aa _ _ _ _ _ (@aF _ _ _ _ _ _ (cz K) cD (pv 0) ak (fun _ _=>rfl)) (@aa _ _ _ _ _ (@aF _ _ _ _ _ _ (cz K) cD (pv 0) ak (fun _ _=>rfl)) (@aa _ _ _ _ _ (fh (dB.of (show dY (aR sf) ["net"] _ ["pairs"] [none]=true by decide+kernel)) (@fj _ _ _ _ (@aF _ _ _ _ _ _ (cz K) cD (pv 0) ak (fun _ _=>rfl))) (fun _ _ _ _=>⟨(aO (i:=0) (by show List.Nodup (["pairs"]:List Str);decide+kernel) rfl (Or.inl rfl)),fL,(@iR _ _ _ _ _ _ _ _ (k9 K) oM rfl cX jz (@aa _ _ _ _ _ (pv 0) ah rfl) (by decide) (by decide) (by rfl) (by rfl))⟩)) ah rfl) rfl) rfl)))),?_⟩
 refine Sv.fJ hlive hds aD (ρ:=[.d false _]) rfl ?_
 clear aD hds
 walk_at "dt"
 refine aA.ev (aA.iW (by decide) rfl ?_)
 walk_at "dt"
 refine⟨by rw[aj];exact hl,fun v=>⟨false,fun i ds=>ds=(cs.take i).map eT,rfl,?_,?_⟩⟩
 ·rintro i d ds hd hl' rfl
  obtain⟨prs,eZ,rfl⟩:=fT hd
  walk_at "dt"
  refine⟨by walk_at "wk",?_⟩
  walk_at "dt"
  refine⟨fun z=>(by cases z),?_⟩
  show _=List.map _ _
  rw[take_snoc eZ,fP]
  rfl
 ·rintro ds hl' rfl
  rw[aj,iF]
  walk_at "dt"
  exact q _
def zQ:DF:=fun ds Φ=>∃(O ws:List Int),ds=[cJ O,cJ ws]/\cB O ws.length/\ws.length<=400/\∀(f:Bool) (aC:List Int),WI O ws aC->Φ f (cJ aC)
theorem vD:dj zQ:=by
 intro ds Φ Ψ hm z
 obtain⟨O,ws,e,h,l,q⟩:=hm
 exact⟨O,ws,e,h,l,fun f w a=>z _ _ (q f w a)⟩
theorem OT:ck ["order","word"] ["order","word"] (aR rL):=⟨rfl,rfl,rfl,by decide+kernel,rfl,by decide+kernel,by decide+kernel⟩
theorem OL(F:bO K "_law_put" "_law_put" rL f fd)(aZ:mg "range"=none)(bP:mg "len"=none):
  bH P w K mg base bM 1 f fd ["order","word"] (aY 2 zQ):=by
 refine F.ok OT (fun vs H Q E h=>h.1) (fun cdv A outer s H vs Q E hr h=>?_)
 obtain⟨nb,ds,Φ,hlive,hds,aD,hF⟩:=fV h
 obtain⟨O,ws,rfl,hO,hwl,q⟩:=hF
 refine⟨_,(@aJ _ _ _ (@bu _ _ _ _ (fh (dB.of (show dY (aR rL) ["order","word"] _ ["place","order","word"] [none,some 0,some 1]=true by decide+kernel)) (@iN _ _ _ _ _ _ rfl aZ (@aa _ _ _ _ _ (@cC _ _ _ _ _ _ _ _ (gn K) iM rfl bP iy (@aa _ _ _ _ _ (pv 1) ah rfl) (by decide) (by decide) (by rfl) (by rfl)) ah rfl) (by rfl)) (fun _ _ _ _=>⟨(aO (i:=0) (by show List.Nodup (["place","order","word"]:List Str);decide+kernel) rfl (Or.inl rfl)),fL,(@aF _ _ _ _ _ _ (dM K) bQ (pv 2) (Pc (K:=K) rfl (kg kO PySem.F.slot_list_index PySem.F.type_list_index Rm (pv 1) (@aa _ _ _ _ _ (pv 0) ah rfl))) (fun _ _=>rfl))⟩)))),?_⟩
 refine Sv.fJ hlive hds aD (ρ:=[.d false _, .d false _]) rfl ?_
 clear aD hds
 have tV:(ws.map PyData.int).length=ws.length:=aj ..
 have qY:=hO.len
 unfold cJ
 walk_at "dt"
 refine aA.ev (aA.lA (by decide) rfl ?_)
 walk_at "dt"
 refine fq.rel PyData.int false (fun j x=>∃i:Nat,i<ws.length/\aT O i=(j:Int)/\ws[i]?=some x) ?_ fun os iG hos=>?_
 ·rintro j d ⟨hj,rfl⟩
  have hj':j<ws.length:=by omega
  obtain⟨i,hi,e⟩:=hO.ex hj'
  have hat:=hO.at hi
  rw[e] at hat
  have hmem:(j:Int)∈O:=dN hat
  have hix:O.idxOf (j:Int)=i:=by
   have hlt:O.idxOf (j:Int)<O.length:=List.idxOf_lt_length_iff.mpr hmem
   exact Gd hO.nd (by rw[aB hlt,List.getElem_idxOf hlt]) hat
  walk_at "dt"
  refine⟨by walk_at "wk",?_⟩
  refine Ev.Bo ?_
  walk_at "dt"
  refine Ev.idx ?_
  walk_at "dt"
  refine⟨O,rfl,by omega,fun x hx=>by have:=hO.rg x hx;omega,?_⟩
  walk_at "dt"
  refine⟨by rw[show(0+(j:Int))=j by omega];exact hmem,_,rfl, .int ws[i],?_,(fun z=>absurd z (by decide)),_,rfl,i,hi,e,aB hi⟩
  rw[show(0+(j:Int))=j by omega,hix]
  exact gp (by omega) (by rw[iT,aI,aB hi];rfl)
 have iG:os.length=ws.length:=by omega
 refine q _ os (WI.of (by omega) (by omega) (fun i hi=>?_) hO)
 have hl:=hO.lt (i:=i) (by omega)
 have hk:(aT O i).toNat<os.length:=by omega
 obtain⟨i',g1,g2,g3⟩:=hos (aT O i).toNat os[(aT O i).toNat] (aB hk)
 have:i'=i:=hO.inj g1 (by omega) (by rw[g2];omega)
 subst this
 rw[bA,bA,g3,aB hk]
def z6:DF:=fun ds Φ=>∃(O:List Int) (n:Nat) (ts:List bN),ds=[cJ O, .list (ts.map c7)]/\cB O n/\n<=400/\ts.length<64/\(∀t∈ts,0<=t.1/\t.1<n)/\∀(f:Bool) (xs:List bN),xs.Perm (ts.map (gY O))->(xs.Pairwise fun c d=>gf d c=false)->Φ f (.list (xs.map c7))
theorem Bs:dj z6:=by
 intro ds Φ Ψ hm z
 obtain⟨O,n,ts,e,h,l,k,m,q⟩:=hm
 exact⟨O,n,ts,e,h,l,k,m,fun f w a b=>z _ _ (q f w a b)⟩
theorem Tq:ck ["order","turns"] ["order","turns"] (aR sq):=⟨rfl,rfl,rfl,by decide+kernel,rfl,by decide+kernel,by decide+kernel⟩
theorem Qp(F:bO K "_law_turns" "_law_turns" sq f fd)(gM:mg "sorted"=none):
  bH P w K mg base bM 1 f fd ["order","turns"] (aY 2 z6):=by
 refine F.ok Tq (fun vs H Q E h=>h.1) (fun cdv A outer s H vs Q E hr h=>?_)
 obtain⟨nb,ds,Φ,hlive,hds,aD,hF⟩:=fV h
 obtain⟨O,n,ts,rfl,hO,hn,jW,ht,q⟩:=hF
 refine⟨_,(@aJ _ _ _ (@bu _ _ _ _ (@cC _ _ _ _ _ _ _ _ (vZ K) S6 rfl gM oW (@aa _ _ _ _ _ (fh (dB.of (show dY (aR sq) ["order","turns"] _ ["place","old","new","order"] [none,none,none,some 0]=true by decide+kernel)) (@fj _ _ _ _ (pv 1)) (fun _ _ _ _=>⟨(@iA _ (K) _ _ _ (3) _ rfl rfl (@bV _ _ _ _ _ (aO (i:=0) (by show List.Nodup (["place","old","new","order"]:List Str);decide+kernel) rfl (Or.inl rfl)) (@bV _ _ _ _ _ (aO (i:=1) (by show List.Nodup (["place","old","new","order"]:List Str);decide+kernel) rfl (Or.inl rfl)) (@bV _ _ _ _ _ (aO (i:=2) (by show List.Nodup (["place","old","new","order"]:List Str);decide+kernel) rfl (Or.inl rfl)) gR (by rfl)) (by rfl)) (by rfl)) (by rfl) (by rfl)),fL,(@cZ _ _ _ _ _ (@aa _ _ _ _ _ (@aF _ _ _ _ _ _ (dM K) bQ (pv 3) (pv 0) (fun _ _=>rfl)) (@aa _ _ _ _ _ (pv 1) (@aa _ _ _ _ _ (pv 2) ah rfl) rfl) rfl))⟩)) ah rfl) (by decide) (by decide) (by rfl) (by rfl)))),?_⟩
 refine Sv.fJ hlive hds aD (ρ:=[.d false _, .d false _]) rfl ?_
 clear aD hds
 have pe:(ts.map c7).length=ts.length:=aj ..
 have qY:=hO.len
 unfold cJ
 walk_at "dt"
 refine aA.ev (aA.T8 (aA.ev (aA.iW (by decide) rfl ?_)))
 walk_at "dt"
 refine fun v=>fq.rel c7 false (fun j x=>∃t,ts[j]?=some t/\x=gY O t) ?_ fun os iG hos=>?_
 ·rintro j d hd
  obtain⟨t,hj,rfl⟩:=fT hd
  obtain⟨t0,t1⟩:=ht t (dN hj)
  have hat:bD (O.map PyData.int) t.1=some (.int (aT O t.1.toNat)):=gp t0 (by rw[aI,hO.at (by omega)];rfl)
  walk_at "dt"
  refine⟨by walk_at "wk",?_⟩
  walk_at "dt"
  exact⟨fun z=>absurd z (by decide),gY O t,rfl,t,hj,rfl⟩
 rw[pe] at iG
 have xN:os=ts.map (gY O):=by
  apply eH
  intro k
  rw[aI]
  by_cases hk:k<ts.length
  ·obtain⟨t,e1,e2⟩:=hos k os[k] (aB (by omega))
   rw[e1,aB (by omega),e2];rfl
  ·rw[cQ (by omega),cQ (by omega)];rfl
 exact⟨os,rfl,by omega,fun xs g hp hs=>q _ xs (by rw[<-xN];exact hp) hs⟩
theorem EC{n:Nat}{ws:List Int}(h:ws.length<=10000):mY (n+2) (cJ ws):=by
 refine .inr ⟨_, .inl rfl,by rw[aj];exact h,fun e he=>?_⟩
 obtain⟨x,_,rfl⟩:=bU.mp he
 exact .inl rfl
theorem Iq{n:Nat}{L:List (Int×Int)}(h:L.length<=10000):mY (n+3) (.list (L.map pairD)):=by
 refine .inr ⟨_, .inl rfl,by rw[aj];exact h,fun e he=>?_⟩
 obtain⟨x,_,rfl⟩:=bU.mp he
 refine .inr ⟨_, .inr rfl,by show 2<=10000;omega,fun e he=>?_⟩
 simp only[aH,bY,or_false] at he
 rcases he with rfl|rfl<;>exact .inl rfl
theorem G9{n:Nat}{ts:List bN}(h:ts.length<=10000):mY (n+3) (.list (ts.map c7)):=by
 refine .inr ⟨_, .inl rfl,by rw[aj];exact h,fun e he=>?_⟩
 obtain⟨x,_,rfl⟩:=bU.mp he
 refine .inr ⟨_, .inr rfl,by show 3<=10000;omega,fun e he=>?_⟩
 simp only[aH,bY,or_false] at he
 rcases he with rfl|rfl|rfl<;>exact .inl rfl
theorem IS{r:List Int×List (List bN)×Str}(h1:r.1.length<=10000)(h2:r.2.1.length<=10000)(h3:∀ts∈r.2.1,ts.length<=10000):mY 5 (sS r):=by
 refine .inr ⟨_, .inr rfl,by show 3<=10000;omega,fun e he=>?_⟩
 simp only[aH,bY,or_false] at he
 rcases he with rfl|rfl|rfl
 ·exact EC h1
 ·refine .inr ⟨_, .inl rfl,by rw[aj];exact h2,fun e he=>?_⟩
  obtain⟨ts,hts,rfl⟩:=bU.mp he
  exact G9 (h3 ts hts)
 ·refine .inr ⟨_, .inr rfl,by show 1<=10000;omega,fun e he=>?_⟩
  rw[bS.mp he]
  exact .inl rfl
theorem zc{p:Int}{cs:List ao}{n:Nat}(hp:0<p):∀(k:Nat) (ws:List Int),ws.length=n->(∀x∈ws,0<=x/\x<p)->(cF p cs n k ws).1.length=n/\(cF p cs n k ws).2.1.length<=k/\∀ts∈(cF p cs n k ws).2.1,ts.length<=n
  |0,ws,h,_=>by rw[cF];exact⟨h,aK _,fun _ h=>nomatch h⟩
  | k + 1, ws, h, hw => by
    by_cases c1:brk p cs ws=0
    · rw[mL c1];exact⟨h,fF _,fun _ h=>nomatch h⟩
    by_cases c2:br p cs ws n=[]
    · rw[pK c1 c2];exact⟨h,fF _,fun _ h=>nomatch h⟩
    · rw[p6 c1 c2]
      have hr:=Eo (cs:=cs) hp h hw
      obtain⟨i1,i2,i3⟩:=zc hp k _ hr.1 hr.2
      refine⟨i1,by show _+1<=_;omega,fun ts hts=>?_⟩
      rcases aH.mp hts with z|z
      · rw[z];exact qm n
      · exact i3 ts z
theorem Ex{p:Int}{cs:List ao}{n:Nat}:∀(k:Nat) (ws:List Int),∀ts∈(cF p cs n k ws).2.1,∀t∈ts,0<=t.1/\t.1<n
  |0,ws=>by rw[cF];exact fun _ h=>nomatch h
  | k + 1, ws => by
    by_cases c1:brk p cs ws=0
    · rw[mL c1];exact fun _ h=>nomatch h
    by_cases c2:br p cs ws n=[]
    · rw[pK c1 c2];exact fun _ h=>nomatch h
    · rw[p6 c1 c2]
      intro ts hts
      rcases aH.mp hts with z|z
      · rw[z];exact yz
      · exact Ex k _ ts z
theorem Rl(p n:Int)(cs cs':List ao)(ws aC:List Int):SeqAt.shaped (.tuple [dQ p n cs, .list (ws.map .int),dQ p n cs', .list (aC.map .int)])=true:=by
 have h1:=Dc cs
 have h2:=Dc cs'
 have hi:∀l:List Int,PyData.depthAll (l.map PyData.int)=0/\PyData.canLayAll0 (l.map PyData.int)=true:=fun l=>by
  induction l with
  |nil=>simp[PyData.depthAll,PyData.canLayAll0]
  |cons a r ih=>simp[PyData.depthAll,PyData.depth,PyData.canLayAll0,PyData.canLay0,ih.1,ih.2]
 unfold SeqAt.shaped dQ
 simp only[PyData.canLay0,PyData.canLayAll0,PyData.depth,PyData.depthAll,h1.2,h2.2,(hi ws).1,(hi aC).1,(hi ws).2,(hi aC).2,mW,Bool.and_true]
 have:=h1.1
 have:=h2.1
 simp
 omega
theorem fk:ck ["script","bag","most","great","p","net","word","order","rows","other","put","handed","place","some","after","turns","rounds","end","due"] ["script"] (aR jv):=⟨rfl,rfl,rfl,by decide+kernel,rfl,by decide+kernel,by decide+kernel⟩
theorem Tt(F:bO K "law" "law" jv f fd)(Lb:Callee P w K mg base "_law_bag" 1 ["script"] (EL K))(c5:Callee P w K mg base "_law_draw" 2 ["bag","many"] jx)(PN:Callee P w K mg base "_law_prime" 3 ["bag"] (fX 1 AQ))(LW:Callee P w K mg base "_law_side" 5 ["bag","p","places","many","wide"] (fX 5 Ah))(Hh:Callee P w K mg base "_law_order" 3 ["bag","many"] (fX 2 Ay))(Nr:Callee P w K mg base "_law_renamed" 1 ["net","order","rows","times"] (aY 4 Al))(As:Callee P w K mg base "_law_put" 1 ["order","word"] (aY 2 zQ))(FE:Callee P w K mg base "turned" 4 ["net","word"] (aY 2 Ad))(CM:Callee P w K mg base "voted" 4 ["net","word","most"] (aY 3 vK))(CU:Callee P w K mg base "_law_copy" 1 ["net"] (aY 1 yU))(EI:Callee P w K mg base "votes" 4 ["net","word","place"] (aY 3 xA))(o6:Callee P w K mg base "_law_alike" 5 ["found","due"] (aY 2 (mU 5)))(E5:Callee P w K mg base "_law_turns" 1 ["order","turns"] (aY 2 z6))(aZ:mg "range"=none)(bP:mg "len"=none)(cX:mg "list"=none):
  bH P w K mg base bM 6 f fd ["script"] (sM K):=by
 refine F.ok fk (fun vs H Q E h=>?_) (fun cdv A outer s H vs Q E hr h=>?_)
 ·obtain⟨a,ns,rfl,hS,hl,q⟩:=h
  rfl
 obtain⟨a,ns,rfl,hS,hl,q⟩:=h
 refine⟨_,(@au _ _ _ _ _ (@aN _ _ (1) _ _ _ _ fk.nd rfl (Or.inr rfl) (@aL _ _ _ _ _ _ _ _ _ _ Lb (hr.mono (by decide)) (@aa _ _ _ _ _ (pv 0) ah rfl) (by rfl) (by decide) (by rfl) (by rfl)) (by rfl) (by first|exact .inl rfl|exact .inr rfl|assumption)) (@au _ _ _ _ _ (@aN _ _ (2) _ _ _ _ fk.nd rfl (Or.inl rfl) (@aL _ _ _ _ _ _ _ _ _ _ c5 (hr.mono (by decide)) (@aa _ _ _ _ _ (pv 1) (@aa _ _ _ _ _ ak ah rfl) rfl) (by rfl) (by decide) (by rfl) (by rfl)) (by rfl) (by first|exact .inl rfl|exact .inr rfl|assumption)) (@au _ _ _ _ _ (@aN _ _ (3) _ _ _ _ fk.nd rfl (Or.inl rfl) (@aG _ _ _ _ _ _ _ _ nQ (@aL _ _ _ _ _ _ _ _ _ _ c5 (hr.mono (by decide)) (@aa _ _ _ _ _ (pv 1) (@aa _ _ _ _ _ ak ah rfl) rfl) (by rfl) (by decide) (by rfl) (by rfl)) ak) (by rfl) (by first|exact .inl rfl|exact .inr rfl|assumption)) (@au _ _ _ _ _ (@aN _ _ (4) _ _ _ _ fk.nd rfl (Or.inr rfl) (@aL _ _ _ _ _ _ _ _ _ _ PN (hr.mono (by decide)) (@aa _ _ _ _ _ (pv 1) ah rfl) (by rfl) (by decide) (by rfl) (by rfl)) (by rfl) (by first|exact .inl rfl|exact .inr rfl|assumption)) (@au _ _ _ _ _ (@iY _ _ _ _ _ _ (@aL _ _ _ _ _ _ _ _ _ _ LW (hr.mono (by decide)) (@aa _ _ _ _ _ (pv 1) (@aa _ _ _ _ _ (pv 4) (@aa _ _ _ _ _ (@aF _ _ _ _ _ _ (dM K) bQ (@eY _ _ _ _ (@aa _ _ _ _ _ ak (@aa _ _ _ _ _ ak ah rfl) rfl)) (pv 3) (fun _ _=>rfl)) (@aa _ _ _ _ _ (@aF _ _ _ _ _ _ (dM K) bQ (@eY _ _ _ _ (@aa _ _ _ _ _ ak (@aa _ _ _ _ _ ak ah rfl) rfl)) (pv 3) (fun _ _=>rfl)) (@aa _ _ _ _ _ (@aF _ _ _ _ _ _ (dM K) bQ (@eY _ _ _ _ (@aa _ _ _ _ _ ak (@aa _ _ _ _ _ ak ah rfl) rfl)) (pv 3) (fun _ _=>rfl)) ah rfl) rfl) rfl) rfl) rfl) (by rfl) (by decide) (by rfl) (by rfl)) (@iA _ (K) _ _ _ (2) _ rfl rfl (@bV _ _ _ _ _ (aO (i:=5) fk.nd rfl (Or.inl rfl)) (@bV _ _ _ _ _ (aO (i:=6) fk.nd rfl (Or.inl rfl)) gR (by rfl)) (by rfl)) (by rfl) (by rfl)) (by rfl) (by rfl) (by rfl)) (@au _ _ _ _ _ (@aN _ _ (7) _ _ _ _ fk.nd rfl (Or.inr rfl) (@aL _ _ _ _ _ _ _ _ _ _ Hh (hr.mono (by decide)) (@aa _ _ _ _ _ (pv 1) (@aa _ _ _ _ _ (@aF _ _ _ _ _ _ (cz K) cD (pv 5) ak (fun _ _=>rfl)) ah rfl) rfl) (by rfl) (by decide) (by rfl) (by rfl)) (by rfl) (by first|exact .inl rfl|exact .inr rfl|assumption)) (@au _ _ _ _ _ (@aN _ _ (8) _ _ _ _ fk.nd rfl (Or.inl rfl) (@aL _ _ _ _ _ _ _ _ _ _ Hh (hr.mono (by decide)) (@aa _ _ _ _ _ (pv 1) (@aa _ _ _ _ _ (@cC _ _ _ _ _ _ _ _ (gn K) iM rfl bP iy (@aa _ _ _ _ _ (@aF _ _ _ _ _ _ (cz K) cD (pv 5) ak (fun _ _=>rfl)) ah rfl) (by decide) (by decide) (by rfl) (by rfl)) ah rfl) rfl) (by rfl) (by decide) (by rfl) (by rfl)) (by rfl) (by first|exact .inl rfl|exact .inr rfl|assumption)) (@au _ _ _ _ _ (@aN _ _ (9) _ _ _ _ fk.nd rfl (Or.inl rfl) (@aL _ _ _ _ _ _ _ _ _ _ Nr (hr.mono (by decide)) (@aa _ _ _ _ _ (pv 5) (@aa _ _ _ _ _ (pv 7) (@aa _ _ _ _ _ (pv 8) (@aa _ _ _ _ _ (fh (dB.of (show dY (aR jv) ["script","bag","most","great","p","net","word","order","rows","other","put","handed","place","some","after","turns","rounds","end","due"] _ ["c","bag","p"] [none,some 1,some 4]=true by decide+kernel)) (@fj _ _ _ _ (pv 8)) (fun _ _ _ _=>⟨(aO (i:=0) (by show List.Nodup (["c","bag","p"]:List Str);decide+kernel) rfl (Or.inl rfl)),fL,(@aG _ _ _ _ _ _ _ _ eN ak (@aL _ _ _ _ _ _ _ _ _ _ c5 (hr.mono (by decide)) (@aa _ _ _ _ _ (pv 1) (@aa _ _ _ _ _ (@aG _ _ _ _ _ _ _ _ j8 (pv 2) ak) ah rfl) rfl) (by rfl) (by decide) (by rfl) (by rfl)))⟩)) ah rfl) rfl) rfl) rfl) (by rfl) (by decide) (by rfl) (by rfl)) (by rfl) (by first|exact .inl rfl|exact .inr rfl|assumption)) (@au _ _ _ _ _ (@aN _ _ (10) _ _ _ _ fk.nd rfl (Or.inl rfl) (@aL _ _ _ _ _ _ _ _ _ _ As (hr.mono (by decide)) (@aa _ _ _ _ _ (pv 7) (@aa _ _ _ _ _ (pv 6) ah rfl) rfl) (by rfl) (by decide) (by rfl) (by rfl)) (by rfl) (by first|exact .inl rfl|exact .inr rfl|assumption)) (@au _ _ _ _ _ (@aN _ _ (11) _ _ _ _ fk.nd rfl (Or.inl rfl) (@cZ _ _ _ _ _ (@aa _ _ _ _ _ (@aL _ _ _ _ _ _ _ _ _ _ CU (hr.mono (by decide)) (@aa _ _ _ _ _ (pv 5) ah rfl) (by rfl) (by decide) (by rfl) (by rfl)) (@aa _ _ _ _ _ (@iR _ _ _ _ _ _ _ _ (k9 K) oM rfl cX jz (@aa _ _ _ _ _ (pv 6) ah rfl) (by decide) (by decide) (by rfl) (by rfl)) (@aa _ _ _ _ _ (@aL _ _ _ _ _ _ _ _ _ _ CU (hr.mono (by decide)) (@aa _ _ _ _ _ (pv 9) ah rfl) (by rfl) (by decide) (by rfl) (by rfl)) (@aa _ _ _ _ _ (@iR _ _ _ _ _ _ _ _ (k9 K) oM rfl cX jz (@aa _ _ _ _ _ (pv 10) ah rfl) (by decide) (by decide) (by rfl) (by rfl)) ah rfl) rfl) rfl) rfl)) (by rfl) (by first|exact .inl rfl|exact .inr rfl|assumption)) (@au _ _ _ _ _ (@gE _ _ _ _ _ _ _ _ fB rfl (@iN _ _ _ _ _ _ rfl aZ (@aa _ _ _ _ _ (@aF _ _ _ _ _ _ (cz K) cD (pv 5) ak (fun _ _=>rfl)) ah rfl) (by rfl)) (aO (i:=12) fk.nd rfl (Or.inl rfl)) (@au _ _ _ _ _ (@aN _ _ (13) _ _ _ _ fk.nd rfl (Or.inl rfl) (@aL _ _ _ _ _ _ _ _ _ _ EI (hr.mono (by decide)) (@aa _ _ _ _ _ (@aF _ _ _ _ _ _ (cz K) cD (pv 11) ak (fun _ _=>rfl)) (@aa _ _ _ _ _ (@aF _ _ _ _ _ _ (cz K) cD (pv 11) ak (fun _ _=>rfl)) (@aa _ _ _ _ _ (pv 12) ah rfl) rfl) rfl) (by rfl) (by decide) (by rfl) (by rfl)) (by rfl) (by first|exact .inl rfl|exact .inr rfl|assumption)) (@aJ _ _ _ (@fc _ _ _ _ _ _ _ _ (@vY _ _ _ _ (@qI _ (K) _ _ rfl (@aL _ _ _ _ _ _ _ _ _ _ o6 (hr.mono (by decide)) (@aa _ _ _ _ _ (@aL _ _ _ _ _ _ _ _ _ _ EI (hr.mono (by decide)) (@aa _ _ _ _ _ (@aF _ _ _ _ _ _ (cz K) cD (pv 11) ak (fun _ _=>rfl)) (@aa _ _ _ _ _ (@aF _ _ _ _ _ _ (cz K) cD (pv 11) ak (fun _ _=>rfl)) (@aa _ _ _ _ _ (@aF _ _ _ _ _ _ (dM K) bQ (pv 7) (pv 12) (fun _ _=>rfl)) ah rfl) rfl) rfl) (by rfl) (by decide) (by rfl) (by rfl)) (@aa _ _ _ _ _ (pv 13) ah rfl) rfl) (by rfl) (by decide) (by rfl) (by rfl)) (fun _=>rfl))) (@aJ _ _ _ (@bu _ _ _ _ nB)) fE))) (by intro _;rfl)) (@au _ _ _ _ _ (@iY _ _ _ _ _ _ (@aL _ _ _ _ _ _ _ _ _ _ FE (hr.mono (by decide)) (@aa _ _ _ _ _ (@aF _ _ _ _ _ _ (cz K) cD (pv 11) ak (fun _ _=>rfl)) (@aa _ _ _ _ _ (@aF _ _ _ _ _ _ (cz K) cD (pv 11) ak (fun _ _=>rfl)) ah rfl) rfl) (by rfl) (by decide) (by rfl) (by rfl)) (@iA _ (K) _ _ _ (2) _ rfl rfl (@bV _ _ _ _ _ (aO (i:=14) fk.nd rfl (Or.inl rfl)) (@bV _ _ _ _ _ (aO (i:=15) fk.nd rfl (Or.inl rfl)) gR (by rfl)) (by rfl)) (by rfl) (by rfl)) (by rfl) (by rfl) (by rfl)) (@au _ _ _ _ _ (@fc _ _ _ _ _ _ _ _ (@vY _ _ _ _ (@qI _ (K) _ _ rfl (@aL _ _ _ _ _ _ _ _ _ _ o6 (hr.mono (by decide)) (@aa _ _ _ _ _ (@aL _ _ _ _ _ _ _ _ _ _ FE (hr.mono (by decide)) (@aa _ _ _ _ _ (@aF _ _ _ _ _ _ (cz K) cD (pv 11) ak (fun _ _=>rfl)) (@aa _ _ _ _ _ (@aF _ _ _ _ _ _ (cz K) cD (pv 11) ak (fun _ _=>rfl)) ah rfl) rfl) (by rfl) (by decide) (by rfl) (by rfl)) (@aa _ _ _ _ _ (@cZ _ _ _ _ _ (@aa _ _ _ _ _ (@aL _ _ _ _ _ _ _ _ _ _ As (hr.mono (by decide)) (@aa _ _ _ _ _ (pv 7) (@aa _ _ _ _ _ (pv 14) ah rfl) rfl) (by rfl) (by decide) (by rfl) (by rfl)) (@aa _ _ _ _ _ (@aL _ _ _ _ _ _ _ _ _ _ E5 (hr.mono (by decide)) (@aa _ _ _ _ _ (pv 7) (@aa _ _ _ _ _ (pv 15) ah rfl) rfl) (by rfl) (by decide) (by rfl) (by rfl)) ah rfl) rfl)) ah rfl) rfl) (by rfl) (by decide) (by rfl) (by rfl)) (fun _=>rfl))) (@aJ _ _ _ (@bu _ _ _ _ nB)) fE) (@au _ _ _ _ _ (@iY _ _ _ _ _ _ (@aL _ _ _ _ _ _ _ _ _ _ CM (hr.mono (by decide)) (@aa _ _ _ _ _ (@aF _ _ _ _ _ _ (cz K) cD (pv 11) ak (fun _ _=>rfl)) (@aa _ _ _ _ _ (@aF _ _ _ _ _ _ (cz K) cD (pv 11) ak (fun _ _=>rfl)) (@aa _ _ _ _ _ (pv 2) ah rfl) rfl) rfl) (by rfl) (by decide) (by rfl) (by rfl)) (@iA _ (K) _ _ _ (3) _ rfl rfl (@bV _ _ _ _ _ (aO (i:=14) fk.nd rfl (Or.inl rfl)) (@bV _ _ _ _ _ (aO (i:=16) fk.nd rfl (Or.inl rfl)) (@bV _ _ _ _ _ (aO (i:=17) fk.nd rfl (Or.inl rfl)) gR (by rfl)) (by rfl)) (by rfl)) (by rfl) (by rfl)) (by rfl) (by rfl) (by rfl)) (@au _ _ _ _ _ (@aN _ _ (18) _ _ _ _ fk.nd rfl (Or.inl rfl) (@cZ _ _ _ _ _ (@aa _ _ _ _ _ (@aL _ _ _ _ _ _ _ _ _ _ As (hr.mono (by decide)) (@aa _ _ _ _ _ (pv 7) (@aa _ _ _ _ _ (pv 14) ah rfl) rfl) (by rfl) (by decide) (by rfl) (by rfl)) (@aa _ _ _ _ _ (fh (dB.of (show dY (aR jv) ["script","bag","most","great","p","net","word","order","rows","other","put","handed","place","some","after","turns","rounds","end","due"] _ ["row","order"] [none,some 7]=true by decide+kernel)) (@fj _ _ _ _ (pv 16)) (fun _ _ _ _=>⟨(aO (i:=0) (by show List.Nodup (["row","order"]:List Str);decide+kernel) rfl (Or.inl rfl)),fL,(@aL _ _ _ _ _ _ _ _ _ _ E5 (hr.mono (by decide)) (@aa _ _ _ _ _ (pv 1) (@aa _ _ _ _ _ (pv 0) ah rfl) rfl) (by rfl) (by decide) (by rfl) (by rfl))⟩)) (@aa _ _ _ _ _ (pv 17) ah rfl) rfl) rfl)) (by rfl) (by first|exact .inl rfl|exact .inr rfl|assumption)) (@aJ _ _ _ (@bu _ _ _ _ (@Dg _ _ _ _ _ _ _ (@aL _ _ _ _ _ _ _ _ _ _ o6 (hr.mono (by decide)) (@aa _ _ _ _ _ (@aL _ _ _ _ _ _ _ _ _ _ CM (hr.mono (by decide)) (@aa _ _ _ _ _ (@aF _ _ _ _ _ _ (cz K) cD (pv 11) ak (fun _ _=>rfl)) (@aa _ _ _ _ _ (@aF _ _ _ _ _ _ (cz K) cD (pv 11) ak (fun _ _=>rfl)) (@aa _ _ _ _ _ (pv 2) ah rfl) rfl) rfl) (by rfl) (by decide) (by rfl) (by rfl)) (@aa _ _ _ _ _ (pv 18) ah rfl) rfl) (by rfl) (by decide) (by rfl) (by rfl)) (@BI _ _ _ _ _ (@uw _ _ _ _ _ _ _ _ (uI hr.units) (pv 11) (@cZ _ _ _ _ _ (@aa _ _ _ _ _ (pv 5) (@aa _ _ _ _ _ (pv 6) (@aa _ _ _ _ _ (pv 9) (@aa _ _ _ _ _ (pv 10) ah rfl) rfl) rfl) rfl)) (cg _))))))))))))))))))))),?_⟩
 walk_at "st"
 refine⟨a,ns,rfl,hS,hl,fun b l H1 s1 f1 B1=>?_⟩
 have UR:=s1.seq hS
 have key:∀(t:TS) (D:Ends),(∀H,D.rt (.bl true) H)->Sv (uV b l H1) [.raw (.ref a), .az, .no, .no, .no, .no, .no, .no, .no, .no, .no, .no, .no, .no, .no, .no, .no, .no, .no] t {nx:=fun _=>False,rt:=fun _ d=>d= .bool true}->t D [some (.ref a),some (.ref b),none,none,none,none,none,none,none,none,none,none,none,none,none,none,none,none,none] H1:=fun t D d2 h=>h _ _ _ D (Ll (m:=17) B1) (Rp d2)
 refine R.Co ?_
 dsimp only
 refine key _ _ (fun H=>?_) ?_
 ·exact q _
 walk_at "dt"
 intro mo mo0 mo1
 obtain⟨m,rfl⟩:=rC mo0
 walk_at "dt"
 intro gr gr0 gr1
 walk_at "dt"
 refine Ev.kW MT rfl ?_
 walk_at "dt"
 refine⟨rfl,fun p hp iw f=>?_⟩
 have p2:=hp.1
 refine Gv.pT ?_
 walk_at "dt"
 have hg:gr/3=0\/gr/3=1:=by omega
 generalize gr/3=g at hg⊢
 obtain⟨c1,Uw,UJ,UD⟩:∃c,bD [PyData.int 7,PyData.int 20] g=some (.int c)/\1<=c/\c<=20:=by rcases hg with rfl|rfl;exact⟨7,rfl,by decide,by decide⟩;exact⟨20,rfl,by decide,by decide⟩
 obtain⟨c2,UX,Uk,Uv⟩:∃c,bD [PyData.int 9,PyData.int 20] g=some (.int c)/\1<=c/\c<=20:=by rcases hg with rfl|rfl;exact⟨9,rfl,by decide,by decide⟩;exact⟨20,rfl,by decide,by decide⟩
 obtain⟨c3,U3,Vk,sy⟩:∃c,bD [PyData.int 4,PyData.int 9] g=some (.int c)/\1<=c/\c<=20:=by rcases hg with rfl|rfl;exact⟨4,rfl,by decide,by decide⟩;exact⟨9,rfl,by decide,by decide⟩
 refine Ev.kW Mn rfl ?_
 walk_at "dt"
 refine⟨rfl,p,c1,c2,c3,rfl,hp,iw,by omega,by omega,by omega,by omega,by omega,by omega,fun n cs ws f2 hV hn hcl hwl hws=>?_⟩
 have n0:=hV.n0
 have n1:=hV.n1
 have vF:(cs.map eT).length=cs.length:=aj ..
 walk_at "dt"
 refine Ev.kW Fc rfl ?_
 walk_at "dt"
 refine⟨rfl,n,rfl,by omega,by omega,fun f3 O hO=>?_⟩
 refine Gv.kY ?_
 walk_at "dt"
 refine Ev.kW Fc rfl ?_
 walk_at "dt"
 refine⟨rfl,_,rfl,by omega,by omega,fun f4 Q hQ=>?_⟩
 have Dp:cB Q cs.length:=by rw[show cs.length=((cs.map eT).length:Int).toNat by omega];exact hQ
 have T7:=Dp.len
 have qY:=hO.len
 refine Gv.kY ?_
 walk_at "dt"
 refine Ev.bZ HS ?_
 unfold cJ
 walk_at "dt"
 refine aA.ev (aA.iW (by decide) rfl ?_)
 walk_at "dt"
 refine⟨by rw[aj];omega,fun v=>fq.rel PyData.int true (fun _ t=>1<=t/\t<p) ?_ fun T Eh zo=>?_⟩
 ·rintro j d hd
  obtain⟨x,hx,rfl⟩:=fT hd
  walk_at "dt"
  refine⟨by walk_at "wk",?_⟩
  walk_at "dt"
  intro r r1 r2
  walk_at "dt"
  omega
 rw[aj] at Eh
 walk_at "dt"
 have LN:∀prs∈cs,prs.length<64/\∀pr∈prs,0<=pr.1/\pr.1<n.toNat/\1<=pr.2/\pr.2<p:=fun prs h=>by
  obtain⟨g1,g2,g3⟩:=hV.ok prs h
  refine⟨?_,g3⟩
  have:=Mr (m:=n) g1 (fun x hx=>by
   obtain⟨pr,bC,rfl⟩:=bU.mp hx
   have:=g3 pr bC;omega)
  rw[aj] at this
  omega
 refine⟨rfl,p,n,cs,O,Q,T,rfl,hp,iw,by omega,hO,Dp,by omega,Eh,fun t ht=>?_,LN,fun cs' f5 hN=>?_⟩
 ·obtain⟨k,hk⟩:=je ht
  exact zo k t hk
 have xH:=hN.FO hO hV
 have P9:=hN.len
 refine Gv.kY ?_
 walk_at "dt"
 refine Ev.bZ vD ?_
 walk_at "dt"
 refine⟨rfl,O,ws,rfl,by rw[hwl];exact hO,by omega,fun f6 aC hw=>?_⟩
 refine Gv.kY ?_
 have uA:aC.length=n.toNat:=by have:=hw.l';rw[aj,qY] at this;exact this
 have m6:∀x∈aC,0<=x/\x<p:=fun x hx=>by
  obtain⟨k,hk⟩:=je hx
  have jK:=(bh.mp hk).1
  obtain⟨i,hi,e⟩:=hO.ex (j:=k) (by omega)
  have:=hw.at (i:=i) (by omega)
  rw[e,iT,hk] at this
  exact hws x (dN this.symm)
 have tV:(ws.map PyData.int).length=ws.length:=aj ..
 have U0:(aC.map PyData.int).length=aC.length:=aj ..
 walk_at "dt"
 refine Ev.bZ G4 ?_
 walk_at "dt"
 refine⟨rfl,p,n,cs,rfl,by omega,fun f7=>?_⟩
 walk_at "dt"
 refine Ev.bZ G4 ?_
 walk_at "dt"
 refine⟨rfl,p,n,cs',rfl,by omega,fun f8=>?_⟩
 unfold cJ
 walk_at "dt"
 refine Sv.pH ?_
 walk_at "dt"
 refine⟨fun i ρ=>∃(xZ yg:Sl),ρ=[.raw (.ref a), .az, .d true (.int (m:Int)), .d true (.int g), .d true (.int p), .d false (dQ p n cs), .d false (.list (ws.map .int)), .d false (.list (O.map .int)), .d false (.list (Q.map .int)), .d false (dQ p n cs'), .d false (.list (aC.map .int)), .d false (.tuple [dQ p n cs, .list (ws.map .int),dQ p n cs', .list (aC.map .int)]),xZ,yg, .no, .no, .no, .no, .no],⟨_,_,rfl⟩,?_,?_⟩
 ·rintro i d ρ ⟨hi,rfl⟩ ⟨xZ,yg,rfl⟩
  rw[Int.zero_add]
  have hlt:=hO.lt (i:=i) (by omega)
  have Vi:bD (O.map PyData.int) (i:Int)=some (.int (aT O i)):=gp (by omega) (by rw[iT,aI,hO.at (by omega)];rfl)
  have Fx:=DI hO hV hN hw (i:=i) (by omega)
  walk_at "dt"
  refine Ev.bZ Ez ?_
  walk_at "dt"
  refine⟨rfl,p,n,cs,ws,_,rfl,hV,by omega,hwl,hws,by omega,by omega,fun rs h1 h2=>?_⟩
  refine Gv.kY ?_
  walk_at "dt"
  refine Ev.bZ (qE 5) ?_
  walk_at "dt"
  refine Ev.bZ Ez ?_
  walk_at "dt"
  refine⟨rfl,p,n,cs',aC,_,rfl,xH,by omega,uA,m6,by omega,by omega,fun rs' h3 h4=>?_⟩
  have Mh:rs'=rs:=Ew h3 h1 fun k=>(h4 k).trans (Fx.mem_iff.trans (h2 k).symm)
  subst Mh
  rw[show(rs'.map fun r=>pairD (r,((dR p cs' aC (aT O i)).count r:Int)))=rs'.map fun r=>pairD (r,((dR p cs ws (i:Int)).count r:Int)) from e7 fun r _=>by rw[Fx.count_eq]]
  walk_at "dt"
  have hrl:rs'.length<=cs.length:=dH (nG (h1.imp fun h=>Int.ne_of_lt h) fun k hk=>(h2 k).mp hk) LO
  refine⟨rfl,_,rfl,?_,?_⟩
  ·have:=Iq (n:=2) (L:=rs'.map fun r=>(r,((dR p cs ws (i:Int)).count r:Int))) (by rw[aj];omega)
   rw[c6] at this
   exact this
  walk_at "dt"
  exact⟨_,_,rfl⟩
 rintro ρ ⟨xZ,yg,rfl⟩
 have htr:=xB hO hV hN hw
 have hrd:=Cc hO hV hN hw
 have nL:=Fw hO hV hN m hw
 walk_at "dt"
 refine Ev.bZ BN ?_
 walk_at "dt"
 refine⟨rfl,p,n,cs,ws,rfl,hV,hwl,hws,?_⟩
 walk_at "dt"
 refine Ev.bZ (qE 5) ?_
 walk_at "dt"
 refine Ev.bZ BN ?_
 walk_at "dt"
 refine⟨rfl,p,n,cs',aC,rfl,xH,uA,m6,?_⟩
 walk_at "dt"
 refine Ev.bZ vD ?_
 walk_at "dt"
 refine⟨rfl,O,_,rfl,by rw[l7,hwl];exact hO,by rw[l7];omega,fun g1 w2 S0=>?_⟩
 obtain rfl:=S0.uniq hO hrd
 walk_at "dt"
 refine Ev.bZ Bs ?_
 walk_at "dt"
 have jW:=qm (p:=p) (cs:=cs) (ws:=ws) n.toNat
 refine⟨rfl,O,n.toNat,_,rfl,hO,by omega,by omega,yz,fun g2 xs qJ hxs=>?_⟩
 obtain rfl:=htr.uniq qJ hxs
 walk_at "dt"
 have U9:=qm (p:=p) (cs:=cs') (ws:=aC) n.toNat
 refine⟨rfl,_,rfl,?_,?_⟩
 ·refine .inr ⟨_, .inr rfl,by show 2<=10000;omega,fun e he=>?_⟩
  simp only[bF,mK,aH,bY,or_false] at he
  rcases he with rfl|rfl
  ·exact EC (by rw[l7];omega)
  ·exact G9 (by omega)
 have hle:=zc (cs:=cs) (n:=n.toNat) (show 0<p by omega) m ws hwl hws
 have hle':=zc (cs:=cs') (n:=n.toNat) (show 0<p by omega) m aC uA m6
 walk_at "dt"
 refine Ev.bZ Gs ?_
 walk_at "dt"
 refine⟨rfl,p,n,cs,ws,m,rfl,hV,by omega,hwl,hws,?_⟩
 have wD:∀ts∈(cF p cs n.toNat m ws).2.1,∀t∈ts,0<=t.1/\t.1<n.toNat:=Ex m ws
 generalize cF p cs n.toNat m ws=r at nL hle wD⊢
 obtain⟨w1,rs,en⟩:=r
 unfold sS
 dsimp only at hle wD⊢
 have hrm:(rs.map nh).length=rs.length:=aj ..
 walk_at "dt"
 refine Ev.bZ vD ?_
 walk_at "dt"
 refine⟨rfl,O,w1,rfl,by rw[hle.1];exact hO,by omega,fun g3 w3 Qm=>?_⟩
 walk_at "dt"
 refine aA.ev (aA.iW (by decide) rfl ?_)
 walk_at "dt"
 refine fun v=>fq.rel nh false (fun k xs=>∃ts,rs[k]?=some ts/\xs.Perm (ts.map (gY O))/\xs.Pairwise fun c d=>gf d c=false) ?_ fun us Lc Jz=>?_
 ·rintro j d hd
  obtain⟨ts,hj,rfl⟩:=fT hd
  have hm:=dN hj
  have:=hle.2.2 ts hm
  walk_at "dt"
  refine⟨by walk_at "wk",?_⟩
  refine Ev.bZ Bs ?_
  walk_at "dt"
  exact⟨rfl,O,n.toNat,ts,rfl,hO,by omega,by omega,wD ts hm,fun g4 xs qJ hxs=>⟨fun z=>absurd z (by decide),xs,rfl,ts,hj,qJ,hxs⟩⟩
 rw[hrm] at Lc
 walk_at "dt"
 refine Ev.bZ (qE 5) ?_
 walk_at "dt"
 refine Ev.bZ Gs ?_
 walk_at "dt"
 refine⟨rfl,p,n,cs',aC,m,rfl,xH,by omega,uA,m6,?_⟩
 generalize cF p cs' n.toNat m aC=r' at nL hle'⊢
 obtain⟨PZ,rs',BD⟩:=r'
 have eu:us=rs':=by
  have hl:=nL.l
  dsimp only at hl
  apply eH
  intro k
  by_cases hk:k<us.length
  ·obtain⟨ts,e1,e2,e3⟩:=Jz k us[k] (aB hk)
   have hk':k<rs'.length:=by omega
   rw[aB hk,aB hk',(nL.t k ts rs'[k] e1 (aB hk')).uniq e2 e3]
  ·rw[cQ (by omega),cQ (by omega)]
 subst eu
 obtain rfl:w3=PZ:=Qm.uniq hO nL.w
 obtain rfl:BD=en:=nL.e
 dsimp only at hle'
 walk_at "dt"
 refine⟨rfl,_,rfl,IS (r:=(w3,us,BD)) (by show w3.length<=_;omega) (by show us.length<=_;omega) (fun ts hts=>dH (hle'.2.2 ts hts) (by omega)),?_⟩
 walk_at "dt"
 have hsh:=Rl p n cs cs' ws aC
 refine⟨hsh,hsh,?_⟩
 exact congrArg (fun b:Bool=>PyData.bool (b !=false)) (eqv_refl _ (.inl hsh))
end
local macro_rules| `(tactic|walk_at "bn")=> `(tactic|(intro _ _ _ _ _ _ us hl;first|(obtain⟨_,h⟩:=BE hl;subst h;rfl)|(obtain⟨_,_,h⟩:=ln2 hl;subst h;rfl)|(obtain⟨_,_,_,h⟩:=E8 hl;subst h;rfl)|(obtain⟨_,_,_,_,h⟩:=C8 hl;subst h;rfl)|(obtain⟨_,_,_,_,_,h⟩:=Sf hl;subst h;rfl)|(obtain⟨_,_,_,_,_,_,h⟩:=ln6 hl;subst h;rfl)|(obtain⟨_,_,_,_,_,_,_,h⟩:=ln7 hl;subst h;rfl)))
theorem all_mk{l:PySem.W.OpenLaw}{w:World}{K:PySem.W.Frag}{h:Heap}{mg:Str->Option Value}{fa:Addr}{f0 f1 f2 f3 f4 f5 f6 f7 f8 f9 HX K0 JP Ng Lp Ma Tc RA Ih L5 S4 ME J9 Ol K9 Pn JM Q3 Rf P8 JN ya:Addr}(X:K.In h)(G:h.Ns mainGlobals mg)(KD:mg "law"=some (.ref fa))
  {Ij DC:Option Addr} {MP:Array (Option Value)} {Li D4 Ci CA yj DZ:Value}
  (d0:aQ K "inverse" "inverse" yy f0)
  (d1:aQ K "total" "total" AS f1)
  (d2:aQ K "sums" "sums" rK f2)
  (d3:aQ K "sum_of" "sum_of" vo f3)
  (d4:aQ K "voices" "voices" ug f4)
  (d5:aQ K "all_voices" "all_voices" vX f5)
  (d6:aQ K "counts_of" "counts_of" yE f6)
  (d7:aQ K "votes" "votes" uq f7)
  (d8:aQ K "turns_of" "turns_of" yT f8)
  (d9:aQ K "turned" "turned" wJ f9)
  (z7:aQ K "with_turns" "with_turns" wZ HX)
  (w6:aQ K "voted" "voted" zf K0)
  (zD:aQ K "broken_of" "broken_of" rN JP)
  (yr:aQ K "_law_bag" "_law_bag" sO Ng)
  (uK:aQ K "_law_stirred" "_law_stirred" zj Lp)
  (Ao:aQ K "_law_draw" "_law_draw" wg Ma)
  (zE:aQ K "_law_prime_from" "_law_prime_from" rT Tc)
  (yb:aQ K "_law_prime" "_law_prime" Az RA)
  (uU:aQ K "_law_letters" "_law_letters" pD Ih)
  (zW:aQ K "_law_over" "_law_over" zw L5)
  (xm:aQ K "_law_sum" "_law_sum" qP S4)
  (wu:aQ K "_law_planted_check" "_law_planted_check" pM ME)
  (zO:aQ K "_law_planted" "_law_planted" p9 J9)
  (xg:aQ K "_law_net" "_law_net" qB Ol)
  (xj:aQ K "_law_side" "_law_side" Ac K9)
  (Au:aQ K "_law_order" "_law_order" vf Pn)
  (ye:aQ K "_law_renamed" "_law_renamed" tw JM)
  (AH:aQ K "_law_alike" "_law_alike" qR Q3)
  (AK:aQ K "_law_copy" "_law_copy" sf Rf)
  (uT:aQ K "_law_put" "_law_put" rL P8)
  (xX:aQ K "_law_turns" "_law_turns" sq JN)
  (zg:PySem.W.nsIn K mainGlobals "law"=some (some (.ref ya))) (zR:K.lookup ya=some ⟨Li,Ij, .func (PySem.W.fnOf "law" "law" (mQ jv) (lB jv) (aR jv) .none D4 Ci CA DC yj DZ),MP⟩) (sy:PySem.W.codeIn K yj "law"=true) (vp:PySem.W.keepIn K (.ref ya)=true)
  (zp:PySem.W.nsIn K mainGlobals "abs"=some none)
  (uQ:PySem.W.nsIn K mainGlobals "all"=some none)
  (Aa:PySem.W.nsIn K mainGlobals "bool"=some none)
  (zB:PySem.W.nsIn K mainGlobals "dict"=some none)
  (we:PySem.W.nsIn K mainGlobals "enumerate"=some none)
  (xq:PySem.W.nsIn K mainGlobals "int"=some none)
  (wV:PySem.W.nsIn K mainGlobals "isinstance"=some none)
  (xr:PySem.W.nsIn K mainGlobals "len"=some none)
  (uM:PySem.W.nsIn K mainGlobals "list"=some none)
  (yJ:PySem.W.nsIn K mainGlobals "min"=some none)
  (ze:PySem.W.nsIn K mainGlobals "range"=some none)
  (vh:PySem.W.nsIn K mainGlobals "set"=some none)
  (yo:PySem.W.nsIn K mainGlobals "sorted"=some none)
  (vM:PySem.W.nsIn K mainGlobals "str"=some none)
  (Aq:PySem.W.nsIn K mainGlobals "sum"=some none)
  (xy:PySem.W.nsIn K mainGlobals "tuple"=some none)
  :∃fd:FuncData,(∀(s:Shared) (v:Value),BindsTo s fd ⟨[v],[]⟩ [("script",v)])/\∀base:Heap,K.In base->base.Ns mainGlobals mg->bH l.prog w K mg base bM 6 fa fd ["script"] (sM K):=by
 have e:=KD.symm.trans (bW X G zg)
 cases e
 obtain⟨a0,_,F0⟩:=d0
 have b0:=F0.binds (ps:=["p","b"]) (by walk_at "bn")
 obtain⟨a1,_,F1⟩:=d1
 have b1:=F1.binds (ps:=["p","pairs","word"]) (by walk_at "bn")
 obtain⟨a2,_,F2⟩:=d2
 have b2:=F2.binds (ps:=["net","word"]) (by walk_at "bn")
 obtain⟨a3,_,F3⟩:=d3
 have b3:=F3.binds (ps:=["p","pairs","word"]) (by walk_at "bn")
 obtain⟨a4,_,F4⟩:=d4
 have b4:=F4.binds (ps:=["net","places"]) (by walk_at "bn")
 obtain⟨a5,_,F5⟩:=d5
 have b5:=F5.binds (ps:=["net"]) (by walk_at "bn")
 obtain⟨a6,_,F6⟩:=d6
 have b6:=F6.binds (ps:=["p","there","reached","letter"]) (by walk_at "bn")
 obtain⟨a7,_,F7⟩:=d7
 have b7:=F7.binds (ps:=["net","word","place"]) (by walk_at "bn")
 obtain⟨a8,_,F8⟩:=d8
 have b8:=F8.binds (ps:=["p","found","reached","word"]) (by walk_at "bn")
 obtain⟨a9,_,F9⟩:=d9
 have b9:=F9.binds (ps:=["net","word"]) (by walk_at "bn")
 obtain⟨JY,_,AX⟩:=z7
 have Ru:=AX.binds (ps:=["word","turns"]) (by walk_at "bn")
 obtain⟨ND,_,zb⟩:=w6
 have LX:=zb.binds (ps:=["net","word","most"]) (by walk_at "bn")
 obtain⟨MX,_,zM⟩:=zD
 have RO:=zM.binds (ps:=["reached"]) (by walk_at "bn")
 obtain⟨Pe,_,xY⟩:=yr
 have Io:=xY.binds (ps:=["script"]) (by walk_at "bn")
 obtain⟨SM,_,yP⟩:=uK
 have NT:=yP.binds (ps:=["bag","many"]) (by walk_at "bn")
 obtain⟨Ie,_,zm⟩:=Ao
 have Sy:=zm.binds (ps:=["bag","many"]) (by walk_at "bn")
 obtain⟨RI,_,yt⟩:=zE
 have RK:=yt.binds (ps:=["number"]) (by walk_at "bn")
 obtain⟨NW,_,zY⟩:=yb
 have JK:=zY.binds (ps:=["bag"]) (by walk_at "bn")
 obtain⟨Ic,_,yv⟩:=uU
 have NZ:=yv.binds (ps:=["bag","p","n"]) (by walk_at "bn")
 obtain⟨K1,_,A7⟩:=zW
 have Np:=A7.binds (ps:=["p","a","b"]) (by walk_at "bn")
 obtain⟨PK,_,zF⟩:=xm
 have Lv:=zF.binds (ps:=["p","pairs","word"]) (by walk_at "bn")
 obtain⟨RB,_,Bc⟩:=wu
 have Lq:=Bc.binds (ps:=["bag","p","word","wide"]) (by walk_at "bn")
 obtain⟨LV,_,yM⟩:=zO
 have Pq:=yM.binds (ps:=["bag","p","word","many","wide"]) (by walk_at "bn")
 obtain⟨Qc,_,xw⟩:=xg
 have LH:=xw.binds (ps:=["bag","p","places","many","wide"]) (by walk_at "bn")
 obtain⟨K4,_,yX⟩:=xj
 have Sx:=yX.binds (ps:=["bag","p","places","many","wide"]) (by walk_at "bn")
 obtain⟨T5,_,wm⟩:=Au
 have Ly:=wm.binds (ps:=["bag","many"]) (by walk_at "bn")
 obtain⟨Pb,_,xQ⟩:=ye
 have Ph:=xQ.binds (ps:=["net","order","rows","times"]) (by walk_at "bn")
 obtain⟨ny,_,jd⟩:=AH
 have oG:=jd.binds (ps:=["found","due"]) (by walk_at "bn")
 obtain⟨NQ,_,vU⟩:=AK
 have Ra:=vU.binds (ps:=["net"]) (by walk_at "bn")
 obtain⟨Sz,_,vj⟩:=uT
 have Kz:=vj.binds (ps:=["order","word"]) (by walk_at "bn")
 obtain⟨Qw,_,uJ⟩:=xX
 have Qh:=uJ.binds (ps:=["order","turns"]) (by walk_at "bn")
 have JV:=GY (st:=jv) zR sy vp
 have w5:=gC X G zp
 have lN:=gC X G uQ
 have kX:=gC X G Aa
 have zx:=gC X G zB
 have nZ:=gC X G we
 have jj:=gC X G xq
 have gu:=gC X G wV
 have bP:=gC X G xr
 have cX:=gC X G uM
 have AV:=gC X G yJ
 have aZ:=gC X G ze
 have m5:=gC X G vh
 have gM:=gC X G yo
 have kI:=gC X G vM
 have vO:=gC X G Aq
 have kP:=gC X G xy
 refine⟨PySem.W.fnOf "law" "law" (mQ jv) (lB jv) (aR jv) .none D4 Ci CA DC yj DZ,fun s v=> .of_eq rfl,fun base _ _=>?_⟩
 have Jj:=Callee.mk' F0 (R4 (P:=l.prog) (w:=w) (base:=base) F0) b0 (bW X G a0)
 have Mi:=Callee.mk' F1 (LZ (P:=l.prog) (w:=w) (base:=base) F1) b1 (bW X G a1)
 have SS:=Callee.mk' F3 (JS (P:=l.prog) (w:=w) (base:=base) F3 Mi) b3 (bW X G a3)
 have uP:=Callee.mk' F2 (Tn (P:=l.prog) (w:=w) (base:=base) F2 SS) b2 (bW X G a2)
 have Cp:=Callee.mk' F4 (OS (P:=l.prog) (w:=w) (base:=base) F4 Jj zx nZ) b4 (bW X G a4)
 have Gg:=Callee.mk' F5 (MG (P:=l.prog) (w:=w) (base:=base) F5 Cp cX aZ) b5 (bW X G a5)
 have Hi:=Callee.mk' F6 (Tf (P:=l.prog) (w:=w) (base:=base) F6) b6 (bW X G a6)
 have OX:=Callee.mk' F7 (Jf (P:=l.prog) (w:=w) (base:=base) F7 Hi Cp uP gM) b7 (bW X G a7)
 have GJ:=Callee.mk' F8 (Tz (P:=l.prog) (w:=w) (base:=base) F8 Hi nZ bP) b8 (bW X G a8)
 have DY:=Callee.mk' AX (LY (P:=l.prog) (w:=w) (base:=base) AX cX) Ru (bW X G JY)
 have NP:=Callee.mk' F9 (Pf (P:=l.prog) (w:=w) (base:=base) F9 GJ Gg uP DY) b9 (bW X G a9)
 have NK:=Callee.mk' zM (Sq (P:=l.prog) (w:=w) (base:=base) zM bP) RO (bW X G MX)
 have QS:=Callee.mk' zb (Ju (P:=l.prog) (w:=w) (base:=base) zb Gg uP GJ DY NK cX bP) LX (bW X G ND)
 have NJ:=Callee.mk' xY (QV (P:=l.prog) (w:=w) (base:=base) xY w5) Io (bW X G Pe)
 have P1:=Callee.mk' yP (MF (P:=l.prog) (w:=w) (base:=base) yP aZ) NT (bW X G SM)
 have mE:=Callee.mk' zm (Ny (P:=l.prog) (w:=w) (base:=base) zm P1 bP) Sy (bW X G Ie)
 have QI:=Callee.mk' yt (J2 (P:=l.prog) (w:=w) (base:=base) yt aZ) RK (bW X G RI)
 have J6:=Callee.mk' zY (Ue (P:=l.prog) (w:=w) (base:=base) zY mE QI) JK (bW X G NW)
 have QX:=Callee.mk' yv (Rt (P:=l.prog) (w:=w) (base:=base) yv mE aZ jj AV) NZ (bW X G Ic)
 have OD:=Callee.mk' A7 (MS (P:=l.prog) (w:=w) (base:=base) A7) Np (bW X G K1)
 have Lx:=Callee.mk' zF (OV (P:=l.prog) (w:=w) (base:=base) zF vO) Lv (bW X G PK)
 have Oe:=Callee.mk' Bc (LR (P:=l.prog) (w:=w) (base:=base) Bc Lx mE OD bP gM m5 aZ) Lq (bW X G RB)
 have OU:=Callee.mk' yM (Sk (P:=l.prog) (w:=w) (base:=base) yM Oe bP aZ) Pq (bW X G LV)
 have QZ:=Callee.mk' xw (HQ (P:=l.prog) (w:=w) (base:=base) xw mE aZ gM m5) LH (bW X G Qc)
 have Qd:=Callee.mk' yX (IU (P:=l.prog) (w:=w) (base:=base) yX mE QZ QX OU aZ) Sx (bW X G K4)
 have Qa:=Callee.mk' wm (M9 (P:=l.prog) (w:=w) (base:=base) wm mE cX aZ bP) Ly (bW X G T5)
 have Ql:=Callee.mk' xQ (J3 (P:=l.prog) (w:=w) (base:=base) xQ aZ bP gM) Ph (bW X G Pb)
 have Rx:=Callee.void (P:=l.prog) (w:=w) (base:=base) (k:=0) (sp:=aY 2 (mU 0)) jd oG (bW X G ny) LU
 have KA:=Callee.mk' jd (oY (P:=l.prog) (w:=w) (base:=base) 0 jd Rx gu cX kP lN bP kX jj kI aZ) oG (bW X G ny)
 have IC:=Callee.mk' jd (oY (P:=l.prog) (w:=w) (base:=base) 1 jd KA gu cX kP lN bP kX jj kI aZ) oG (bW X G ny)
 have NO:=Callee.mk' jd (oY (P:=l.prog) (w:=w) (base:=base) 2 jd IC gu cX kP lN bP kX jj kI aZ) oG (bW X G ny)
 have JR:=Callee.mk' jd (oY (P:=l.prog) (w:=w) (base:=base) 3 jd NO gu cX kP lN bP kX jj kI aZ) oG (bW X G ny)
 have Td:=Callee.mk' jd (oY (P:=l.prog) (w:=w) (base:=base) 4 jd JR gu cX kP lN bP kX jj kI aZ) oG (bW X G ny)
 have Ip:=Td
 have IV:=Callee.mk' vU (Lg (P:=l.prog) (w:=w) (base:=base) vU cX) Ra (bW X G NQ)
 have HV:=Callee.mk' vj (OL (P:=l.prog) (w:=w) (base:=base) vj aZ bP) Kz (bW X G Sz)
 have Kv:=Callee.mk' uJ (Qp (P:=l.prog) (w:=w) (base:=base) uJ gM) Qh (bW X G Qw)
 exact Tt JV NJ mE J6 Qd Qa Ql HV NP QS IV OX Ip Kv aZ bP cX
theorem walk{l:PySem.W.OpenLaw}{q:Program}{loose:List Str}{XP:(Str->Option Value)->Heap->Prop}{YP:World->Heap->Prop}{d:DefRec}{K:Params->PySem.W.Frag}(hn:l.most=some 63)(hdf:d.params.defaults=[])
  (hY:∀(w:World) (h:Heap),YP w h->(K w.params).In h)
  (F : ∀ (w : World) (mg : Str -> Option Value) (fa : Addr) (h : Heap), (K w.params).In h -> h.Ns mainGlobals mg -> mg d.name = some (.ref fa) ->
   ∃fd:FuncData,(∀(s:Shared) (u:Value),BindsTo s fd ⟨[u],[]⟩ [("script",u)])/\∀base:Heap,(K w.params).In base->base.Ns mainGlobals mg->bH l.prog w (K w.params) mg base bM 6 fa fd ["script"] (sM (K w.params))):
  PySem.W.WalkO q loose XP YP l.row.toRowW d [] (fun f vs=>PySem.call f vs):=
 L2.M4 (n:=63) (k:=6) (x:="script") (CX:=fun _=>bM) (sp:=fun w=>sM (K w.params)) hn (by decide) hdf ⟨rfl,by decide,by decide⟩ hY F (fun _ _ a ns hl _ hS=>⟨a,ns,rfl,hS,hl,fun _=>rfl⟩) fun _ _ _ _ _ z=>z
def view:Program:={PySem.Challenge.pw_fewchecks_k59_whole_votes_by_other_names with main:={PySem.Challenge.pw_fewchecks_k59_whole_votes_by_other_names.main with body:=[top 1,top 2,top 4,top 5,top 7,top 8,top 9,top 10,top 11,top 12,top 13,top 14,top 15,top 17,top 18,top 19,top 20,top 21,top 22,top 23,top 24,top 25,top 26,top 27,top 28,top 29,top 30,top 31,top 32,top 33,top 34,top 35]}}
end K59
open PySem PySem.W PyProof.Rows
local macro_rules| `(tactic|o_head $H:term)=> `(tactic|
 (refine holds_open (q:=K59.view) (loose:=[])
    (Xt:=fun s=>xlAt K59.view [] s && recOk [] s) (XP:=XL K59.view []) (Yf:=Hook.obs $H)
    (Ya:=Hook.val $H) (YP:=Hook.says $H) (N:=100000) ?hl (Hook.of $H)
    (Hook.keeps $H) (fun s e=>xl_of s (B8.mp e).1) XL.keeps
    rfl rfl rfl (fun s e=>recFacts_of (B8.mp e).2) rfl
    (by assumption) (by decide+kernel) ⟨rfl,rfl,rfl,rfl,rfl,by decide+kernel⟩ ?hw ?hc;(case hl=>exact fun w=>by kernel_rfl)))
set_option maxRecDepth 100000 in
set_option maxHeartbeats 0 in
theorem PySem.Challenge.cw_fewchecks_k59_whole_votes_by_other_names_holds : PySem.Challenge.rw_fewchecks_k59_whole_votes_by_other_names.Holds := by
 w_on
 refine holds_law (by decide+kernel) fun said=>?_
 k_head
 (case hw=>w_witness2)
 k_fill
 refine K59.walk (l:=PySem.Challenge.rw_fewchecks_k59_whole_votes_by_other_names) rfl rfl (fun w h Y=>PySem.W.kIn_of Y) ?F
 case F=>
  intro w mg fa h KX G hmg
  refine' K59.all_mk KX G hmg ?d0 ?d1 ?d2 ?d3 ?d4 ?d5 ?d6 ?d7 ?d8 ?d9 ?z7 ?w6 ?zD ?yr ?uK ?Ao ?zE ?yb ?uU ?zW ?xm ?wu ?zO ?xg ?xj ?Au ?ye ?AH ?AK ?uT ?xX ?zg ?zR ?sy ?vp ?zp ?uQ ?Aa ?zB ?we ?xq ?wV ?xr ?uM ?yJ ?ze ?vh ?yo ?vM ?Aq ?xy
  (case d0=>refine' L2.aQ.mk ?a ?l ?c ?k;(case a=>k_is);(case l=>k_is);(case c=>k_is);(case k=>k_is))
  (case d1=>refine' L2.aQ.mk ?a ?l ?c ?k;(case a=>k_is);(case l=>k_is);(case c=>k_is);(case k=>k_is))
  (case d2=>refine' L2.aQ.mk ?a ?l ?c ?k;(case a=>k_is);(case l=>k_is);(case c=>k_is);(case k=>k_is))
  (case d3=>refine' L2.aQ.mk ?a ?l ?c ?k;(case a=>k_is);(case l=>k_is);(case c=>k_is);(case k=>k_is))
  (case d4=>refine' L2.aQ.mk ?a ?l ?c ?k;(case a=>k_is);(case l=>k_is);(case c=>k_is);(case k=>k_is))
  (case d5=>refine' L2.aQ.mk ?a ?l ?c ?k;(case a=>k_is);(case l=>k_is);(case c=>k_is);(case k=>k_is))
  (case d6=>refine' L2.aQ.mk ?a ?l ?c ?k;(case a=>k_is);(case l=>k_is);(case c=>k_is);(case k=>k_is))
  (case d7=>refine' L2.aQ.mk ?a ?l ?c ?k;(case a=>k_is);(case l=>k_is);(case c=>k_is);(case k=>k_is))
  (case d8=>refine' L2.aQ.mk ?a ?l ?c ?k;(case a=>k_is);(case l=>k_is);(case c=>k_is);(case k=>k_is))
  (case d9=>refine' L2.aQ.mk ?a ?l ?c ?k;(case a=>k_is);(case l=>k_is);(case c=>k_is);(case k=>k_is))
  (case z7=>refine' L2.aQ.mk ?a ?l ?c ?k;(case a=>k_is);(case l=>k_is);(case c=>k_is);(case k=>k_is))
  (case w6=>refine' L2.aQ.mk ?a ?l ?c ?k;(case a=>k_is);(case l=>k_is);(case c=>k_is);(case k=>k_is))
  (case zD=>refine' L2.aQ.mk ?a ?l ?c ?k;(case a=>k_is);(case l=>k_is);(case c=>k_is);(case k=>k_is))
  (case yr=>refine' L2.aQ.mk ?a ?l ?c ?k;(case a=>k_is);(case l=>k_is);(case c=>k_is);(case k=>k_is))
  (case uK=>refine' L2.aQ.mk ?a ?l ?c ?k;(case a=>k_is);(case l=>k_is);(case c=>k_is);(case k=>k_is))
  (case Ao=>refine' L2.aQ.mk ?a ?l ?c ?k;(case a=>k_is);(case l=>k_is);(case c=>k_is);(case k=>k_is))
  (case zE=>refine' L2.aQ.mk ?a ?l ?c ?k;(case a=>k_is);(case l=>k_is);(case c=>k_is);(case k=>k_is))
  (case yb=>refine' L2.aQ.mk ?a ?l ?c ?k;(case a=>k_is);(case l=>k_is);(case c=>k_is);(case k=>k_is))
  (case uU=>refine' L2.aQ.mk ?a ?l ?c ?k;(case a=>k_is);(case l=>k_is);(case c=>k_is);(case k=>k_is))
  (case zW=>refine' L2.aQ.mk ?a ?l ?c ?k;(case a=>k_is);(case l=>k_is);(case c=>k_is);(case k=>k_is))
  (case xm=>refine' L2.aQ.mk ?a ?l ?c ?k;(case a=>k_is);(case l=>k_is);(case c=>k_is);(case k=>k_is))
  (case wu=>refine' L2.aQ.mk ?a ?l ?c ?k;(case a=>k_is);(case l=>k_is);(case c=>k_is);(case k=>k_is))
  (case zO=>refine' L2.aQ.mk ?a ?l ?c ?k;(case a=>k_is);(case l=>k_is);(case c=>k_is);(case k=>k_is))
  (case xg=>refine' L2.aQ.mk ?a ?l ?c ?k;(case a=>k_is);(case l=>k_is);(case c=>k_is);(case k=>k_is))
  (case xj=>refine' L2.aQ.mk ?a ?l ?c ?k;(case a=>k_is);(case l=>k_is);(case c=>k_is);(case k=>k_is))
  (case Au=>refine' L2.aQ.mk ?a ?l ?c ?k;(case a=>k_is);(case l=>k_is);(case c=>k_is);(case k=>k_is))
  (case ye=>refine' L2.aQ.mk ?a ?l ?c ?k;(case a=>k_is);(case l=>k_is);(case c=>k_is);(case k=>k_is))
  (case AH=>refine' L2.aQ.mk ?a ?l ?c ?k;(case a=>k_is);(case l=>k_is);(case c=>k_is);(case k=>k_is))
  (case AK=>refine' L2.aQ.mk ?a ?l ?c ?k;(case a=>k_is);(case l=>k_is);(case c=>k_is);(case k=>k_is))
  (case uT=>refine' L2.aQ.mk ?a ?l ?c ?k;(case a=>k_is);(case l=>k_is);(case c=>k_is);(case k=>k_is))
  (case xX=>refine' L2.aQ.mk ?a ?l ?c ?k;(case a=>k_is);(case l=>k_is);(case c=>k_is);(case k=>k_is))
  (case zg=>k_is)
  (case zR=>k_is)
  (case sy=>k_is)
  (case vp=>k_is)
  (case zp=>k_is)
  (case uQ=>k_is)
  (case Aa=>k_is)
  (case zB=>k_is)
  (case we=>k_is)
  (case xq=>k_is)
  (case wV=>k_is)
  (case xr=>k_is)
  (case uM=>k_is)
  (case yJ=>k_is)
  (case ze=>k_is)
  (case vh=>k_is)
  (case yo=>k_is)
  (case vM=>k_is)
  (case Aq=>k_is)
  (case xy=>k_is)
