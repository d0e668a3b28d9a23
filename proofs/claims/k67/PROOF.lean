import PyProof.Rows.All
import Wide.All
import OpenK.AllK
import Wide.FinOn
import Lean
import PyProof.EqAt
import PyProof.EqKinds
import PyProof.TupleCall
import PySem.Challenge.RW_fewchecks_k67_whole_words_laid
set_option compiler.extract_closed false
set_option Elab.async false
set_option linter.all false
set_option maxRecDepth 100000
def ak:= @List.length_map
def aF:= @Nat.le_refl
def aG:= @List.mem_cons
def aI:= @List.getElem?_eq_getElem
def aP:= @List.mem_singleton
def br:= @List.getElem?_set_ne
def bq:= @Bool.false_ne_true
def bw:= @PySem.Heap.lt_size
def bx:= @List.map_cons
def bJ:= @Ne.symm
def bI:= @List.getElem?_map
def bQ:= @PySem.Heap.get?_push_of_some
def bV:= @List.mem_cons_self
def bW:= @List.getElem?_eq_some_iff
def cg:= @List.getElem?_set_self
def cH:= @List.mem_cons_of_mem
def cF:= @List.not_mem_nil
def cG:= @PySem.W.mg_of
def cW:= @Nat.ne_of_lt
def cU:= @Array.length_toList
def dg:= @List.size_toArray
def c7:= @List.length_append
def cZ:= @List.mem_map
def dP:= @Bool.and_eq_true
def dW:= @List.getD_eq_getElem?_getD
def eE:= @Nat.lt_of_lt_of_le
def eB:= @List.length_cons
def dY:= @List.lookup_cons
def eV:= @List.append_assoc
def fq:= @Nat.le_trans
def eY:= @List.mem_of_getElem?
def eZ:= @List.map_append
def fu:= @Array.size_extract
def fG:= @Nat.zero_le
def fF:= @List.getElem?_append_left
def fR:= @List.mem_append
def fP:= @PySem.Heap.get?_push_size
def fX:= @List.getElem?_append_right
def gh:= @List.getElem?_replicate
def gx:= @List.getElem_mem
def gQ:= @List.length_set
def gM:= @List.getElem?_eq_none
def gV:= @Array.toList_append
def gE:= @PySem.boot_len
def ir:= @PySem.W.mg_none_of
def iD:= @Option.some.inj
def iz:= @List.map_map
def iA:= @PyProof.Rows.boot_list
def iR:= @Nat.lt_irrefl
def iM:= @Option.some_ne_none
def iW:= @Int.emod_nonneg
def iX:= @Int.emod_lt_of_pos
def iO:= @PySem.PassesOwn.never
def iN:= @PyProof.Rows.boot_isinstance
def jr:= @List.mem_filter
def jE:= @List.mem_append_right
def jq:= @PySem.W.kia_one
def jD:= @List.nodup_cons
def jw:= @List.length_take
def jF:= @Classical.byContradiction
def jC:= @Array.getElem?_toList
def jP:= @Nat.le_of_lt
def jS:= @Bool.eq_iff_iff
def jG:= @List.append_nil
def jJ:= @List.all_eq_true
def jX:= @List.ext_getElem?
def jK:= @Array.toList_push
def j6:= @PySem.Heap.size_push
def kh:= @PySem.Heap.get?_update_other
def kj:= @List.length_singleton
def kF:= @List.getElem?_cons_succ
def j5:= @Array.getElem?_eq_getElem
def kH:= @List.Perm.append_left
def ku:= @Bool.false_eq_true
def kL:= @List.take_append_drop
def kQ:= @List.take_length
def lB:= @List.any_cons
def k9:= @List.map_nil
def lG:= @List.cons_append
def lq:= @Int.mul_assoc
def kT:= @List.perm_append_comm
def lF:= @Nat.mul_mod
def mz:= @Nat.le_of_eq
def mD:= @List.all_cons
def l8:= @List.set_set
def mh:= @Int.mul_sub
def lY:= @PySem.F.called_set
def lZ:= @Nat.lt_succ_of_lt
def mQ:= @Array.size_append
def mH:= @List.find?_cons
def nu:= @Nat.lt_succ_self
def nZ:= @PySem.mem_of_lookup
def m5:= @Bool.or_false
def oh:= @PySem.SeqAt.canLay_of_shaped
def m7:= @Int.one_mul
def nK:= @PySem.Around.under_plainId
def nQ:= @List.take_of_length_le
def nM:= @PySem.W.kia_tup
def pQ:= @List.mem_range
def oS:= @List.filterMap_cons
def om:= @List.mem_append_left
def pN:= @Nat.ne_of_gt
def oV:= @Nat.le_succ
def oH:= @Option.map_eq_some_iff
def pV:= @Bool.false_or
def pB:= @Int.mul_ediv_add_emod
def pD:= @Int.mul_comm
def pR:= @List.length_range
def oJ:= @List.drop_zero
def pI:= @List.getElem?_of_mem
def pJ:= @List.pairwise_cons
def p5:= @List.flatMap_cons
def o6:= @PyProof.Rows.boot_int
def qv:= @List.length_drop
def rS:= @List.cons.inj
def q9:= @Int.mul_le_mul_of_nonneg_left
def qG:= @Int.sub_mul
def qD:= @Nat.lt_trans
def qt:= @Array.getElem?_eq_some_iff
def qj:= @Array.size_push
def qc:= @List.length_eq_zero_iff
def se:= @Bool.not_true
def sP:= @List.any_eq_true
def qB:= @List.drop_eq_getElem_cons
def p7:= @Nat.add_zero
def rQ:= @Nat.mul_assoc
def qd:= @Nat.mul_comm
def rN:= @List.pairwise_map
def vh:= @PySem.Value.isInt_shape
def vq:= @PyProof.Rows.callWith_type1
def u9:= @Array.mem_toList_iff
def vg:= @PySem.W.kitx_dict
def uO:= @PySem.Heap.get?_update_self
def vG:= @Nat.lt_of_le_of_lt
def uH:= @Nat.succ.inj
def sR:= @Nat.mod_lt
def uX:= @PySem.F.plain_list_iadd
def ue:= @List.nodup_append
def v5:= @List.map_congr_left
def uP:= @Array.size_reverse
def tL:= @Nat.zero_add
def t6:= @List.sum_cons
def ve:= @Nat.pow_add
def uC:= @List.filter_cons_of_pos
def uN:= @List.filter_eq_nil_iff
def um:= @Int.add_zero
def tV:= @List.length_pos_iff
def uy:= @List.getElem?_range
def vQ:= @PySem.F.plainAttrs_list
def uB:= @PySem.F.slot_list_append
def u7:= @PySem.F.type_list_append
def wU:= @Sum.inl.inj
def BX:= @Int.mul_one
def yM:= @List.mem_filterMap
def Bf:= @PySem.W.plainGet_of
def xH:= @PySem.W.methodCall_KW
def BO:= @PySem.W.kitx_list
def CP:= @PySem.W.callWith_K
def Cp:= @List.of_mem_zip
def yT:= @Option.isSome_iff_exists
def za:= @List.getElem?_take_of_lt
def Bj:= @Nat.le_of_not_lt
def BI:= @List.take_add_one
def zP:= @Int.ediv_nonneg
def Co:= @Int.mul_add
def AX:= @Array.getD_eq_getD_getElem?
def A0:= @Array.getElem?_push
def zW:= @Array.getElem?_eq_none
def zq:= @Nat.lt_or_eq_of_le
def Ca:= @List.pairwise_iff_getElem
def BP:= @PyProof.Rows.F.plain_set_update_loop
def C8:= @List.length_eraseIdx_of_lt
def BF:= @List.length_nil
def CD:= @Nat.lt_of_lt_of_eq
def Cg:= @Bool.true_and
def xB:= @List.Perm.refl
def Ad:= @Nat.min_eq_left
def xF:= @List.Perm.append_right
def Ac:= @List.drop_of_length_le
def Cz:= @Array.toList_reverse
def Al:= @List.reverse_perm
def wM:= @Nat.sub_self
def Ce:= @Array.mem_of_getElem?
def wW:= @List.mem_of_mem_take
def wA:= @Array.append_empty
def z9:= @Array.toList_modify
def Bb:= @Bool.or_true
def B8:= @Nat.sub_zero
def A9:= @Nat.mul_one
def A7:= @Nat.zero_mul
def ze:= @Nat.div_add_mod
def AV:= @Nat.mod_mod
def BN:= @Nat.mod_mod_of_dvd
def CZ:= @Nat.one_mul
def Ag:= @Nat.le_of_dvd
def CL:= @List.filter_append
def BG:= @List.filter_cons_of_neg
def yq:= @List.pairwise_append
def AZ:= @Bool.true_or
def yi:= @Option.isSome_map
def zV:= @List.mem_flatMap
def CC:= @Int.emod_eq_of_lt
def BJ:= @PyProof.Rows.boot_all
def zM:= @Bool.eq_false_iff
def Ar:= @PyProof.Rows.boot_bool
def HU:= @PySem.Calls.Name_function_global
def IG:= @PySem.W.cellsFrom_some
def Hs:= @List.filterMap_cons_some
def Jr:= @Array.getElem?_append
def EI:= @Array.getElem?_extract_of_lt
def HZ:= @List.pairwise_lt_range
def EW:= @List.getElem?_toArray
def IA:= @List.range_succ_eq_map
def Ec:= @PySem.F.entry_proto_collect
def Gj:= @PySem.F.plain_proto_collect
def Dm:= @PySem.F.entry_list_iadd
def II:= @PySem.F.plain_extend_loop
def Gb:= @PySem.Calls.call_function_entry
def HG:= @List.Nodup.length_le_of_subset
def HB:= @List.set_append_right
def GY:= @List.eraseIdx_append_of_length_le
def Dt:= @Array.toList_setIfInBounds
def C9:= @Array.getElem?_extract
def D6:= @List.getElem?_append
def Fq:= @Nat.dvd_of_mod_eq_zero
def ER:= @Int.eq_ofNat_of_zero_le
def HC:= @Int.natAbs_dvd_natAbs
def FN:= @Classical.choose_spec
def IZ:= @Option.isNone_iff_eq_none
def Dp:= @List.flatMap_append
def IM:= @List.mem_or_eq_of_mem_set
def Ej:= @Int.dvd_of_emod_eq_zero
def HQ:= @Nat.le_of_ble_eq_true
def Jb:= @PyProof.Rows.boot_sorted
def Hj:= @PyProof.Rows.boot_min
def Il:= @PyProof.Rows.boot_tuple
def Ds:= @PyProof.Rows.boot_str
def Iq:= @List.replicate_succ'
def Dc:= @Bool.and_eq_true_iff
namespace L2
open PySem PySem.Spec PyProof.Rows
abbrev Key:=Sum Int Str
def oU:Key->Value->Bool
 | .inl k,v=>Value.isInt k v
 | .inr x,v=>Value.isStrOf x v
def RX(w:World):Key->Int
 | .inl k=>hashInt k
 | .inr x=>hashStr w x
theorem lg:∀{k:Key} {v:Value},oU k v=true->(∃i t,k=Sum.inl i/\v=Value.int i t)\/(∃x t,k=Sum.inr x/\v=Value.str x t)
  | .inl i, v, h => by
    obtain⟨t,e⟩:=vh (k:=i) (v:=v) h
    exact .inl ⟨i,t,rfl,e⟩
  | .inr x, v, h => by
    obtain⟨t,e⟩:=Value.isStrOf_shape (x:=x) (v:=v) h
    exact .inr ⟨x,t,rfl,e⟩
theorem QY(i:Int)(t:Tok):oU (.inl i) (.int i t)=true:=by simp[oU,Value.isInt]
theorem OH(x:Str)(t:Tok):oU (.inr x) (.str x t)=true:=by simp[oU,Value.isStrOf]
theorem Nc(a b:Int):decide ((Sum.inl a:Key)=Sum.inl b)=(a==b):=by
 by_cases e:a=b
 ·subst e;simp
 ·have h:¬(Sum.inl a:Key)=Sum.inl b:=fun q=>e (wU q)
  rw[decide_eq_false h]
  exact(beq_eq_false_iff_ne.mpr e).symm
theorem Ri(a b:Str):decide ((Sum.inr a:Key)=Sum.inr b)=decide (a=b):=by
 by_cases e:a=b
 ·subst e;simp
 ·have h:¬(Sum.inr a:Key)=Sum.inr b:=fun q=>e (Sum.inr.inj q)
  rw[decide_eq_false h,decide_eq_false e]
theorem Vc(a:Int)(b:Str):decide ((Sum.inl a:Key)=Sum.inr b)=false:=decide_eq_false (fun q=>nomatch q)
theorem PN(a:Str)(b:Int):decide ((Sum.inr a:Key)=Sum.inl b)=false:=decide_eq_false (fun q=>nomatch q)
def ig(prog:Program)(w:World):PySem.KeyKind prog w Key where
 is:=oU
 hash:=RX w
 inj:=fun v a b ha hb=>by
  rcases lg ha with ⟨i,t,rfl,rfl⟩|⟨x,t,rfl,rfl⟩
  ·rcases lg hb with ⟨j,u,rfl,e⟩|⟨y,u,rfl,e⟩
   ·injection e with e1 _;rw[e1]
   ·exact nomatch e
  ·rcases lg hb with ⟨j,u,rfl,e⟩|⟨y,u,rfl,e⟩
   ·exact nomatch e
   ·injection e with e1 _;rw[e1]
 byValue:=fun k v h=>by
  rcases lg h with ⟨i,t,rfl,rfl⟩|⟨x,t,rfl,rfl⟩<;>rfl
 pyHash:=fun hv h=>by
  rcases lg hv with ⟨i,t,rfl,rfl⟩|⟨x,t,rfl,rfl⟩
  ·exact wpAny_pyHash_int h
  ·exact wpAny_pyHash_str h
 eqBool:=fun hu hv h=>by
  rcases lg hu with ⟨i,t,rfl,rfl⟩|⟨x,t,rfl,rfl⟩
  ·rcases lg hv with ⟨j,u,rfl,rfl⟩|⟨y,u,rfl,rfl⟩
   ·rw[Nc] at h;exact wpAny_eqBool_int h
   ·rw[Vc] at h;exact SeqAt.EqAt.int_str i t y u _ _ _ _ h
  ·rcases lg hv with ⟨j,u,rfl,rfl⟩|⟨y,u,rfl,rfl⟩
   ·rw[PN] at h;exact SeqAt.EqAt.str_int x t j u _ _ _ _ h
   ·rw[Ri] at h;exact wpAny_eqBool_str h
 «strs» :=fun k x t v h=>by
  rcases lg h with ⟨i,u,rfl,e⟩|⟨y,u,rfl,e⟩
  ·exact nomatch e
  ·injection e with e1 _
   subst e1
   cases v<;>rfl
theorem Q0(prog:Program)(w:World)(i:Int)(t:Tok):(ig prog w).is (.inl i) (.int i t)=true:=QY i t
theorem TZ(prog:Program)(w:World)(x:Str)(t:Tok):(ig prog w).is (.inr x) (.str x t)=true:=OH x t
inductive V where
 |aC|bl (b:Bool)|int (i:Int)|str (x:Str)|iC (b:Array UInt8)|j7 (b:UInt64)|ref (a:Addr)|ty (n:String)
 deriving DecidableEq
def RelV:V->Value->Prop
 | .aC,u=>u=Value.none
 | .bl b,u=>u=Value.bool b
 | .int i,u=>∃t,u=Value.int i t
 | .str x,u=>∃t,u=Value.str x t
 | .iC b,u=>∃t,u=Value.bytes b t
 | .j7 b,u=>∃t,u=Value.float b t
 | .ref a,u=>u=Value.ref a
 | .ty n,u=>u=Value.type n
abbrev Vals:List V->List Value->Prop:=Paired RelV
theorem Vals.length{xs:List V}{us:List Value}(r:Vals xs us):xs.length=us.length:=Paired.length r
theorem Vals.get:∀{xs:List V} {us:List Value} {i:Nat} {x:V},Vals xs us->xs[i]?=some x->∃u,us[i]?=some u/\RelV x u
  |_,_,_,_, .nil,e=>by simp at e
  |_,_,0,_, .cons r _,e=>by simp at e;subst e;exact⟨_,rfl,r⟩
  | _, _, i + 1, x, .cons _ t, e => by
    obtain⟨u,h1,h2⟩:=Vals.get (i:=i) (x:=x) t (by simpa using e)
    exact⟨u,by simpa using h1,h2⟩
theorem Vals.set{x:V}{u:Value}(r:RelV x u):∀{xs:List V} {us:List Value} (i:Nat),Vals xs us->Vals (xs.set i x) (us.set i u)
 |_,_,_, .nil=> .nil
 |_,_,0, .cons _ t=> .cons r t
 |_,_,i+1, .cons q t=> .cons q (Vals.set r i t)
theorem Vals.append:∀{xs ys:List V} {us ws:List Value},Vals xs us->Vals ys ws->Vals (xs++ys) (us++ws)
 |_,_,_,_, .nil,s=>s
 |_,_,_,_, .cons r t,s=> .cons r (Vals.append t s)
theorem Vals.take:∀{xs:List V} {us:List Value} (n:Nat),Vals xs us->Vals (xs.take n) (us.take n)
 |_,_,0,_=> .nil
 |_,_,_+1, .nil=> .nil
 |_,_,n+1, .cons r t=> .cons r (Vals.take n t)
theorem Vals.drop:∀{xs:List V} {us:List Value} (n:Nat),Vals xs us->Vals (xs.drop n) (us.drop n)
 |_,_,0,r=>r
 |_,_,_+1, .nil=> .nil
 |_,_,n+1, .cons _ t=>Vals.drop n t
def gW:Option V->Option Value->Prop
 |some v,some u=>RelV v u
 |none,none=>True
 |_,_=>False
def KV{κ:Type}:List (κ×V)->List (κ×Value)->Prop:=Paired fun(p:κ×V) (q:κ×Value)=>p.1=q.1/\RelV p.2 q.2
def kV:Key->V
 | .inl i=> .int i
 | .inr x=> .str x
inductive HO where
  |lst (xs:List V)
  |tup (xs:List V)
  |dK (kvs:List (Key×V))|dT (kvs:List (List Key×V))
  |set (S:Int->Bool) (n:Nat)
  |ins (C dx:Addr) (fs:List (Str×V))
  |own (x:Addr)
  |xd (fs:List (Str×V))
  |met (f x:Addr)
  |vP (lo hi:Int)
  |gm (o:Obj) (u:HO)
  |mZ (ps:Array Value)
  |ext (φ:Heap->Prop)
abbrev Hp:=Addr->Option HO
def upd(H:Hp)(a:Addr)(o:HO):Hp:=fun b=>if b=a then some o else H b
theorem bh{H:Hp}{a:Addr}{o:HO}:upd H a o a=some o:=by unfold upd;rw[if_pos rfl]
theorem aX{H:Hp}{a b:Addr}{o:HO}(h:b≠a):upd H a o b=H b:=by unfold upd;rw[if_neg h]
theorem Aw{H:Hp}{a:Addr}{o u:HO}:upd (upd H a o) a u=upd H a u:=by
 funext b;unfold upd;split<;>rfl
theorem gU{H:Hp}{a b:Addr}{o:HO}(h:H a=some o)(h':H b=none):a≠b:=by
 intro e;subst e;rw[h] at h';cases h'
section
variable(P:Program)(w:World)
def cA(H:Hp)(h:Heap)(a:Addr):HO->Prop
 | .lst xs=>xs.length<=sizeLine/\∃(its:List Value) (n:Nat),Vals xs its/\h.get? a=some {cls:= .type "list",data:= .seq its.toArray n}
 | .tup xs=>xs.length<=sizeLine/\∃its:List Value,Vals xs its/\IsTup h a its.toArray
 | .dK kvs=>kvs.length<=sizeLine/\(a==sysModules)=false/\∃vs,KV kvs vs/\h.DictOf (ig P w) a vs
 | .dT kvs => kvs.length <= sizeLine /\ (a == sysModules) = false /\ ∃ xs : List (List Key × Addr × Value),
   Paired (fun(p:List Key×V) (q:List Key×Addr×Value)=>p.1=q.1/\H q.2.1=some (.tup (p.1.map kV))/\RelV p.2 q.2.2) kvs xs/\
   ∃o es ep,h.get? a=some o/\o.ExactDict/\o.data= .dict es ep/\es.toList=xs.map (entryOfKey (tupleKind (ig P w)))/\(xs.map (·.1)).Nodup
 | .set S n=>h.SetOf (intKind P w) a S n
 | .ins C dx fs => H dx = some (.own a) /\ fs.length <= 1000 /\ dx ≠ a /\ h.get? a = some (PySem.W.instObj C dx) /\
   ∃mA,h.Ns1 dx mA/\(∀f,gW (fs.lookup f) (mA f))/\PySem.Within mA (fs.map (·.1))
 | .own _=>∃o,h.get? a=some o
 | .xd fs=>∃mA,h.Ns1 a mA/\∀f,gW (fs.lookup f) (mA f)
 | .vP lo hi=>∃t u v,h.get? a=some {cls:= .type "range",data:= .fields #[.int lo t, .int hi u, .int 1 v]}
 | .gm o u=>h.get? a=some o/\cA H h a u
 | .mZ ps=>h.get? a=some {cls:= .none,data:= .fields ps}
 | .met f x=>h.get? a=some (PySem.W.methodObj (.ref f) (.ref x))
 | .ext φ=>φ h/\(∃o,h.get? a=some o)/\∀h1 h2:Heap,φ h1->(∀o,h1.get? a=some o->h2.get? a=some o)->φ h2
def cT(H:Hp)(h:Heap):Prop:=∀a o,H a=some o->cA P w H h a o
end
section
variable{P:Program}{w:World}{H H':Hp}{h h':Heap}{a:Addr}{o:HO}
theorem cA.lt(x:cA P w H h a o):a<h.objs.size:=by
 cases o with
 |lst xs=>obtain⟨_,_,_,_,e⟩:=x;exact bw e
 |tup xs=>obtain⟨_,_,_,p⟩:=x;exact p.lt
 |dK kvs=>obtain⟨_,_,_,_,o,_,_,e,_⟩:=x;exact bw e
 |dT kvs=>obtain⟨_,_,_,_,o,_,_,e,_⟩:=x;exact bw e
 |set S n=>obtain⟨o,_,_,_,e,_⟩:=x;exact bw e
 |ins C dx fs=>obtain⟨_,_,_,e,_⟩:=x;exact bw e
 |own y=>obtain⟨_,e⟩:=x;exact bw e
 |xd fs=>obtain⟨_,⟨_,_,_,e,_⟩,_⟩:=x;exact bw e
 |vP lo hi=>obtain⟨_,_,_,e⟩:=x;exact bw e
 |gm ob u=>obtain⟨e,_⟩:=x;exact bw e
 |mZ ps=>exact bw (show h.get? a=some _ from x)
 |met f y=>exact bw (show h.get? a=some _ from x)
 |ext φ=>obtain⟨_,⟨_,e⟩,_⟩:=x;exact bw e
theorem Paired.GJ{α β:Type}{F G:α->β->Prop}:∀{l₁:List α} {l₂:List β},Paired F l₁ l₂->(∀a b,F a b->G a b)->Paired G l₁ l₂
 |_,_, .nil,_=> .nil
 |_,_, .cons r t,f=> .cons (f _ _ r) (Paired.GJ t f)
theorem cA.stay(x:cA P w H h a o)(k:∀b u,(b=a\/H b=some (.own a))->h.get? b=some u->h'.get? b=some u)
    (ho:∀b,H b=some (.own a)->H' b=some (.own a)) (ht:∀b xs,H b=some (.tup xs)->H' b=some (.tup xs)):cA P w H' h' a o:=by
  induction o with
  |lst xs=>obtain⟨z,its,n,r,e⟩:=x;exact⟨z,its,n,r,k _ _ (.inl rfl) e⟩
  |tup xs=>obtain⟨z,its,r,ob,e,c⟩:=x;exact⟨z,its,r,ob,k _ _ (.inl rfl) e,c⟩
  |dK kvs=>obtain⟨z,y,vs,r,ob,es,ep,e,c⟩:=x;exact⟨z,y,vs,r,ob,es,ep,k _ _ (.inl rfl) e,c⟩
  | dT kvs =>
    obtain⟨z,y,xs,r,ob,es,ep,e,c⟩:=x
    exact⟨z,y,xs,Paired.GJ r fun p q z=>⟨z.1,ht _ _ z.2.1,z.2.2⟩,ob,es,ep,k _ _ (.inl rfl) e,c⟩
  |set S n=>obtain⟨ob,es,ep,t,e,c⟩:=x;exact⟨ob,es,ep,t,k _ _ (.inl rfl) e,c⟩
  | ins C dx fs =>
    obtain⟨d,z,ne,e,mA,⟨od,es,ep,e2,c⟩,r⟩:=x
    exact⟨ho _ d,z,ne,k _ _ (.inl rfl) e,mA,⟨od,es,ep,k _ _ (.inr d) e2,c⟩,r⟩
  |own y=>obtain⟨ob,e⟩:=x;exact⟨ob,k _ _ (.inl rfl) e⟩
  |xd fs=>obtain⟨mA,⟨od,es,ep,e,c⟩,r⟩:=x;exact⟨mA,⟨od,es,ep,k _ _ (.inl rfl) e,c⟩,r⟩
  |vP lo hi=>obtain⟨t,u,v,e⟩:=x;exact⟨t,u,v,k _ _ (.inl rfl) e⟩
  |gm ob u ih=>obtain⟨e,q⟩:=x;exact⟨k _ _ (.inl rfl) e,ih q⟩
  | mZ ps =>
    have e:h.get? a=some {cls:= .none,data:= .fields ps}:=x
    show h'.get? a=some {cls:= .none,data:= .fields ps}
    exact k a _ (.inl rfl) e
  | met f y =>
    have e:h.get? a=some (PySem.W.methodObj (.ref f) (.ref y)):=x
    show h'.get? a=some (PySem.W.methodObj (.ref f) (.ref y))
    exact k a _ (.inl rfl) e
  |ext φ=>obtain⟨p,⟨o,e⟩,st⟩:=x;exact⟨st _ _ p fun o q=>k _ _ (.inl rfl) q,⟨o,k _ _ (.inl rfl) e⟩,st⟩
theorem cT.lt(x:cT P w H h)(e:H a=some o):a<h.objs.size:=(x a o e).lt
theorem cT.fresh(x:cT P w H h)(e:h.objs.size<=a):H a=none:=by
 cases q:H a with
 |none=>rfl
 |some u=>exact absurd (eE (x.lt q) e) (iR _)
theorem cT.kept(x:cT P w H h)(k:∀b u,h.get? b=some u->h'.get? b=some u):cT P w H h':=fun a o e=>
 (x a o e).stay (fun b u _ q=>k b u q) (fun _ q=>q) fun _ _ q=>q
theorem cT.laid(x:cT P w H h)(k:∀b u,h.get? b=some u->h'.get? b=some u)(hp:h.objs.size<=a)(new:cA P w (upd H a o) h' a o):cT P w (upd H a o) h':=fun b u e=>by
 have hn:=x.fresh hp
 by_cases hb:b=a
 ·subst hb;rw[bh] at e;cases e;exact new
 ·rw[aX hb] at e
  exact(x b u e).stay (fun c v _ q=>k c v q) (fun c q=>by rw[aX (gU q hn)];exact q) fun c xs q=>by rw[aX (gU q hn)];exact q
end
def Rd(H:Hp)(a:Addr)(u:HO):Prop:=H a=some u\/∃o,H a=some (.gm o u)
theorem Rd.ok{P:Program}{w:World}{H:Hp}{h:Heap}{a:Addr}{u:HO}(r:Rd H a u)(x:cT P w H h):cA P w H h a u:=by
 rcases r with r|⟨o,r⟩
 ·exact x a u r
 ·obtain⟨_,q⟩:=x a _ r
  exact q
def qg:Option HO->Prop
 |some (.lst _)=>True
 |some (.dK _)=>True
 |some (.dT _)=>True
 |some (.set _ _)=>True
 |some (.ins _ _ _)=>True
 |some (.ext _)=>True
 |_=>False
section
variable{P:Program}{w:World}{H:Hp}{h h':Heap}{x e:Addr}{o':HO}
theorem cT.write(ok:cT P w H h)(mu:qg (H x))(he:e=x\/H e=some (.own x))(k:∀b u,b≠e->h.get? b=some u->h'.get? b=some u)(pH:∃u,h'.get? e=some u)
  (new:cA P w (upd H x o') h' x o'):cT P w (upd H x o') h':=fun b u q=>by
 have DB:∀c y,H c=some (.own y)->c≠x:=fun c y r z=>by subst z;rw[r] at mu;exact mu
 have L6:∀c xs,H c=some (.tup xs)->c≠x:=fun c xs r z=>by subst z;rw[r] at mu;exact mu
 by_cases hb:b=x
 ·subst hb;rw[bh] at q;cases q;exact new
 ·rw[aX hb] at q
  by_cases nU:b=e
  ·have q':H b=some (.own x):=by
    rcases he with z|z
    ·exact absurd (nU.trans z) hb
    ·rw[nU];exact z
   rw[q] at q';cases q'
   obtain⟨v,hv⟩:=pH
   exact⟨v,by rw[nU];exact hv⟩
  ·refine(ok b u q).stay (fun c v hc r=>k c v ?_ r) (fun c r=>by rw[aX (DB c b r)];exact r) fun c xs r=>by rw[aX (L6 c xs r)];exact r
   rcases hc with rfl|hc
   ·exact nU
   ·rintro rfl
    rcases he with z|z
    ·exact DB c b hc z
    ·rw[hc] at z;cases z;exact hb rfl
end
structure Un(fs ex:List Addr)(H H':Hp)(h h':Heap):Prop where
 keep:∀b o,h.get? b=some o->H b=none->b∉fs->b∉ex->h'.get? b=some o
 slot:∀b o,h.get? b=some o->H b=none->b∈fs->b∉ex->∃sl,h'.get? b=some {o with slots:=sl}
 free:∀b o,h.get? b=some o->H b=none->b∉ex->H' b=none
 there:∀b o,h.get? b=some o->b∉ex->∃o',h'.get? b=some o'
 tups:∀b xs,H b=some (.tup xs)->H' b=some (.tup xs)
 kR:∀b o u,H b=some (.gm o u)->H' b=some (.gm o u)
 lM:∀b ps,H b=some (.mZ ps)->∃more,H' b=some (.mZ (ps++more))
section
variable{fs fs' ex ex':List Addr}{H H1 H2:Hp}{h h1 h2 h':Heap}{a x e:Addr}{o:HO}
theorem Un.any(u:Un fs ex H H1 h h1){b:Addr}{ob:Obj}(q:h.get? b=some ob)(n:H b=none)(hx:b∉ex):∃sl,h1.get? b=some {ob with slots:=sl}:=by
 by_cases hb:b∈fs
 ·exact u.slot b ob q n hb hx
 ·exact⟨ob.slots,u.keep b ob q n hb hx⟩
theorem Un.kept(k:∀b u,h.get? b=some u->h'.get? b=some u):Un fs ex H H h h':=
 ⟨fun b ob q _ _ _=>k b ob q,fun b ob q _ _ _=>⟨ob.slots,k b ob q⟩,fun _ _ _ n _=>n,fun b ob q _=>⟨ob,k b ob q⟩,fun _ _ q=>q,fun _ _ _ q=>q,fun _ ps q=>⟨#[],by rw[q];simp⟩⟩
theorem Un.refl:Un fs ex H H h h:=Un.kept fun _ _ q=>q
theorem Un.laid(k:∀b u,h.get? b=some u->h'.get? b=some u)(hp:h.objs.size<=a)(hn:H a=none):Un fs ex H (upd H a o) h h' where
 keep:=fun b u q _ _ _=>k b u q
 slot:=fun b u q _ _ _=>⟨u.slots,k b u q⟩
 free:=fun b u q n _=>by rw[aX (cW (eE (bw q) hp))];exact n
 there:=fun b u q _=>⟨u,k b u q⟩
 tups:=fun b xs q=>by rw[aX (gU q hn)];exact q
 kR:=fun b u xs q=>by rw[aX (gU q hn)];exact q
 lM:=fun b ps q=>⟨#[],by rw[aX (gU q hn),q];simp⟩
theorem Un.write(mu:qg (H x))(he:e=x\/H e=some (.own x))(k:∀b u,b≠e->h.get? b=some u->h'.get? b=some u)(pH:∃u,h'.get? e=some u):Un fs ex H (upd H x o) h h':=by
 have hx:∀b,H b=none->b≠x:=fun b n z=>by subst z;rw[n] at mu;exact mu
 have hb:∀b,H b=none->b≠e:=fun b n z=>by
  subst z
  rcases he with r|r
  ·exact hx b n r
  ·rw[n] at r;cases r
 have hm:∀b u,H b=some u->¬qg (some u)->b≠x:=fun b u q nm z=>by subst z;rw[q] at mu;exact nm mu
 refine⟨fun b u q n _ _=>k b u (hb b n) q,fun b u q n _ _=>⟨u.slots,k b u (hb b n) q⟩,fun b u q n _=>by rw[aX (hx b n)];exact n,fun b u q _=>?_,
  fun b xs q=>by rw[aX (hm b _ q fun z=>z)];exact q,fun b u xs q=>by rw[aX (hm b _ q fun z=>z)];exact q,fun b ps q=>⟨#[],by rw[aX (hm b _ q fun z=>z),q];simp⟩⟩
 by_cases nU:b=e
 ·subst nU;exact pH
 ·exact⟨u,k b u nU q⟩
end
def u5(h:Heap)(H:Hp):List Addr:=(List.range h.objs.size).filter fun a=>(H a).isSome
def lu(h:Heap)(H:Hp):Heap:=PySem.W.hideAll h (u5 h H)
theorem Ox(h:Heap)(H:Hp):(lu h H).objs.size=h.objs.size:=PySem.W.hideAll_size _ _
theorem N7{h:Heap}{H:Hp}{b:Addr}{o:Obj}(e:h.get? b=some o)(n:H b=none):(lu h H).get? b=some o:=
 PySem.W.hideAll_get _ e fun hm=>by
  have q:(H b).isSome=true:=(jr.mp hm).2
  rw[n] at q;simp at q
theorem Pj{h:Heap}{H:Hp}{b:Addr}{o:Obj}(e:(lu h H).get? b=some o):h.get? b=some o/\H b=none:=by
  have e':h.get? b=some o:=PySem.W.of_hideAll (u5 h H) e
  refine⟨e',?_⟩
  cases q:H b with
  |none=>rfl
  | some x =>
    have hm:b∈u5 h H:=jr.mpr ⟨pQ.mpr (bw e'),by simp[q]⟩
    have z:(lu h H).get? b=none:=PySem.W.hideAll_none (u5 h H) hm
    rw[z] at e;cases e
def V0(g h:Heap)(L:Addr):List (Addr×Obj):=(List.range h.objs.size).filterMap fun a=>if a=L\/(g.get? a).isSome=true then none else(h.get? a).map fun o=>(a,o)
def rest(g h:Heap)(L d:Addr):List (Addr×Obj):=(V0 g h L).filter fun p=>decide (p.1≠d)
structure Mod(K:PySem.W.Frag)(mg:Str->Option Value)(base:Heap):Prop where
 rH:K.In base
 glob:base.Ns mainGlobals mg
 blt:∃mb,base.Ns builtinsNs mb/\∀x:Str,x≠"__name__" ->mb x=bootBuiltins x
 nolimit:base.NoLimit
structure Cx where
 prog:Program
 w:World
 K:PySem.W.Frag
 mg:Str->Option Value
 base:Heap
 A:Around
 N:List Str
 s₀:Shared
 H₀:Hp
 env:Env
 outer:List Env
 stack:List Env
 ex:List Addr
 fn:Str->Bool
 calm:Bool
 pn:List (Addr×Obj)
 xe:Value->Shared->Prop
def frs(l:List Env):List Addr:=l.filterMap (·.frame)
abbrev Cx.fs(X:Cx):List Addr:=frs X.outer
def C7(sc:Scope)(x:Str):Prop:=sc.names.lookup x=some .local\/sc.names.lookup x=some .cell\/sc.names.lookup x=some .free
def Loc(sc:Scope)(x:Str):Prop:=sc.names.lookup x=some .local\/sc.names.lookup x=some .cell
def Look(env:Env)(h:Heap)(m:Str->Option Value)(x:Str)(u:Value):Prop:=
 (env.kindOf x=some .local/\m x=some u)\/((env.kindOf x=some .cell\/env.kindOf x=some .free)/\∃c,env.cells.lookup x=some c/\h.IsCell c (some u))
structure Cx.Ok(X:Cx):Prop where
 mod:Mod X.K X.mg X.base
 kind:X.env.scope.kind= .function
 glob:X.env.globals=mainGlobals
 blt:X.env.builtins=builtinsNs
 above:X.s₀.heap.objs.size<=X.env.locals
 inj:∀x y c,X.env.cells.lookup x=some c->X.env.cells.lookup y=some c->x=y
 has:∀x,(X.env.kindOf x=some .cell\/X.env.kindOf x=some .free)->∃c,X.env.cells.lookup x=some c
 qU:∀x c,X.fn x=true->X.env.cells.lookup x=some c->X.s₀.heap.objs.size<=c
 hd:X.calm=true->X.A.handled=none
 frames:X.A.frames=some X.stack
 stk:X.stack=X.outer\/(X.stack=X.env::X.outer/\X.env.frame=some X.env.locals)
 vV:∀b∈X.ex,b≠X.env.locals/\∀x c,X.env.cells.lookup x=some c->c≠b
 bs:∀b o,X.base.get? b=some o->X.s₀.heap.get? b=some o/\X.H₀ b=none
 mq:X.base.objs.size<=X.s₀.heap.objs.size
 rG:∀b o,X.base.get? b=some o->b∉X.ex
 sN:∀b∈X.ex,b∉X.fs
 jB:X.s₀.heap.FunFrames X.base X.outer
 mS:∀b∈X.fs,X.H₀ b=none
structure Inv(X:Cx)(pins:List (Addr×Obj))(σ:List (Option V))(H:Hp)(s:Shared):Prop where
 ok:X.Ok
 os:s.os=X.s₀.os
 bare:AllBare s.gens
 base:Un X.fs X.ex X.H₀ H X.s₀.heap s.heap
 loc:∃m,s.heap.Ns X.env.locals m/\∀(i:Nat) (x:Str) (v:V),X.N[i]?=some x->σ[i]?=some (some v)->C7 X.env.scope x->∃u,RelV v u/\Look X.env s.heap m x u
 cell:∀x c,X.env.cells.lookup x=some c->∃v,s.heap.IsCell c v
 free:H X.env.locals=none
 jU:∀x c,X.env.cells.lookup x=some c->H c=none
 pin:∀p∈X.pn++pins,s.heap.get? p.1=some p.2/\H p.1=none/\p.1≠X.env.locals/\p.1∉X.fs/\∀v,p.2.data≠ .cell v
 hok:cT X.prog X.w H s.heap
 len:σ.length=X.N.length
section
variable{X:Cx}{pins:List (Addr×Obj)}{σ:List (Option V)}{H H':Hp}{s:Shared}{h':Heap}
theorem Cx.Ok.Vv(ok:X.Ok){b:Addr}{o:Obj}(e:X.base.get? b=some o):b∉X.fs:=fun hb=>by
 have:=(ok.jB.mem hb).1
 rw[e] at this;cases this
theorem Inv.bs(I:Inv X pins σ H s):∀b o,X.base.get? b=some o->s.heap.get? b=some o/\H b=none:=fun b o e=>
 ⟨I.base.keep b o (I.ok.bs b o e).1 (I.ok.bs b o e).2 (I.ok.Vv e) (I.ok.rG b o e),I.base.free b o (I.ok.bs b o e).1 (I.ok.bs b o e).2 (I.ok.rG b o e)⟩
theorem Inv.bk(I:Inv X pins σ H s):∀b o,X.base.get? b=some o->s.heap.get? b=some o:=fun b o e=>(I.bs b o e).1
theorem Inv.mod(I:Inv X pins σ H s):Mod X.K X.mg X.base:=I.ok.mod
theorem Inv.cC(I:Inv X pins σ H s):X.K.In s.heap:=I.ok.mod.rH.keeps I.bk
theorem Inv.lt(I:Inv X pins σ H s):X.env.locals<s.heap.objs.size:=let ⟨_,hn,_⟩:=I.loc;hn.lt
theorem Inv.sz(I:Inv X pins σ H s):X.s₀.heap.objs.size<=s.heap.objs.size:=fq I.ok.above (jP I.lt)
theorem Inv.Wg(I:Inv X pins σ H s){a:Addr}(h:s.heap.objs.size<=a):a∉X.fs:=fun hb=>by
 obtain⟨_,o,ho,_⟩:=I.ok.jB.mem hb
 exact absurd (eE (bw ho) (fq I.sz h)) (iR _)
theorem Inv.nW(I:Inv X pins σ H s):∀x c,X.env.cells.lookup x=some c->c≠X.env.locals:=fun x c e z=>by
 obtain⟨v,o,ho,hd⟩:=I.cell x c e
 obtain⟨m,⟨o',es,ep,ho',hd',_⟩,_⟩:=I.loc
 rw[z,ho'] at ho;cases ho;rw[hd'] at hd;cases hd
theorem Inv.jB(I:Inv X pins σ H s):s.heap.FunFrames X.base X.outer:=by
  have all:∀(l:List Env),(∀b∈frs l,b∈X.fs)->X.s₀.heap.FunFrames X.base l->s.heap.FunFrames X.base l:=by
    intro l
    induction l with
    |nil=>intro _ _;trivial
    | cons env r ih =>
      intro hs hl
      obtain⟨hk,⟨L,o,hf,hn,ho,hd⟩,hr⟩:=hl
      have hL:L∈X.fs:=hs L (by unfold frs;rw[oS,hf];exact bV)
      obtain⟨sl,e⟩:=I.base.slot L o ho (I.ok.mS L hL) hL fun z=>I.ok.sN L z hL
      exact⟨hk,⟨L,_,hf,hn,e,hd⟩,ih (fun b hb=>hs b (by unfold frs;rw[oS,hf];exact cH _ hb)) hr⟩
  exact all X.outer (fun _ hb=>hb) I.ok.jB
theorem Inv.stack(I:Inv X pins σ H s):s.heap.FunFrames X.base X.stack:=by
 rcases I.ok.stk with e|⟨e,hf⟩
 ·rw[e];exact I.jB
 ·rw[e]
  obtain⟨m,hn,_⟩:=I.loc
  refine .cons (by rw[I.ok.kind];decide) hf hn ?_ I.jB
  exact Heap.get?_none_of_le (fq I.ok.mq I.ok.above)
theorem Inv.wO(I:Inv X pins σ H s):∀b∈frs X.stack,b∈X.env.locals::X.fs:=fun b hb=>by
 rcases I.ok.stk with e|⟨e,hf⟩
 ·rw[e] at hb;exact cH _ hb
 ·rw[e] at hb
  unfold frs at hb
  rw[oS,hf] at hb
  exact hb
theorem Inv.Ez(I:Inv X pins σ H s):∀b∈frs X.stack,H b=none:=fun b hb=>by
 rcases aG.mp (I.wO b hb) with e|hb
 ·rw[e];exact I.free
 ·obtain⟨_,o,ho,_⟩:=I.ok.jB.mem hb
  exact I.base.free b o ho (I.ok.mS b hb) fun z=>I.ok.sN b z hb
theorem Inv.step{g':Array GenState}{t':Nat}{d':Drawn}{ch:List Addr}(I:Inv X pins σ H s)
  (hch:∀b∈ch,(b∈X.ex\/X.s₀.heap.objs.size<=b)/\b≠X.env.locals/\(∀x c,X.env.cells.lookup x=some c->c≠b)/\∀p∈X.pn++pins,p.1≠b)
  (keep:∀b o,b≠X.env.locals->b∉X.fs->b∉ch->s.heap.get? b=some o->H b=none->h'.get? b=some o)
  (slot:∀b o,b≠X.env.locals->b∈X.fs->b∉ch->s.heap.get? b=some o->H b=none->∃sl,h'.get? b=some {o with slots:=sl}) (free:∀b o,b∉ch->s.heap.get? b=some o->H b=none->H' b=none)
  (there:∀b o,b∉ch->s.heap.get? b=some o->∃o',h'.get? b=some o')
  (tups:∀b xs,H b=some (.tup xs)->H' b=some (.tup xs)) (kR:∀b o u,H b=some (.gm o u)->H' b=some (.gm o u)) (lM:∀b ps,H b=some (.mZ ps)->∃more,H' b=some (.mZ (ps++more)))
  (ns:∀m,s.heap.Ns X.env.locals m->h'.Ns X.env.locals m) (hok:cT X.prog X.w H' h') (hg:AllBare g'):
  Inv X pins σ H' {s with heap:=h',gens:=g',drawn:=d',toks:=t'}:=by
 have Jg:∀b o,X.s₀.heap.get? b=some o->b≠X.env.locals:=fun b o e=>cW (eE (bw e) I.ok.above)
 have uw:∀b o,X.s₀.heap.get? b=some o->b∉X.ex->b∉ch:=fun b o e hx hb=>by
  rcases(hch b hb).1 with z|z
  ·exact hx z
  ·exact absurd (eE (bw e) z) (iR _)
 have cellK:∀x c,X.env.cells.lookup x=some c->∀v,s.heap.IsCell c v->h'.IsCell c v:=fun x c e v ⟨o,ho,hd⟩=>by
  have rR:c∉ch:=fun z=>(hch c z).2.2.1 x c e rfl
  by_cases hc:c∈X.fs
  ·obtain⟨sl,q⟩:=slot c o (I.nW x c e) hc rR ho (I.jU x c e)
   exact⟨_,q,hd⟩
  ·exact⟨o,keep c o (I.nW x c e) hc rR ho (I.jU x c e),hd⟩
 refine⟨I.ok,I.os,hg,⟨fun b o e n hb hx=>?_,fun b o e n hb hx=>?_,fun b o e n hx=>?_,fun b o e hx=>?_,fun b xs e=>tups b xs (I.base.tups b xs e),fun b o xs e=>kR b o xs (I.base.kR b o xs e),fun b ps e=>?_⟩,?_,fun x c e=>?_,?_,fun x c e=>?_,fun p hp=>?_,hok,I.len⟩
 ·exact keep b o (Jg b o e) hb (uw b o e hx) (I.base.keep b o e n hb hx) (I.base.free b o e n hx)
 ·obtain⟨sl,e1⟩:=I.base.slot b o e n hb hx
  obtain⟨QK,e2⟩:=slot b _ (Jg b o e) hb (uw b o e hx) e1 (I.base.free b o e n hx)
  exact⟨QK,e2⟩
 ·obtain⟨o',e1⟩:=I.base.there b o e hx
  exact free b o' (uw b o e hx) e1 (I.base.free b o e n hx)
 ·obtain⟨o',e1⟩:=I.base.there b o e hx
  exact there b o' (uw b o e hx) e1
 ·obtain⟨m1,e1⟩:=I.base.lM b ps e
  obtain⟨m2,e2⟩:=lM b _ e1
  exact⟨m1++m2,by rw[e2,Array.append_assoc]⟩
 ·obtain⟨m,hn,hl⟩:=I.loc
  refine⟨m,ns m hn,fun i x v e1 e2 e3=>?_⟩
  obtain⟨u,r,l⟩:=hl i x v e1 e2 e3
  refine⟨u,r,?_⟩
  rcases l with l|⟨k,c,e,z⟩
  ·exact .inl l
  ·exact .inr ⟨k,c,e,cellK x c e _ z⟩
 ·obtain⟨v,z⟩:=I.cell x c e
  exact⟨v,cellK x c e v z⟩
 ·obtain⟨m,⟨o,_,_,ho,_⟩,_⟩:=I.loc
  exact free _ o (fun z=>(hch _ z).2.1 rfl) ho I.free
 ·obtain⟨v,o,ho,hd⟩:=I.cell x c e
  exact free c o (fun z=>(hch c z).2.2.1 x c e rfl) ho (I.jU x c e)
 ·obtain⟨e,n,ne,nf,d⟩:=I.pin p hp
  have rR:p.1∉ch:=fun z=>(hch p.1 z).2.2.2 p hp rfl
  exact⟨keep p.1 p.2 ne nf rR e n,free p.1 p.2 rR e n,ne,nf,d⟩
theorem Inv.un{t':Nat}(I:Inv X pins σ H s)(u:Un X.fs [] H H' s.heap h')(hok:cT X.prog X.w H' h'):Inv X pins σ H' {s with heap:=h',toks:=t'}:=by
 obtain⟨m,⟨o,es,ep,ho,r⟩,_⟩:=id I.loc
 obtain⟨sl,hL⟩:=u.any ho I.free (by simp)
 exact I.step (g':=s.gens) (d':=s.drawn) (ch:=[]) (fun _ z=>nomatch z) (fun b o _ hb _ e n=>u.keep b o e n hb (by simp)) (fun b o _ hb _ e n=>u.slot b o e n hb (by simp)) (fun b o _ e n=>u.free b o e n (by simp)) (fun b o _ e=>u.there b o e (by simp)) u.tups u.kR u.lM (fun m' hm=>by
  obtain⟨o',es',uU,ho',r'⟩:=hm
  rw[ho] at ho';cases ho'
  exact⟨_,es',uU,hL,r'⟩) hok I.bare
theorem Inv.call{g':Array GenState}{t':Nat}{d':Drawn}{ch:List Addr}(I:Inv X pins σ H s)(u:Un (frs X.stack) ch H H' s.heap h')(hok:cT X.prog X.w H' h')(hg:AllBare g')
  (hch:∀b∈ch,(b∈X.ex\/X.s₀.heap.objs.size<=b)/\b≠X.env.locals/\(∀x c,X.env.cells.lookup x=some c->c≠b)/\∀p∈X.pn++pins,p.1≠b):
  Inv X pins σ H' {s with heap:=h',gens:=g',drawn:=d',toks:=t'}:=by
 obtain⟨m,⟨o,es,ep,ho,r⟩,_⟩:=id I.loc
 obtain⟨sl,hL⟩:=u.any ho I.free fun z=>(hch _ z).2.1 rfl
 exact I.step (ch:=ch) hch (fun b o hL hb hc e n=>u.keep b o e n (fun z=>(aG.mp (I.wO b z)).elim hL hb) hc) (fun b o _ _ hc e n=>u.any e n hc) (fun b o hc e n=>u.free b o e n hc) (fun b o hc e=>u.there b o e hc) u.tups u.kR u.lM (fun m' hm=>by
  obtain⟨o',es',uU,ho',r'⟩:=hm
  rw[ho] at ho';cases ho'
  exact⟨_,es',uU,hL,r'⟩) hok hg
theorem Inv.turned{t':Nat}{it:Addr}(I:Inv X pins σ H s)(k:∀b o,b≠it->s.heap.get? b=some o->h'.get? b=some o)(hn:H it=none)(hL:it≠X.env.locals)
  (h1:it∈X.ex\/X.s₀.heap.objs.size<=it) (h2:∀x c,X.env.cells.lookup x=some c->c≠it) (h3:∀p∈X.pn++pins,p.1≠it):Inv X pins σ H {s with heap:=h',toks:=t'}:=by
 have G9:∀b u,H b=some u->b≠it:=fun b u e z=>by rw[z,hn] at e;cases e
 refine I.step (g':=s.gens) (d':=s.drawn) (ch:=[it]) (fun b hb=>?_) (fun b o _ _ hc e _=>k b o (fun z=>hc (by simp[z])) e) (fun b o _ _ hc e _=>⟨o.slots,k b o (fun z=>hc (by simp[z])) e⟩) (fun _ _ _ _ n=>n)
  (fun b o hc e=>⟨o,k b o (fun z=>hc (by simp[z])) e⟩) (fun _ _ e=>e) (fun _ _ _ e=>e) (fun b ps e=>⟨#[],by rw[e];simp⟩) (fun m hm=>?_) (fun b u e=>?_) I.bare
 ·have e:b=it:=by simpa using hb
  subst e
  exact⟨h1,hL,h2,h3⟩
 ·obtain⟨o,es,ep,ho,r⟩:=hm
  exact⟨o,es,ep,k _ o (bJ hL) ho,r⟩
 ·refine(I.hok b u e).stay (fun c v hc q=>k c v ?_ q) (fun _ q=>q) fun _ _ q=>q
  rcases hc with z|z
  ·rw[z];exact G9 b u e
  ·exact G9 c _ z
theorem Inv.tok(I:Inv X pins σ H s)(t:Nat):Inv X pins σ H {s with toks:=t}:=I.un (h':=s.heap) (t':=t) Un.refl I.hok
theorem Inv.kept{t':Nat}(I:Inv X pins σ H s)(k:∀b u,s.heap.get? b=some u->h'.get? b=some u):Inv X pins σ H {s with heap:=h',toks:=t'}:=I.un (Un.kept k) (I.hok.kept k)
theorem Inv.laid{a:Addr}{o:HO}{t':Nat}(I:Inv X pins σ H s)(k:∀b u,s.heap.get? b=some u->h'.get? b=some u)(hp:s.heap.objs.size<=a)(new:cA X.prog X.w (upd H a o) h' a o):
  Inv X pins σ (upd H a o) {s with heap:=h',toks:=t'}:=I.un (Un.laid k hp (I.hok.fresh hp)) (I.hok.laid k hp new)
theorem Inv.write{x e:Addr}{o:HO}{t':Nat}(I:Inv X pins σ H s)(mu:qg (H x))(he:e=x\/H e=some (.own x))(k:∀b u,b≠e->s.heap.get? b=some u->h'.get? b=some u)(pH:∃u,h'.get? e=some u)
  (new:cA X.prog X.w (upd H x o) h' x o):Inv X pins σ (upd H x o) {s with heap:=h',toks:=t'}:=I.un (Un.write mu he k pH) (I.hok.write mu he k pH new)
theorem Inv.HK{Dq:List (Addr×Obj)}(I:Inv X pins σ H s)(h:∀p∈Dq,s.heap.get? p.1=some p.2/\H p.1=none/\p.1≠X.env.locals/\p.1∉X.fs/\∀v,p.2.data≠ .cell v):Inv X Dq σ H s:=
 ⟨I.ok,I.os,I.bare,I.base,I.loc,I.cell,I.free,I.jU,fun p hp=>(fR.mp hp).elim (fun z=>I.pin p (om _ z)) (h p),I.hok,I.len⟩
theorem DA{N:List Str}(hN:N.Nodup){i j:Nat}{x:Str}(a:N[i]?=some x)(b:N[j]?=some x):i=j:=by
 obtain⟨h1,e1⟩:=bW.mp a
 obtain⟨h2,e2⟩:=bW.mp b
 exact(List.getElem_inj hN).mp (e1.trans e2.symm)
theorem G7{M:Model}{A:Around}{E:Value->Shared->Prop}{i:Nat}{x:Str}{v:V}{u:Value}{Q:Unit->Shared->Prop}(I:Inv X pins σ H s)(hN:X.N.Nodup)(hi:X.N[i]?=some x)(hx:Loc X.env.scope x)(r:RelV v u)
  (h:∀s',Inv X pins (σ.set i (some v)) H s'->(∃a,Heap.SameBut a s.heap s'.heap/\(a=X.env.locals\/X.env.cells.lookup x=some a))->Q () s') (hf:X.fn x=true\/X.env.scope.names.lookup x=some .local:=by first|exact .inl rfl|exact .inr rfl|assumption):wpAny M A (storeName X.env x u) Q E s:=by
 obtain⟨m,hn,hl⟩:=id I.loc
 have hcls:(X.env.scope.kind== .class||(X.env.scope.kind== .module && X.env.locals !=X.env.globals))=false:=by rw[I.ok.kind];rfl
 have EH:i<σ.length:=by rw[I.len];exact(bW.mp hi).1
 have nW:=I.nW
 have tracked:∀{a:Addr} {h':Heap},(∃o,s.heap.get? a=some o/\H a=none)->Heap.SameBut a s.heap h'->cT X.prog X.w H h':=fun{a h'} ha hs b ob e=>by
  obtain⟨_,_,hfree⟩:=ha
  refine(I.hok b ob e).stay (fun c w' hc q=>(hs.2 c ?_).trans q) (fun _ q=>q) fun _ _ q=>q
  rintro rfl
  rcases hc with rfl|hc
  ·rw[hfree] at e;cases e
  ·rw[hfree] at hc;cases hc
 rcases hx with hk|hk
 ·refine wpAny_storeName_local hk hn (fun h' hn' hs=>?_) hcls
  obtain⟨oL,_,_,Qs,_⟩:=id hn
  refine h _ ⟨I.ok,I.os,I.bare,⟨fun b o e n hb hx=>?_,fun b o e n hb hx=>?_,I.base.free,fun b o e hx=>?_,I.base.tups,I.base.kR,I.base.lM⟩,⟨_,hn',fun j y v' e1 e2 e3=>?_⟩,fun y c e=>?_,I.free,I.jU,fun p hp=>?_,tracked ⟨oL,Qs,I.free⟩ hs,by simpa using I.len⟩ ⟨_,hs, .inl rfl⟩
  ·exact(hs.2 b (cW (eE (bw e) I.ok.above))).trans (I.base.keep b o e n hb hx)
  ·obtain⟨sl,e1⟩:=I.base.slot b o e n hb hx
   exact⟨sl,(hs.2 b (cW (eE (bw e) I.ok.above))).trans e1⟩
  ·obtain⟨o',e1⟩:=I.base.there b o e hx
   exact⟨o',(hs.2 b (cW (eE (bw e) I.ok.above))).trans e1⟩
  ·by_cases hj:j=i
   ·subst hj
    rw[hi] at e1;cases e1
    rw[cg EH] at e2
    cases e2
    exact⟨u,r, .inl ⟨hk,by simp⟩⟩
   ·rw[br (bJ hj)] at e2
    obtain⟨u',r',q⟩:=hl j y v' e1 e2 e3
    refine⟨u',r',?_⟩
    rcases q with ⟨k,e⟩|⟨k,c,e,z⟩
    ·refine .inl ⟨k,?_⟩
     have:y≠x:=fun e=>hj (DA hN e1 (e▸hi))
     simp[this,e]
    ·exact .inr ⟨k,c,e,z.sameBut hs (nW y c e)⟩
  ·obtain⟨w',z⟩:=I.cell y c e
   exact⟨w',z.sameBut hs (nW y c e)⟩
  ·obtain⟨e,n,ne,nf,d⟩:=I.pin p hp
   exact⟨(hs.2 p.1 ne).trans e,n,ne,nf,d⟩
 ·have hfn:X.fn x=true:=by
   rcases hf with z|z
   ·exact z
   ·rw[z] at hk;cases hk
  obtain⟨c,hc⟩:=I.ok.has x (.inl hk)
  obtain⟨w',z⟩:=I.cell x c hc
  refine wpAny_storeName_cell I.ok.kind hk hc z (fun h' hc' hs=>?_)
  obtain⟨oc,hoc,Me⟩:=id z
  refine h {s with heap:=h'} ⟨I.ok,I.os,I.bare,⟨fun b o e n hb hx=>?_,fun b o e n hb hx=>?_,I.base.free,fun b o e hx=>?_,I.base.tups,I.base.kR,I.base.lM⟩,⟨m,hn.sameBut hs (bJ (nW x c hc)),fun j y v' e1 e2 e3=>?_⟩,fun y c' e=>?_,I.free,I.jU,fun p hp=>?_,tracked ⟨oc,hoc,I.jU x c hc⟩ hs,by simpa using I.len⟩ ⟨c,hs, .inr hc⟩
  ·exact(hs.2 b (cW (eE (bw e) (I.ok.qU x c hfn hc)))).trans (I.base.keep b o e n hb hx)
  ·obtain⟨sl,e1⟩:=I.base.slot b o e n hb hx
   exact⟨sl,(hs.2 b (cW (eE (bw e) (I.ok.qU x c hfn hc)))).trans e1⟩
  ·obtain⟨o',e1⟩:=I.base.there b o e hx
   exact⟨o',(hs.2 b (cW (eE (bw e) (I.ok.qU x c hfn hc)))).trans e1⟩
  ·by_cases hj:j=i
   ·subst hj
    rw[hi] at e1;cases e1
    rw[cg EH] at e2
    cases e2
    exact⟨u,r, .inr ⟨.inl hk,c,hc,hc'⟩⟩
   ·rw[br (bJ hj)] at e2
    obtain⟨u',r',q⟩:=hl j y v' e1 e2 e3
    refine⟨u',r',?_⟩
    rcases q with q|⟨k,c',e,z'⟩
    ·exact .inl q
    ·refine .inr ⟨k,c',e,z'.sameBut hs ?_⟩
     rintro rfl
     exact hj (DA hN e1 (I.ok.inj _ _ _ e hc▸hi))
  ·by_cases hcc:c'=c
   ·subst hcc;exact⟨_,hc'⟩
   ·obtain⟨w2,z2⟩:=I.cell y c' e
    exact⟨w2,z2.sameBut hs hcc⟩
  ·obtain⟨e,n,ne,nf,d⟩:=I.pin p hp
   refine⟨(hs.2 p.1 ?_).trans e,n,ne,nf,d⟩
   intro q
   rw[q,hoc] at e
   have q':oc=p.2:=iD e
   exact d w' (by rw[<-q'];exact Me)
theorem Ek{M:Model}{A:Around}{E:Value->Shared->Prop}{i:Nat}{x:Str}{v:V}{u:Value}{Q:Unit->Shared->Prop}(I:Inv X pins σ H s)(hN:X.N.Nodup)(hi:X.N[i]?=some x)(hx:Loc X.env.scope x)(r:RelV v u)
  (h:∀s',Inv X pins (σ.set i (some v)) H s'->Q () s') (hf:X.fn x=true\/X.env.scope.names.lookup x=some .local:=by first|exact .inl rfl|exact .inr rfl|assumption):wpAny M A (storeName X.env x u) Q E s:=
 G7 I hN hi hx r (fun s' I' _=>h s' I') hf
theorem Inv.O1{s':Shared}{ch:List Addr}(I:Inv X pins σ H s)(ho:s'.os=s.os)(u:Un (frs X.stack) ch H H' s.heap s'.heap)(hok:cT X.prog X.w H' s'.heap)(hg:AllBare s'.gens)
  (hch:∀b∈ch,(b∈X.ex\/X.s₀.heap.objs.size<=b)/\b≠X.env.locals/\(∀x c,X.env.cells.lookup x=some c->c≠b)/\∀p∈X.pn++pins,p.1≠b):Inv X pins σ H' s':=by
 obtain⟨h',g',d',t',o'⟩:=s'
 have e:o'=s.os:=ho
 subst e
 exact I.call (g':=g') (t':=t') (d':=d') u hok hg hch
end
abbrev XK:=Value->Option Addr->Hp->Prop
abbrev St:=List (Option V)
abbrev VK:=V->Hp->Prop
abbrev TE:=St->Hp->VK->Prop
abbrev TT:=St->Hp->(Bool->Hp->Prop)->Prop
abbrev TA:=St->Hp->(List V->Hp->Prop)->Prop
structure Ends where
 nx:St->Hp->Prop
 rt:VK
 bk:St->Hp->Prop:=fun _ _=>False
 ct:St->Hp->Prop:=fun _ _=>False
abbrev TS:=Ends->St->Hp->Prop
def EP(X:Cx)(pins:List (Addr×Obj))(σ:St)(Q:VK)(u:Value)(s':Shared):Prop:=∃v H',Inv X pins σ H' s'/\RelV v u/\Q v H'
def TP(X:Cx)(pins:List (Addr×Obj))(σ:St)(Q:Bool->Hp->Prop)(b:Bool)(s':Shared):Prop:=∃H',Inv X pins σ H' s'/\Q b H'
def AP(X:Cx)(pins:List (Addr×Obj))(σ:St)(Q:List V->Hp->Prop)(us:List Value)(s':Shared):Prop:=∃vs H',Inv X pins σ H' s'/\Vals vs us/\Q vs H'
def SP(X:Cx)(pins:List (Addr×Obj))(D:Ends)(f:Flow)(s':Shared):Prop:=
 match f with
 | .next=>∃σ' H',Inv X pins σ' H' s'/\D.nx σ' H'
 | .brk=>∃σ' H',Inv X pins σ' H' s'/\D.bk σ' H'
 | .cont=>∃σ' H',Inv X pins σ' H' s'/\D.ct σ' H'
 | .ret u=>∃v σ' H',Inv X pins σ' H' s'/\RelV v u/\D.rt v H'
def PE(X:Cx)(e:Expr)(t:TE):Prop:=
 ∀(pins:List (Addr×Obj)) (s:Shared) (σ:St) (H:Hp) (Q:VK),Inv X pins σ H s->t σ H Q->wpAny (model X.prog X.w) X.A (eval e X.env) (EP X pins σ Q) X.xe s
def PT(X:Cx)(e:Expr)(t:TT):Prop:=
 ∀(pins:List (Addr×Obj)) (s:Shared) (σ:St) (H:Hp) (Q:Bool->Hp->Prop),Inv X pins σ H s->t σ H Q->wpAny (model X.prog X.w) X.A (isTrue e X.env (eval e X.env)) (TP X pins σ Q) X.xe s
def PW(X:Cx)(e:Expr)(t:TT):Prop:=
 ∀(whole:Sem Value) (pins:List (Addr×Obj)) (s:Shared) (σ:St) (H:Hp) (Q:Bool->Hp->Prop),Inv X pins σ H s->t σ H Q->wpAny (model X.prog X.w) X.A (isTrue e X.env whole) (TP X pins σ Q) X.xe s
theorem PW.pt{X:Cx}{e:Expr}{t:TT}(h:PW X e t):PT X e t:=h _
def PA(X:Cx)(es:List Expr)(t:TA):Prop:=
 ∀(pos:Pos) (pins:List (Addr×Obj)) (s:Shared) (σ:St) (H:Hp) (Q:List V->Hp->Prop),Inv X pins σ H s->t σ H Q->wpAny (model X.prog X.w) X.A (spliced (backTo pos (starEach es X.env))) (AP X pins σ Q) X.xe s
def PS(X:Cx)(st:Stmt)(t:TS):Prop:=
 ∀(pins:List (Addr×Obj)) (s:Shared) (σ:St) (H:Hp) (D:Ends),Inv X pins σ H s->t D σ H->wpAny (model X.prog X.w) X.A (exec st X.env) (SP X pins D) X.xe s
def jb(X:Cx)(st:List Stmt)(t:TS):Prop:=
 ∀(pins:List (Addr×Obj)) (s:Shared) (σ:St) (H:Hp) (D:Ends),Inv X pins σ H s->t D σ H->wpAny (model X.prog X.w) X.A (execs st X.env) (SP X pins D) X.xe s
theorem aH{α:Type}{t:Sem α}{Q Q':α->Shared->Prop}{M:Model}{A:Around}{E:Value->Shared->Prop}{s:Shared}(h:wpAny M A t Q E s)(hQ:∀a s,Q a s->Q' a s):wpAny M A t Q' E s:=wpAny_mono h hQ fun _ _ x=>x
section
variable{X:Cx}
theorem bin{a b:Expr}{ta tb:TE}(ha:PE X a ta)(hb:PE X b tb){pins:List (Addr×Obj)}{s:Shared}{σ:St}{H:Hp}{R:V->V->Hp->Prop}(I:Inv X pins σ H s)(h:ta σ H fun x H1=>tb σ H1 fun y H2=>R x y H2)
  {α:Type} {Q:α->Shared->Prop} {f:Value->Value->Sem α}
  (hf:∀v u s2 x y H2,Inv X pins σ H2 s2->RelV x v->RelV y u->R x y H2->wpAny (model X.prog X.w) X.A (f v u) Q X.xe s2):
  wpAny (model X.prog X.w) X.A (eval a X.env) (fun v s₁=>wpAny (model X.prog X.w) X.A (eval b X.env) (fun u s₂=>wpAny (model X.prog X.w) X.A (f v u) Q X.xe s₂) X.xe s₁) X.xe s:=by
 refine aH (ha pins s σ H _ I h) fun v s1 ⟨x,H1,I1,r1,q1⟩=>?_
 refine aH (hb pins s1 σ H1 _ I1 q1) fun u s2 ⟨y,H2,I2,r2,q2⟩=>?_
 exact hf v u s2 x y H2 I2 r1 r2 q2
def cI(i:Nat):TE:=fun σ H Q=>∃v,σ[i]?=some (some v)/\Q v H
def tC(v:V):TE:=fun _ H Q=>Q v H
theorem Lj{i:Nat}{x:Str}{pos:Pos}(hN:X.N[i]?=some x)(hv:C7 X.env.scope x)(hd:(x==("__debug__":Str))=false:=by decide)(hcd:(x==("__classdict__":Str))=false:=by decide):PE X (.Name x pos) (cI i):=by
 intro pins s σ H Q I h
 obtain⟨v,e,h⟩:=h
 obtain⟨m,hn,hl⟩:=I.loc
 obtain⟨u,r,l⟩:=hl i x v hN e hv
 have fin:EP X pins σ Q u s:=⟨v,H,I,r,h⟩
 rcases l with ⟨hk,hm⟩|⟨hk,c,hc,hcell⟩
 ·exact wpAny_Name (wpAny_loadName_local I.ok.kind hk hn hm fin) hd
 ·rcases hk with hk|hk
  ·exact wpAny_Name (wpAny_loadName_cell I.ok.kind hk hc hcell fin) hd
  ·exact wpAny_Name (wpAny_loadName_free I.ok.kind hk hc hcell fin hcd) hd
theorem ao{i j pos}:PE X (.Constant (.int i) j pos) (tC (.int i)):=fun _ _ _ H _ I h=>wpAny_Constant_int ⟨.int i,H,I.tok _,⟨_,rfl⟩,h⟩
theorem fU{b j pos}:PE X (.Constant (.bool b) j pos) (tC (.bl b)):=fun _ _ _ H _ I h=>Constant_bool ⟨.bl b,H,I,rfl,h⟩
theorem k7{j pos}:PE X (.Constant .none j pos) (tC .aC):=fun _ _ _ H _ I h=>Constant_none ⟨.aC,H,I,rfl,h⟩
def Gl(X:Cx)(x:Str):Prop:=X.env.kindOf x=some .globalImplicit
theorem EZ{E:Value->Shared->Prop}{pins:List (Addr×Obj)}{s:Shared}{σ:St}{H:Hp}{x:Str}{u:Value}{pos:Pos}{Q:Value->Shared->Prop}(I:Inv X pins σ H s)(hg:Gl X x)(hm:X.mg x=some u)(h:Q u s)
  (hd:(x==("__debug__":Str))=false:=by decide):wpAny (model X.prog X.w) X.A (eval (.Name x pos) X.env) Q E s:=
 HU I.ok.kind hg (Calls.loadGlobal_global (by rw[I.ok.glob];exact I.mod.glob.keeps I.bk) hm h) hd
theorem o4{E:Value->Shared->Prop}{pins:List (Addr×Obj)}{s:Shared}{σ:St}{H:Hp}{x:Str}{u:Value}{pos:Pos}{Q:Value->Shared->Prop}(I:Inv X pins σ H s)(hg:Gl X x)(hm:X.mg x=none)(hv:bootBuiltins x=some u)(h:Q u s)
  (hn:x≠"__name__":=by decide) (hd:(x==("__debug__":Str))=false:=by decide):wpAny (model X.prog X.w) X.A (eval (.Name x pos) X.env) Q E s:=by
 obtain⟨mb,h1,h2⟩:=I.mod.blt
 exact HU I.ok.kind hg (Calls.loadGlobal_builtin (by rw[I.ok.glob];exact I.mod.glob.keeps I.bk) hm (by rw[I.ok.blt];exact h1.keeps I.bk) ((h2 x hn).trans hv) h) hd
theorem ic{x:Str}{v:V}{u:Value}{pos:Pos}(hg:Gl X x)(hm:X.mg x=none)(hv:bootBuiltins x=some u)(r:RelV v u)(hn:x≠"__name__":=by decide)(hd:(x==("__debug__":Str))=false:=by decide):PE X (.Name x pos) (tC v):=
 fun _ _ _ H _ I h=>o4 I hg hm hv ⟨v,H,I,r,h⟩ hn hd
variable{a b:Expr}{ta tb:TE}{pos:Pos}
def PC(X:Cx)(op:CmpOp)(a b:Expr)(t:TE):Prop:=
 ∀(pins:List (Addr×Obj)) (s:Shared) (σ:St) (H:Hp) (Q:VK),Inv X pins σ H s->t σ H Q->
  wpAny (model X.prog X.w) X.A (eval a X.env) (fun v s₁=>wpAny (model X.prog X.w) X.A (eval b X.env) (fun u s₂=>wpAny (model X.prog X.w) X.A (compareOp op v u) (EP X pins σ Q) X.xe s₂) X.xe s₁) X.xe s
variable{tA uq:TT}{rest:List Expr}
def AU(t u:TT):TT:=fun σ H Q=>t σ H fun c H1=>if c=true then u σ H1 Q else Q false H1
def HV(t u:TT):TT:=fun σ H Q=>t σ H fun c H1=>if c=true then Q true H1 else u σ H1 Q
def DS(t:TT):TT:=fun σ H Q=>t σ H fun c H1=>Q (!c) H1
theorem ur(ha:PT X a tA):PW X (.BoolOp .And [a] pos) tA:=by
 intro wh pins s σ H Q I h
 refine isTrue_and (aH (ha pins s σ H Q I h) fun c s1 e=>?_)
 cases c with
 |true=>exact isTrue_and_nil e
 |false=>exact e
theorem qM(ha:PT X a tA):PW X (.BoolOp .Or [a] pos) tA:=by
 intro wh pins s σ H Q I h
 refine isTrue_or (aH (ha pins s σ H Q I h) fun c s1 e=>?_)
 cases c with
 |false=>exact isTrue_or_nil e
 |true=>exact e
theorem ug(ha:PT X a tA)(hb:PW X (.BoolOp .And (b::rest) pos) uq):PW X (.BoolOp .And (a::b::rest) pos) (AU tA uq):=by
 intro wh pins s σ H Q I h
 refine isTrue_and (aH (ha pins s σ H _ I h) fun c s1 ⟨H1,I1,q1⟩=>?_)
 cases c with
 |true=>exact hb wh pins s1 σ H1 Q I1 q1
 |false=>exact⟨H1,I1,q1⟩
theorem p6(ha:PT X a tA)(hb:PW X (.BoolOp .Or (b::rest) pos) uq):PW X (.BoolOp .Or (a::b::rest) pos) (HV tA uq):=by
 intro wh pins s σ H Q I h
 refine isTrue_or (aH (ha pins s σ H _ I h) fun c s1 ⟨H1,I1,q1⟩=>?_)
 cases c with
 |true=>exact⟨H1,I1,q1⟩
 |false=>exact hb wh pins s1 σ H1 Q I1 q1
theorem mC(ha:PT X a tA):PT X (.UnaryOp .Not a pos) (DS tA):=by
 intro pins s σ H Q I h
 exact isTrue_not (ha pins s σ H (fun c H1=>Q (!c) H1) I h)
def AF(ta tb:TE):TE:=fun σ H Q=>ta σ H fun x H1=>∃c,x= .bl c/\if c=true then tb σ H1 Q else Q (.bl false) H1
def Gp(ta:TE):TE:=fun σ H Q=>ta σ H fun x H1=>∃c,x= .bl c/\Q (.bl (!c)) H1
theorem yJ{op}{t:TE}(h:PE X a t):PE X (.BoolOp op [a] pos) t:=fun pins s σ H Q I hw=>BoolOp_one (h pins s σ H Q I hw)
theorem zO(ha:PE X a ta)(hb:PE X (.BoolOp .And (b::rest) pos) tb):PE X (.BoolOp .And (a::b::rest) pos) (AF ta tb):=by
 intro pins s σ H Q I h
 refine BoolOp_and (aH (ha pins s σ H _ I h) fun v s1 ⟨x,H1,I1,r1,q1⟩=>?_)
 obtain⟨c,rfl,q1⟩:=q1
 cases r1
 refine wpAny_truthy_bool ?_
 cases c with
 |true=>exact hb pins s1 σ H1 Q I1 q1
 |false=>exact⟨.bl false,H1,I1,rfl,q1⟩
theorem Qt(ha:PE X a ta):PE X (.UnaryOp .Not a pos) (Gp ta):=by
 intro pins s σ H Q I h
 refine UnaryOp_ (aH (ha pins s σ H _ I h) fun v s1 ⟨x,H1,I1,r1,q1⟩=>?_)
 obtain⟨c,rfl,q1⟩:=q1
 cases r1
 exact not_of (wpAny_truthy_bool ⟨.bl (!c),H1,I1,rfl,q1⟩)
def Gd(t:TT)(ta tb:TE):TE:=fun σ H Q=>t σ H fun c H1=>if c=true then ta σ H1 Q else tb σ H1 Q
theorem xP{c:Expr}(hc:PT X c tA)(ha:PE X a ta)(hb:PE X b tb):PE X (.IfExp c a b pos) (Gd tA ta tb):=by
 intro pins s σ H Q I h
 refine wpAny_IfExp (aH (hc pins s σ H _ I h) fun d s1 ⟨H1,I1,q1⟩=>?_)
 cases d with
 |true=>exact ha pins s1 σ H1 Q I1 q1
 |false=>exact hb pins s1 σ H1 Q I1 q1
end
def aS(K:PySem.W.Frag)(H:Hp)(a:Addr)(xs:List V):Prop:=
 Rd H a (.lst xs)\/
  ∃(o:Obj) (its:Array Value) (n:Nat),K.lookup a=some o/\o.cls= .type "list" /\o.dict=none/\o.data= .seq its n/\its.size<=sizeLine/\Vals xs its.toList
def fO(K:PySem.W.Frag)(H:Hp)(a:Addr)(xs:List V):Prop:=
 Rd H a (.tup xs)\/
  ∃(o:Obj) (its:Array Value) (n:Nat),K.lookup a=some o/\o.cls= .type "tuple" /\o.data= .seq its n/\its.size<=sizeLine/\Vals xs its.toList
def Us:Value->Option V
 | .none=>some .aC
 | .bool b=>some (.bl b)
 | .int i _=>some (.int i)
 | .str x _=>some (.str x)
 | .bytes b _=>some (.iC b)
 | .float b _=>some (.j7 b)
 | .ref a=>some (.ref a)
 | .type n=>some (.ty n)
 |_=>none
theorem RelV.abs{x:V}{u:Value}(r:RelV x u):Us u=some x:=by
 cases x with
 |aC=>cases r;rfl
 |bl _=>cases r;rfl
 |int _=>obtain⟨t,rfl⟩:=r;rfl
 |str _=>obtain⟨t,rfl⟩:=r;rfl
 |iC _=>obtain⟨t,rfl⟩:=r;rfl
 |j7 _=>obtain⟨t,rfl⟩:=r;rfl
 |ref _=>cases r;rfl
 |ty _=>cases r;rfl
theorem RelV.inj{x y:V}{u:Value}(r:RelV x u)(q:RelV y u):x=y:=iD (r.abs.symm.trans q.abs)
theorem Vals.inj{xs ys:List V}{us:List Value}(h:Vals xs us)(k:Vals ys us):xs=ys:=by
 induction h generalizing ys with
 |nil=>cases k;rfl
 |cons r t ih=>cases k with|cons r' t'=>rw[r.inj r',ih t']
section
variable{X:Cx}{pins:List (Addr×Obj)}{σ:St}{H:Hp}{s:Shared}{a:Addr}{xs ys:List V}
theorem aS.of{K:PySem.W.Frag}(h:H a=some (.lst xs)):aS K H a xs:= .inl (.inl h)
theorem fO.of{K:PySem.W.Frag}(h:H a=some (.tup xs)):fO K H a xs:= .inl (.inl h)
theorem Inv.list(I:Inv X pins σ H s)(h:aS X.K H a xs):∃its:List Value,Vals xs its/\PlainL s.heap a its.toArray/\xs.length<=sizeLine:=by
 rcases h with h|⟨o,its,n,hk,hc,hd,hs,hz,r⟩
 ·obtain⟨z,its,n,r,e⟩:=h.ok I.hok
  exact⟨its,r,⟨_,n,e,rfl,rfl,rfl⟩,z⟩
 ·refine⟨its.toList,r,⟨o,n,I.cC a o hk,hc,hd,by simpa using hs⟩,?_⟩
  have e:=r.length
  simp only[cU] at e
  omega
theorem Inv.tuple(I:Inv X pins σ H s)(h:fO X.K H a xs):∃its:List Value,Vals xs its/\IsTup s.heap a its.toArray/\xs.length<=sizeLine:=by
 rcases h with h|⟨o,its,n,hk,hc,hs,hz,r⟩
 ·obtain⟨z,its,r,p⟩:=h.ok I.hok
  exact⟨its,r,p,z⟩
 ·refine⟨its.toList,r,⟨o,I.cC a o hk,hc,n,by simpa using hs⟩,?_⟩
  have e:=r.length
  simp only[cU] at e
  omega
theorem Inv.Ho(I:Inv X pins σ H s)(h:aS X.K H a xs)(h':aS X.K H a ys):xs=ys:=by
 obtain⟨its,r,⟨o,n,e,_,_,d⟩,_⟩:=I.list h
 obtain⟨its',r',⟨o',n',e',_,_,d'⟩,_⟩:=I.list h'
 rw[e] at e';cases e'
 rw[d] at d'
 injection d' with d1 _
 have:its=its':=by simpa using congrArg Array.toList d1
 subst this
 exact r.inj r'
end
abbrev Cx.kC(X:Cx)(E:Value->Shared->Prop):Cx:={X with xe:=E}
abbrev Cx.vN(X:Cx):Cx:=X.kC fun _ _=>False
theorem Cx.Ok.kC{X:Cx}(ok:X.Ok)(E:Value->Shared->Prop):(X.kC E).Ok:=
 ⟨ok.mod,ok.kind,ok.glob,ok.blt,ok.above,ok.inj,ok.has,ok.qU,ok.hd,ok.frames,ok.stk,ok.vV,ok.bs,ok.mq,ok.rG,ok.sN,ok.jB,ok.mS⟩
theorem Cx.Ok.mE{X:Cx}{E:Value->Shared->Prop}(ok:(X.kC E).Ok):X.Ok:=
 ⟨ok.mod,ok.kind,ok.glob,ok.blt,ok.above,ok.inj,ok.has,ok.qU,ok.hd,ok.frames,ok.stk,ok.vV,ok.bs,ok.mq,ok.rG,ok.sN,ok.jB,ok.mS⟩
section
variable{X:Cx}{pins:List (Addr×Obj)}{σ:St}{H:Hp}{s:Shared}{E:Value->Shared->Prop}
theorem Inv.kC(I:Inv X pins σ H s)(E:Value->Shared->Prop):Inv (X.kC E) pins σ H s:=⟨I.ok.kC E,I.os,I.bare,I.base,I.loc,I.cell,I.free,I.jU,I.pin,I.hok,I.len⟩
theorem Inv.mE(I:Inv (X.kC E) pins σ H s):Inv X pins σ H s:=⟨I.ok.mE,I.os,I.bare,I.base,I.loc,I.cell,I.free,I.jU,I.pin,I.hok,I.len⟩
theorem SP.mE{D:Ends}{f:Flow}{s':Shared}(h:SP (X.kC E) pins D f s'):SP X pins D f s':=by
 cases f with
 |next=>obtain⟨σ',H',I,q⟩:=h;exact⟨σ',H',I.mE,q⟩
 |brk=>obtain⟨σ',H',I,q⟩:=h;exact⟨σ',H',I.mE,q⟩
 |cont=>obtain⟨σ',H',I,q⟩:=h;exact⟨σ',H',I.mE,q⟩
 |ret u=>obtain⟨v,σ',H',I,r,q⟩:=h;exact⟨v,σ',H',I.mE,r,q⟩
theorem jb.vN{st:List Stmt}{t:TS}(h:jb X.vN st t):jb X st t:=fun pins s σ H D I hw=>
 wpAny_mono (h pins s σ H D (I.kC _) hw) (fun _ _ q=>q.mE) fun _ _ z=>False.elim z
end
section
variable{X:Cx}{st:Stmt}{rest:List Stmt}{t u:TS}{e:Expr}{te:TE}{pos:Pos}
def Az:TS:=fun D σ H=>D.nx σ H
def qX(t u:TS):TS:=fun D σ H=>t {D with nx:=u D} σ H
theorem eN:jb X [] Az:=fun _ _ σ H _ I h=>wpAny_execs_nil ⟨σ,H,I,h⟩
theorem aA(h1:PS X st t)(h2:jb X rest u):jb X (st::rest) (qX t u):=by
  intro pins s σ H D I h
  refine wpAny_execs_cons (aH (h1 pins s σ H {D with nx:=u D} I h) fun f s1 q=>?_)
  cases f with
  | next =>
    obtain⟨σ',H',I',q⟩:=q
    exact h2 pins s1 σ' H' D I' q
  |ret v=>exact q
  |brk=>exact q
  |cont=>exact q
theorem aJ(h1:PS X st t):jb X [st] t:=by
 intro pins s σ H D I h
 refine wpAny_execs_cons (aH (h1 pins s σ H D I h) fun f s1 q=>?_)
 cases f with
 |next=>exact wpAny_execs_nil q
 |ret v=>exact q
 |brk=>exact q
 |cont=>exact q
def Vb:TS:=fun D σ H=>D.bk σ H
def Kw:TS:=fun D σ H=>D.ct σ H
theorem Inv.quiet{pins:List (Addr×Obj)}{σ:St}{H:Hp}{s:Shared}(I:Inv X pins σ H s):interactive X.env=false:=by simp[interactive,I.ok.kind]
def uz(te:TE):TS:=fun D σ H=>te σ H fun _ H1=>D.nx σ H1
theorem vA(he:PE X e te)(hs:swapsWith e none pos.line X.env=pure false:=by rfl):PS X (.Expr e pos) (uz te):=by
 intro pins s σ H D I h
 exact wpAny_Expr_any (aH (he pins s σ H _ I h) fun v s1 ⟨x,H1,I1,r1,q1⟩=>⟨σ,H1,I1,q1⟩) I.quiet hs
def o9(te:TE):TS:=fun D σ H=>te σ H D.rt
theorem aZ(he:PE X e te):PS X (.Return (some e) pos) (o9 te):=by
 intro pins s σ H D I h
 exact wpAny_Return_some (aH (he pins s σ H _ I h) fun v s1 ⟨x,H1,I1,r1,q1⟩=>⟨x,σ,H1,I1,r1,q1⟩)
def BL(c:TT)(t u:TS):TS:=fun D σ H=>c σ H fun b H1=>if b=true then t D σ H1 else u D σ H1
theorem dR{c:Expr}{a b:List Stmt}{tc:TT}(hc:PT X c tc)(ha:jb X a t)(hb:jb X b u):PS X (.If c a b pos) (BL tc t u):=by
 intro pins s σ H D I h
 refine wpAny_If (aH (hc pins s σ H _ I h) fun d s1 ⟨H1,I1,q1⟩=>?_)
 cases d with
 |true=>exact ha pins s1 σ H1 D I1 q1
 |false=>exact hb pins s1 σ H1 D I1 q1
end
abbrev TG:=V->St->Hp->(St->Hp->Prop)->Prop
abbrev g7:=List V->St->Hp->(St->Hp->Prop)->Prop
def PG(X:Cx)(target:Expr)(t:TG):Prop:=
 ∀(pins:List (Addr×Obj)) (s:Shared) (σ:St) (H:Hp) (v:V) (u:Value) (Q:St->Hp->Prop),Inv X pins σ H s->RelV v u->t v σ H Q->
  wpAny (model X.prog X.w) X.A (assign target X.env u) (fun _ s'=>∃σ' H',Inv X pins σ' H' s'/\Q σ' H') X.xe s
def qO(X:Cx)(ts:List Expr)(t:g7):Prop:=
 ∀(pins:List (Addr×Obj)) (s:Shared) (σ:St) (H:Hp) (vs:List V) (us:List Value) (Q:St->Hp->Prop),Inv X pins σ H s->Vals vs us->t vs σ H Q->
  wpAny (model X.prog X.w) X.A (assignInOrder ((assignEach ts X.env).map (·.2)) us) (fun _ s'=>∃σ' H',Inv X pins σ' H' s'/\Q σ' H') X.xe s
abbrev sS:=V->V->V->Hp->(Hp->Prop)->Prop
def wV(X:Cx)(t:sS):Prop:=
 ∀(pins:List (Addr×Obj)) (s:Shared) (σ:St) (H:Hp) (o i v:V) (ov iv u:Value) (Q:Hp->Prop),Inv X pins σ H s->RelV o ov->RelV i iv->RelV v u->t o i v H Q->
  wpAny (model X.prog X.w) X.A (setItem ov iv u) (fun _ s'=>∃H',Inv X pins σ H' s'/\Q H') X.xe s
section
variable{X:Cx}{pos:Pos}
def gP(i:Nat):TG:=fun v σ H Q=>Q (σ.set i (some v)) H
theorem bN{i:Nat}{x:Str}(hN:X.N.Nodup)(hi:X.N[i]?=some x)(hx:Loc X.env.scope x)(hf:X.fn x=true\/X.env.scope.names.lookup x=some .local:=by first|exact .inl rfl|exact .inr rfl|assumption):PG X (.Name x pos) (gP i):=by
 intro pins s σ H v u Q I r h
 exact wpAny_assign_Name (Ek I hN hi hx r (fun s' I'=>⟨_,H,I',h⟩) hf)
def yk:g7:=fun vs σ H Q=>vs=[]/\Q σ H
def yo(t:TG)(u:g7):g7:=fun vs σ H Q=>∃v r,vs=v::r/\t v σ H fun σ' H'=>u r σ' H' Q
theorem qo:qO X [] yk:=by
 intro pins s σ H vs us Q I r h
 obtain⟨e,h⟩:=h
 subst e
 cases r
 exact assignInOrder_nil ⟨σ,H,I,h⟩
theorem j3{e:Expr}{es:List Expr}{t:TG}{u:g7}(h1:PG X e t)(h2:qO X es u)
    (hs:(assignEach (e::es) X.env).map (·.2)=assign e X.env::(assignEach es X.env).map (·.2):=by rfl):qO X (e::es) (yo t u):=by
  intro pins s σ H vs us Q I r h
  obtain⟨v,vr,e1,h⟩:=h
  subst e1
  cases r with
  | cons r rr =>
    rw[hs]
    refine assignInOrder_cons (aH (h1 pins s σ H _ _ _ I r h) fun _ s1 ⟨σ1,H1,I1,q1⟩=>?_)
    exact h2 pins s1 σ1 H1 _ _ Q I1 rr q1
def vB(K:PySem.W.Frag)(n:Nat)(t:g7):TG:=fun v σ H Q=>∃a xs,v= .ref a/\fO K H a xs/\xs.length=n/\t xs σ H Q
theorem DK{es:List Expr}{k:Nat}{t:g7}{n:Nat}(hc:X.calm=true)(h:qO X es t)
  (hn:(assignEach es X.env).length=n:=by rfl) (hst:(assignEach es X.env).findIdx? (·.1)=none:=by rfl):PG X (.Tuple es k pos) (vB X.K n t):=by
 intro pins s σ H v u Q I r hw
 obtain⟨a,xs,e1,hq,hl,hw⟩:=hw
 subst e1
 cases r
 obtain⟨its,rv,ht,hz⟩:=I.tuple hq
 refine assign_Tuple_tuple (I.ok.hd hc) ht (by simp[hn,<-hl,rv.length]) hst fun h' hx=>?_
 have I1:Inv X pins σ H {s with heap:=h'}:=I.kept (t':=s.toks) fun b o e=>hx b o (cW (bw e)) e
 exact h pins _ σ H xs _ Q I1 (by simpa using rv) hw
def pU(to ti:TE)(t:sS):TG:=fun v σ H Q=>to σ H fun o H1=>ti σ H1 fun i H2=>t o i v H2 fun H3=>Q σ H3
theorem mG{o i:Expr}{to ti:TE}{t:sS}(ho:PE X o to)(hi:PE X i ti)(hs:wV X t)
  (ha : ∀ v, assign (.Subscript o i pos) X.env v = (do
   let ov<-holding [v] (eval o X.env)
   let iv<-holding [v,ov] (eval i X.env)
   standAt pos
   holding [v,ov,iv] (setItem ov iv v)
   release [v,ov,iv] []):=by intro _;rfl):PG X (.Subscript o i pos) (pU to ti t):=by
 intro pins s σ H v u Q I r h
 rw[ha]
 refine wpAny_bind (wpAny_holding (aH (ho pins s σ H _ I h) fun ov s1 ⟨x,H1,I1,r1,q1⟩=>?_))
 refine wpAny_bind (wpAny_holding (aH (hi pins s1 σ H1 _ I1 q1) fun iv s2 ⟨y,H2,I2,r2,q2⟩=>?_))
 refine wpAny_bind (wpAny_standAt (wpAny_bind (wpAny_holding (aH (hs pins s2 σ H2 x y v ov iv u _ I2 r1 r2 r q2) fun _ s3 ⟨H3,I3,q3⟩=>?_))))
 exact wpAny_release ⟨σ,H3,I3,q3⟩
def fS(te:TE)(g:TG):TS:=fun D σ H=>te σ H fun x H1=>g x σ H1 D.nx
theorem lJ{tg e:Expr}{te:TE}{g:TG}(he:PE X e te)(hg:PG X tg g)(hs:swapsWithSole [tg] e pos.line X.env=pure false:=by rfl)(hw:swappedStores [tg] e X.env=pure none:=by rfl)
  (h1:(assignEach [tg] X.env).map (·.2)=[assign tg X.env]:=by rfl):PS X (.Assign [tg] e pos) (fS te g):=by
 intro pins s σ H D I h
 refine wpAny_Assign_stores (aH (he pins s σ H _ I h) fun v s1 ⟨x,H1,I1,r1,q1⟩=>?_) hs hw
 rw[h1]
 exact aH (hg pins s1 σ H1 x v _ I1 r1 q1) fun _ s2 q=>q
theorem aR{i:Nat}{x:Str}{e:Expr}{te:TE}{pos':Pos}(hN:X.N.Nodup)(hi:X.N[i]?=some x)(hx:Loc X.env.scope x)(he:PE X e te)(hs:swapsWith e (some (.Name x pos')) pos.line X.env=pure false:=by rfl)(hf:X.fn x=true\/X.env.scope.names.lookup x=some .local:=by first|exact .inl rfl|exact .inr rfl|assumption):
  PS X (.Assign [.Name x pos'] e pos) (fS te (gP i)):=by
 intro pins s σ H D I h
 refine wpAny_Assign_Name (aH (he pins s σ H _ I h) fun v s1 ⟨y,H1,I1,r1,q1⟩=>?_) hs
 exact Ek I1 hN hi hx r1 (fun s2 I2=>⟨_,H1,I2,q1⟩) hf
end
section
variable{X:Cx}{pos:Pos}
def zH(c:TT)(tb:TS):TS:=fun D σ H=>∃W:Nat->St->Hp->Prop,(∃m,W m σ H)/\∀m σ H,W m σ H->
 c σ H fun b H1=>if b=true then∃N:St->Hp->Prop,(∀σ' H',N σ' H'->∃m',m'<m/\W m' σ' H')/\tb {D with nx:=N,ct:=N,bk:=D.nx} σ H1 else D.nx σ H1
theorem DN{c:Expr}{body:List Stmt}{tc:TT}{tb:TS}(hp:PassesOwn (model X.prog X.w) X.A X.env X.xe)(hc:PT X c tc)(hb:jb X body tb):PS X (.While c body [] pos) (zH tc tb):=by
  intro pins s σ H D I h
  obtain⟨W,⟨m0,w0⟩,turn⟩:=h
  refine wpAny_While (codeAny_whileLoop (fun n s'=>∃σ' H',Inv X pins σ' H' s'/\W n σ' H') ?_ m0 ⟨σ,H,I,w0⟩)
  rintro n s1 ⟨σ1,H1,I1,w1⟩
  refine wpAny_passesOwn hp (aH (hc pins s1 σ1 H1 _ I1 (turn n σ1 H1 w1)) fun b s2 ⟨H2,I2,q2⟩=>?_)
  cases b with
  | true =>
    obtain⟨N,hN,q2⟩:=q2
    rw[if_pos rfl]
    refine wpAny_passesOwn hp (aH (hb pins s2 σ1 H2 _ I2 q2) fun f s3 q3=>?_)
    cases f with
    | next =>
      obtain⟨σ3,H3,I3,n3⟩:=q3
      obtain⟨m',hm,w3⟩:=hN σ3 H3 n3
      exact⟨m',hm,σ3,H3,I3,w3⟩
    | cont =>
      obtain⟨σ3,H3,I3,n3⟩:=q3
      obtain⟨m',hm,w3⟩:=hN σ3 H3 n3
      exact⟨m',hm,σ3,H3,I3,w3⟩
    |brk=>exact q3
    |ret v=>exact q3
  | false =>
    rw[if_neg bq]
    exact wpAny_execs_nil ⟨σ1,H2,I2,q2⟩
end
structure It where
 go:Nat->Hp->Prop
 n6:Nat->Hp->V->Hp->Prop
 stop:Nat->Hp->Prop
def iE(X:Cx)(pins:List (Addr×Obj))(H:Hp)(b:Addr):Prop:=
 H b=none/\b≠X.env.locals/\b∉X.fs/\(b∈X.ex\/X.s₀.heap.objs.size<=b)/\(∀x c,X.env.cells.lookup x=some c->c≠b)/\∀p∈X.pn++pins,p.1≠b
theorem Inv.qY{X:Cx}{pins:List (Addr×Obj)}{σ:St}{H H':Hp}{s:Shared}{b:Addr}(I:Inv X pins σ H s)(hb:s.heap.objs.size<=b)(hn:H' b=none):iE X pins H' b:=by
 refine⟨hn,pN (eE I.lt hb),I.Wg hb, .inr (fq I.sz hb),fun x c e z=>?_,fun p hp z=>?_⟩
 ·obtain⟨v,q⟩:=I.cell x c e
  exact absurd (eE q.lt (by rw[z];exact hb)) (iR _)
 ·exact absurd (eE (bw (I.pin p hp).1) (by rw[z];exact hb)) (iR _)
structure Turn(P:Program)(w:World)(K:PySem.W.Frag)(tg:Expr)(J:It)(fp:List Addr)(it:Addr)(tn:Nat->Heap->Prop):Prop where
 mem:it∈fp
 obj:∀i h,tn i h->∀b∈fp,∃o,h.get? b=some o/\∀v,o.data≠ .cell v
 keep:∀i h h',tn i h->(∀b∈fp,∀o,h.get? b=some o->h'.get? b=some o)->tn i h'
 item:∀(X:Cx),X.prog=P->X.w=w->X.K=K->X.calm=true->∀(i:Nat) (pins:List (Addr×Obj)) (s:Shared) (σ:St) (H:Hp) (E:Value->Shared->Prop),Inv X pins σ H s->(∀b∈fp,iE X pins H b)->tn i s.heap->J.go i H->
  wpAny (model P w) X.A (pyNext (.ref it)) (fun r s1=>∃u,r=some u/\
   wpAny (model P w) X.A (letOwnedTupleGo tg (.ref it) u) (fun _ s2=>∃x H',Inv X pins σ H' s2/\RelV x u/\J.n6 i H x H'/\tn (i+1) s2.heap/\∀b∈fp,H' b=none) E s1) E s
 done:∀(X:Cx),X.prog=P->X.w=w->X.K=K->X.calm=true->∀(i:Nat) (pins:List (Addr×Obj)) (s:Shared) (σ:St) (H:Hp) (E:Value->Shared->Prop),Inv X pins σ H s->(∀b∈fp,iE X pins H b)->tn i s.heap->J.stop i H->
  wpAny (model P w) X.A (pyNext (.ref it)) (fun r s1=>r=none/\Inv X pins σ H s1) E s
 self:∀(A:Around) (i:Nat) (s:Shared) (Q:Value->Shared->Prop) (E:Value->Shared->Prop),tn i s.heap->Q (.ref it) s->wpAny (model P w) A (pyIter (.ref it)) Q E s
abbrev TI:=St->Hp->(It->Hp->Prop)->Prop
def Dd(X:Cx)(pins:List (Addr×Obj))(σ:St)(tg:Expr)(R:It->Hp->Prop)(itv:Value)(s2:Shared):Prop:=
 ∃(it:Addr) (fp:List Addr) (tn:Nat->Heap->Prop) (J:It) (H':Hp),itv= .ref it/\Inv X pins σ H' s2/\Turn X.prog X.w X.K tg J fp it tn/\tn 0 s2.heap/\(∀b∈fp,iE X pins H' b)/\R J H'
def PI(X:Cx)(tg iter:Expr)(wi:TI):Prop:=
 ∀(pins:List (Addr×Obj)) (s:Shared) (σ:St) (H:Hp) (R:It->Hp->Prop),Inv X pins σ H s->wi σ H R->
  wpAny (model X.prog X.w) X.A (eval iter X.env) (fun v s1=>wpAny (model X.prog X.w) X.A (pyIter v) (Dd X pins σ tg R) X.xe s1) X.xe s
theorem DG{M:Model}{A:Around}{E:Value->Shared->Prop}{s:Shared}{tg:Expr}{it:Addr}{u:Value}{o:Obj}{n:String}{vs:Array Value}{Q:Unit->Shared->Prop}(ho:s.heap.get? it=some o)(hc:o.cls= .type n)(hd:o.data= .fields vs)
    (hn:["enumerate","zip","dict_itemiterator","dict_reverseitemiterator","odict_iterator","itertools.zip_longest","itertools.pairwise"].contains n=false) (hQ:Q () s):wpAny M A (letOwnedTupleGo tg (.ref it) u) Q E s:=by
  unfold letOwnedTupleGo
  cases tg<;>first
    |exact wpAny_pure hQ
    |(cases u<;>first
        |exact wpAny_pure hQ
        | (refine wpAny_bind (wpAny_load ho ?_)
           rw[hc,hd]
           show wpAny M A (if(["enumerate","zip","dict_itemiterator","dict_reverseitemiterator","odict_iterator","itertools.zip_longest","itertools.pairwise"].contains n && vs[0]?==some (rawInt _))=true then _ else _) Q E s
           rw[if_neg (by intro h;rw[hn,Bool.false_and] at h;cases h)]
           exact wpAny_pure hQ))
def nk(K:PySem.W.Frag)(a:Addr):It:=
 ⟨fun i H=>∃xs x,aS K H a xs/\xs[i]?=some x,fun i H x H'=>H'=H/\∀xs,aS K H a xs->xs[i]?=some x,fun i H=>∃xs,aS K H a xs/\xs.length<=i⟩
def iF(lo:Int)(n:Nat):It:=⟨fun i _=>i<n,fun i H x H'=>H'=H/\x= .int (lo+i),fun i _=>n<=i⟩
theorem PY{P:Program}{w:World}{K:PySem.W.Frag}{tg:Expr}(a it:Addr):Turn P w K tg (nk K a) [it] it (fun i h=>h.IsListIter it a i) where
 mem:=by simp
 obj:=fun i h st b hb=>by
  have e:b=it:=by simpa using hb
  subst e
  obtain⟨o,e,c,d⟩:=st
  exact⟨o,e,fun v z=>by rw[d] at z;cases z⟩
 keep:=fun i h h' st k=>st.at fun o e=>k it (by simp) o e
 item:=by
  intro X hP hw hK hc i pins s σ H E I hf st hg
  subst hP hw hK
  obtain⟨xs,x,hq,hx⟩:=hg
  obtain⟨its,rv,p,hz⟩:=I.list hq
  obtain⟨u,hu,ru⟩:=rv.get hx
  obtain⟨f0,f1,f2,f3,f4,f5⟩:=hf it (by simp)
  refine wpAny_pyNext_list_item st p.isList (x:=u) (by simpa using hu) fun h' st' sb=>?_
  have I1:Inv X pins σ H {s with heap:=h'}:=I.turned (t':=s.toks) (fun b o hb e=>(sb.2 b hb).trans e) f0 f1 f3 f4 f5
  obtain⟨o,e,c,d⟩:=id st'
  exact⟨u,rfl,DG (s:={s with heap:=h'}) e c d (by decide) ⟨x,H,I1,ru,⟨rfl,fun ys hy=>by rw[I.Ho hy hq];exact hx⟩,st',fun b hb=>(hf b hb).1⟩⟩
 done:=by
  intro X hP hw hK hc i pins s σ H E I hf st hg
  subst hP hw hK
  obtain⟨xs,hq,hx⟩:=hg
  obtain⟨its,rv,p,hz⟩:=I.list hq
  obtain⟨f0,f1,f2,f3,f4,f5⟩:=hf it (by simp)
  have hl:=rv.length
  exact wpAny_pyNext_list_end (I.ok.hd hc) st p.isList (by simp;omega) fun h' eb=>⟨rfl,I.turned (t':=s.toks) (fun b o hb e=>eb b o hb e) f0 f1 f3 f4 f5⟩
 self:=fun _ _ _ _ _ st h=>wpAny_pyIter_listiter st h
theorem Tg{P:Program}{w:World}{K:PySem.W.Frag}{tg:Expr}(it:Addr)(lo:Int)(n:Nat):Turn P w K tg (iF lo n) [it] it (fun i h=>IsRangeIter h it (lo+(i:Nat)*1) ((n:Int)-(i:Nat)) 1) where
 mem:=by simp
 obj:=fun i h st b hb=>by
  have e:b=it:=by simpa using hb
  subst e
  exact⟨_,st,fun v z=>by
   have z':Data.fields _=Data.cell v:=z
   cases z'⟩
 keep:=fun i h h' st k=>k it (by simp) _ st
 item:=by
  intro X hP hw hK hc i pins s σ H E I hf st hg
  subst hP hw hK
  obtain⟨f0,f1,f2,f3,f4,f5⟩:=hf it (by simp)
  have W:=Walks.range (prog:=X.prog) (w:=X.w) (I.ok.hd hc) it lo 1 n
  refine W.item i s _ _ hg st fun v h' tk hv st' kk=>?_
  obtain⟨t,rfl⟩:=hv
  have I1:Inv X pins σ H {s with heap:=h',toks:=tk}:=I.turned (fun b o hb e=>kk b o (by simpa using hb) e) f0 f1 f3 f4 f5
  refine⟨_,rfl,DG (s:={s with heap:=h',toks:=tk}) (n:="range_iterator") st' rfl rfl (by decide) ⟨.int (lo+i),H,I1,⟨t,?_⟩,⟨rfl,rfl⟩,st',fun b hb=>(hf b hb).1⟩⟩
  rw[BX]
 done:=by
  intro X hP hw hK hc i pins s σ H E I hf st hg
  subst hP hw hK
  obtain⟨f0,f1,f2,f3,f4,f5⟩:=hf it (by simp)
  exact wpAny_pyNext_range_end (I.ok.hd hc) st (by have:n<=i:=hg;omega) fun h' eb=>⟨rfl,I.turned (t':=s.toks) (fun b o hb e=>eb b o hb e) f0 f1 f3 f4 f5⟩
 self:=fun _ _ _ _ _ st h=>wpAny_pyIter_rangeiter st h
section
variable{X:Cx}{tg:Expr}
def rz(K:PySem.W.Frag)(tl:TE):TI:=fun σ H R=>tl σ H fun x H1=>∃a,x= .ref a/\(∃xs,aS K H1 a xs)/\R (nk K a) H1
theorem Qa{l:Expr}{tl:TE}(hl:PE X l tl):PI X tg l (rz X.K tl):=by
 intro pins s σ H R I h
 refine aH (hl pins s σ H _ I h) fun v s1 ⟨x,H1,I1,r1,q1⟩=>?_
 obtain⟨a,e,⟨xs,hq⟩,q⟩:=q1
 subst e
 cases r1
 obtain⟨its,rv,p,hz⟩:=I1.list hq
 refine wpAny_pyIter_list p.isList ?_
 refine⟨s1.heap.objs.size,[s1.heap.objs.size],_,_,H1,rfl,I1.kept (t':=s1.toks) fun b o e=>bQ _ e,PY a _,⟨_,fP _ rfl,rfl,rfl⟩,fun b hb=>?_,q⟩
 have e:b=s1.heap.objs.size:=by simpa using hb
 subst e
 exact I1.qY (aF _) (I1.hok.fresh (aF _))
theorem Ja{pins:List (Addr×Obj)}{σ:St}{H:Hp}{s:Shared}{R:It->Hp->Prop}{E:Value->Shared->Prop}{lo hi:Int}{t u v:Tok}{tk:Nat}(I:Inv X pins σ H s)(h1: -(2^62)<=lo)(h2:lo<2^62)(h3: -(2^62)<=hi)(h4:hi<2^62)
  (q:R (iF lo (hi-lo).toNat) H):wpAny (model X.prog X.w) X.A (pyIter (.ref s.heap.objs.size)) (Dd X pins σ tg R) E {s with heap:=s.heap.push {cls:= .type "range",data:= .fields #[.int lo t, .int hi u, .int 1 v]},toks:=tk}:=by
 refine wpAny_pyIter_range (IsRange.new ..) (small_one h1 h2 h3 h4) ?_
 have I1:Inv X pins σ H {s with heap:=s.heap.push {cls:= .type "range",data:= .fields #[.int lo t, .int hi u, .int 1 v]},toks:=tk}:=I.kept fun b o e=>bQ _ e
 refine⟨(s.heap.push {cls:= .type "range",data:= .fields #[.int lo t, .int hi u, .int 1 v]}).objs.size,[(s.heap.push {cls:= .type "range",data:= .fields #[.int lo t, .int hi u, .int 1 v]}).objs.size],_,_,H,rfl,
  I1.kept (t':=tk) fun b o e=>bQ _ e,Tg _ lo (hi-lo).toNat,?_,fun b hb=>?_,q⟩
 ·have e1:lo+((0:Nat):Int)*1=lo:=by simp
  have e2:(((hi-lo).toNat:Nat):Int)-((0:Nat):Int)=Builtin.Range.rangeSize lo hi 1:=by rw[rangeSize_one];split<;>omega
  show IsRangeIter _ _ (lo+((0:Nat):Int)*1) ((((hi-lo).toNat:Nat):Int)-((0:Nat):Int)) 1
  rw[e1,e2]
  exact fP _ rfl
 ·have e:b=(s.heap.push {cls:= .type "range",data:= .fields #[.int lo t, .int hi u, .int 1 v]}).objs.size:=by simpa using hb
  subst e
  exact I1.qY (aF _) (I1.hok.fresh (aF _))
def uR(ta:TA):TI:=fun σ H R=>ta σ H fun vs H1=>∃j:Int,vs=[.int j]/\ -(2^62)<=j/\j<2^62/\R (iF 0 j.toNat) H1
def xU(ta:TA):TI:=fun σ H R=>ta σ H fun vs H1=>∃i j:Int,vs=[.int i, .int j]/\(-(2^62)<=i/\i<2^62/\ -(2^62)<=j/\j<2^62)/\R (iF i (j-i).toNat) H1
theorem kK{a:Expr}{ta:TA}{p pos:Pos}(hg:Gl X "range")(hm:X.mg "range"=none)(ha:PA X [a] ta)(hs:starEach [a] X.env=[(false,eval a X.env)]:=by rfl):PI X tg (.Call (.Name "range" p) [a] [] pos) (uR ta):=by
  intro pins s σ H R I h
  refine Call_ (o4 I hg hm boot_range (vq (aH (ha pos pins s σ H _ I h) fun us s1 ⟨vs,H1,I1,r1,q1⟩=>?_) hs rfl))
  obtain⟨j,e,q1,q2,q⟩:=q1
  subst e
  cases r1 with
  | cons r rr =>
    cases rr
    obtain⟨t,rfl⟩:=r
    exact call_range_1 (Ja I1 (by omega) (by omega) q1 q2 (by simpa using q))
theorem AW{a b:Expr}{ta:TA}{p pos:Pos}(hg:Gl X "range")(hm:X.mg "range"=none)(ha:PA X [a,b] ta)(hs:starEach [a,b] X.env=[(false,eval a X.env),(false,eval b X.env)]:=by rfl)(hs2:starEach [b] X.env=[(false,eval b X.env)]:=by rfl):
    PI X tg (.Call (.Name "range" p) [a,b] [] pos) (xU ta):=by
  intro pins s σ H R I h
  refine Call_ (o4 I hg hm boot_range (vq (aH (ha pos pins s σ H _ I h) fun us s1 ⟨vs,H1,I1,r1,q1⟩=>?_) (by rw[hs,hs2]) (by rw[hs2];rfl)))
  obtain⟨i,j,e,⟨q1,q2,q3,q4⟩,q⟩:=q1
  subst e
  cases r1 with
  | cons r rr =>
    cases rr with
    | cons r' rr =>
      cases rr
      obtain⟨t,rfl⟩:=r
      obtain⟨t',rfl⟩:=r'
      exact call_range_2 (Ja I1 q1 q2 q3 q4 q)
def vv(wi:TI)(g:TG)(tb:TS):TS:=fun D σ H=>wi σ H fun J H1=>∃W:Nat->Nat->St->Hp->Prop,(∃m,W 0 m σ H1)/\∀i m σ H,W i m σ H->
 (J.stop i H/\D.nx σ H)\/(J.go i H/\∃N:St->Hp->Prop,(∀σ' H',N σ' H'->∃m',m'<m/\W (i+1) m' σ' H')/\∀x H',J.n6 i H x H'->g x σ H' fun σ2 H2=>tb {D with nx:=N,ct:=N,bk:=D.nx} σ2 H2)
def sj(fp:List Addr)(h:Heap):List (Addr×Obj):=fp.filterMap fun b=>(h.get? b).map fun o=>(b,o)
theorem uF{fp:List Addr}{h:Heap}{b:Addr}{o:Obj}(hb:b∈fp)(e:h.get? b=some o):(b,o)∈sj fp h:=yM.mpr ⟨b,hb,by rw[e];rfl⟩
theorem Te{fp:List Addr}{h:Heap}{p:Addr×Obj}(hp:p∈sj fp h):p.1∈fp/\h.get? p.1=some p.2:=by
  obtain⟨b,hb,e⟩:=yM.mp hp
  cases q:h.get? b with
  |none=>rw[q] at e;cases e
  | some o =>
    rw[q] at e
    have e':(b,o)=p:=iD e
    subst e'
    exact⟨hb,q⟩
theorem Inv.pinned{pins:List (Addr×Obj)}{σ:St}{H:Hp}{s:Shared}{fp:List Addr}(I:Inv X pins σ H s)(hf:∀b∈fp,iE X pins H b)(ho:∀b∈fp,∃o,s.heap.get? b=some o/\∀v,o.data≠ .cell v):Inv X (pins++sj fp s.heap) σ H s:=
 I.HK fun p hp=>(fR.mp hp).elim (fun z=>I.pin p (jE _ z)) fun z=>by
  obtain⟨hb,e⟩:=Te z
  obtain⟨f0,f1,f2,_⟩:=hf p.1 hb
  obtain⟨o,e',d⟩:=ho p.1 hb
  rw[e] at e';cases e'
  exact⟨e,f0,f1,f2,d⟩
theorem Inv.wm{pins pl:List (Addr×Obj)}{σ:St}{H:Hp}{s:Shared}(I:Inv X (pins++pl) σ H s):Inv X pins σ H s:=I.HK fun p hp=>I.pin p (jE _ (om _ hp))
theorem jW{iter:Expr}{body:List Stmt}{wi:TI}{g:TG}{tb:TS}{pos:Pos}(hp:PassesOwn (model X.prog X.w) X.A X.env X.xe)(hc:X.calm=true)(hi:PI X tg iter wi)(hg:PG X tg g)(hb:jb X body tb)
  (hs:∀x,foldedSetIterable iter X.env x=pure x:=by intro _;rfl):PS X (.For tg iter body [] pos) (vv wi g tb):=by
 intro pins s σ H D I h
 refine wpAny_For (aH (hi pins s σ H _ I h) fun v s1 h1=>aH h1 fun itv s2 h2=>?_) hs
 obtain⟨it,fp,tn,J,H2,e,I2,T,st2,f2,W,⟨m0,w0⟩,turn⟩:=h2
 subst e
 have lX:∀{H':Hp},(∀b∈fp,H' b=none)->∀b∈fp,iE X pins H' b:=fun hn b hb=>⟨hn b hb,(f2 b hb).2⟩
 refine codeAny_forLoop_any (fun n s'=>∃i σ' H',Inv X pins σ' H' s'/\tn i s'.heap/\(∀b∈fp,H' b=none)/\W i n σ' H') ?_ m0 ⟨0,σ,H2,I2,st2,fun b hb=>(f2 b hb).1,w0⟩
 rintro n s3 ⟨i,σ3,H3,I3,st3,fr3,w3⟩
 rcases turn i n σ3 H3 w3 with ⟨stop,qn⟩|⟨go,N,hN,step⟩
 ·refine wpAny_passesOwn hp (aH (T.done X rfl rfl rfl hc i pins s3 σ3 H3 X.xe I3 (lX fr3) st3 stop) fun r s4 ⟨hr,I4⟩=>?_)
  subst hr
  exact wpAny_execs_nil ⟨σ3,H3,I4,qn⟩
 ·refine wpAny_passesOwn hp (aH (T.item X rfl rfl rfl hc i pins s3 σ3 H3 X.xe I3 (lX fr3) st3 go) fun r s4 ⟨u,hr,h4⟩=>?_)
  subst hr
  refine wpAny_passesOwn hp (aH h4 fun _ s5 ⟨x,H5,I5,r5,y5,nP,zC⟩=>?_)
  have zc:=I5.pinned (lX zC) (T.obj _ _ nP)
  refine wpAny_passesOwn hp (aH (hg _ s5 σ3 H5 x u _ zc r5 (step x H5 y5)) fun _ s6 ⟨qa,H6,I6,q6⟩=>?_)
  refine wpAny_passesOwn hp (aH (hb _ s6 qa H6 _ I6 q6) fun f s7 q7=>?_)
  have again:∀{jL:St} {H7:Hp},Inv X (pins++sj fp s5.heap) jL H7 s7->N jL H7->∃m,m<n/\∃i σ' H',Inv X pins σ' H' s7/\tn i s7.heap/\(∀b∈fp,H' b=none)/\W i m σ' H':=fun{jL H7} I7 n7=>by
   obtain⟨m',hm,w7⟩:=hN jL H7 n7
   refine⟨m',hm,i+1,jL,H7,I7.wm,T.keep _ _ _ nP fun b hb o e=>(I7.pin (b,o) (jE _ (jE _ (uF hb e)))).1,fun b hb=>?_,w7⟩
   obtain⟨o,e,d⟩:=T.obj _ _ nP b hb
   exact(I7.pin (b,o) (jE _ (jE _ (uF hb e)))).2.1
  cases f with
  |next=>obtain⟨jL,H7,I7,n7⟩:=q7;exact again I7 n7
  |cont=>obtain⟨jL,H7,I7,n7⟩:=q7;exact again I7 n7
  |brk=>obtain⟨jL,H7,I7,q7⟩:=q7;exact⟨jL,H7,I7.wm,q7⟩
  |ret v=>obtain⟨x7,jL,H7,I7,r7,q7⟩:=q7;exact⟨x7,jL,H7,I7.wm,r7,q7⟩
end
theorem Jl{K:PySem.W.Frag}{a:Addr}{xs:List V}{g:TG}{tb:TS}{D:Ends}{σ:St}{H:Hp}(Pv:Nat->St->Hp->Prop)(h0:Pv 0 σ H)(hl:∀i σ H,i<=xs.length->Pv i σ H->aS K H a xs)
  (hs:∀i x σ H,xs[i]?=some x->Pv i σ H->g x σ H fun σ2 H2=>tb {D with nx:=Pv (i+1),ct:=Pv (i+1),bk:=D.nx} σ2 H2) (hd:∀σ H,Pv xs.length σ H->D.nx σ H):
  ∃W:Nat->Nat->St->Hp->Prop,(∃m,W 0 m σ H)/\∀i m σ H,W i m σ H->
   ((nk K a).stop i H/\D.nx σ H)\/((nk K a).go i H/\∃N:St->Hp->Prop,(∀σ' H',N σ' H'->∃m',m'<m/\W (i+1) m' σ' H')/\∀x H',(nk K a).n6 i H x H'->g x σ H' fun σ2 H2=>tb {D with nx:=N,ct:=N,bk:=D.nx} σ2 H2):=by
 refine⟨fun i m σ H=>m=xs.length-i/\i<=xs.length/\Pv i σ H,⟨xs.length,by simp,fG _,h0⟩,?_⟩
 rintro i m σ H ⟨rfl,hi,p⟩
 have q:=hl i σ H hi p
 by_cases hlt:i<xs.length
 ·refine .inr ⟨⟨xs,xs[i],q,by simp[hlt]⟩,Pv (i+1),fun σ' H' p'=>⟨xs.length-(i+1),by omega,rfl,hlt,p'⟩,fun x H' y=>?_⟩
  obtain⟨e,y⟩:=y
  subst e
  exact hs i x σ _ (y xs q) p
 ·have e:i=xs.length:=by omega
  subst e
  exact .inl ⟨⟨xs,q,aF _⟩,hd σ H p⟩
theorem zR{lo:Int}{n:Nat}{g:TG}{tb:TS}{D:Ends}{σ:St}{H:Hp}(Pv:Nat->St->Hp->Prop)(h0:Pv 0 σ H)
  (hs:∀i σ H,i<n->Pv i σ H->g (.int (lo+i)) σ H fun σ2 H2=>tb {D with nx:=Pv (i+1),ct:=Pv (i+1),bk:=D.nx} σ2 H2) (hd:∀σ H,Pv n σ H->D.nx σ H):
  ∃W:Nat->Nat->St->Hp->Prop,(∃m,W 0 m σ H)/\∀i m σ H,W i m σ H->
   ((iF lo n).stop i H/\D.nx σ H)\/((iF lo n).go i H/\∃N:St->Hp->Prop,(∀σ' H',N σ' H'->∃m',m'<m/\W (i+1) m' σ' H')/\∀x H',(iF lo n).n6 i H x H'->g x σ H' fun σ2 H2=>tb {D with nx:=N,ct:=N,bk:=D.nx} σ2 H2):=by
 refine⟨fun i m σ H=>m=n-i/\i<=n/\Pv i σ H,⟨n,by simp,fG _,h0⟩,?_⟩
 rintro i m σ H ⟨rfl,hi,p⟩
 by_cases hlt:i<n
 ·refine .inr ⟨hlt,Pv (i+1),fun σ' H' p'=>⟨n-(i+1),by omega,rfl,hlt,p'⟩,fun x H' y=>?_⟩
  obtain⟨e,y⟩:=y
  subst e y
  exact hs i σ _ hlt p
 ·have e:i=n:=by omega
  subst e
  exact .inl ⟨aF _,hd σ H p⟩
theorem Wt{c:TT}{tb:TS}{D:Ends}{σ:St}{H:Hp}(Pv:St->Hp->Prop)(μ:St->Hp->Nat)(h0:Pv σ H)
  (hs:∀σ H,Pv σ H->c σ H fun b H1=>if b=true then tb {D with nx:=fun σ' H'=>Pv σ' H'/\μ σ' H'<μ σ H,ct:=fun σ' H'=>Pv σ' H'/\μ σ' H'<μ σ H,bk:=D.nx} σ H1 else D.nx σ H1)
  (mono:∀σ H Q Q',(∀b H1,Q b H1->Q' b H1)->c σ H Q->c σ H Q'):zH c tb D σ H:=by
 refine⟨fun m σ H=>m=μ σ H/\Pv σ H,⟨_,rfl,h0⟩,?_⟩
 rintro m σ H ⟨rfl,p⟩
 refine mono σ H _ _ (fun b H1 q=>?_) (hs σ H p)
 cases b with
 |true=>exact⟨_,fun σ' H' ⟨p',l⟩=>⟨_,l,rfl,p'⟩,q⟩
 |false=>exact q
abbrev R2:=V->V->Hp->VK->Prop
def cR(X:Cx)(f:Value->Value->Sem Value)(r:R2):Prop:=
 ∀(pins:List (Addr×Obj)) (s:Shared) (σ:St) (H:Hp) (x y:V) (v u:Value) (Q:VK),Inv X pins σ H s->RelV x v->RelV y u->r x y H Q->
  wpAny (model X.prog X.w) X.A (f v u) (EP X pins σ Q) X.xe s
def yY(X:Cx)(f:Value->Sem Value)(r:V->Hp->VK->Prop):Prop:=
 ∀(pins:List (Addr×Obj)) (s:Shared) (σ:St) (H:Hp) (x:V) (v:Value) (Q:VK),Inv X pins σ H s->RelV x v->r x H Q->
  wpAny (model X.prog X.w) X.A (f v) (EP X pins σ Q) X.xe s
def fW(X:Cx)(f:Value)(r:List V->Hp->VK->Prop):Prop:=
 ∀(pins:List (Addr×Obj)) (s:Shared) (σ:St) (H:Hp) (xs:List V) (us:List Value) (Q:VK),Inv X pins σ H s->Vals xs us->r xs H Q->
  wpAny (model X.prog X.w) X.A (call f us) (EP X pins σ Q) X.xe s
def OZ(X:Cx)(r:V->Hp->(Bool->Hp->Prop)->Prop):Prop:=
 ∀(pins:List (Addr×Obj)) (s:Shared) (σ:St) (H:Hp) (x:V) (v:Value) (Q:Bool->Hp->Prop),Inv X pins σ H s->RelV x v->r x H Q->
  wpAny (model X.prog X.w) X.A (truthy v) (TP X pins σ Q) X.xe s
def dD(r:R2)(ta tb:TE):TE:=fun σ H Q=>ta σ H fun x H1=>tb σ H1 fun y H2=>r x y H2 Q
def z7(r:V->Hp->VK->Prop)(ta:TE):TE:=fun σ H Q=>ta σ H fun x H1=>r x H1 Q
def rI(C:Int->Int->Prop)(g:Int->Int->V):R2:=fun x y H Q=>∃i j,x= .int i/\y= .int j/\C i j/\Q (g i j) H
def iB(g:Int->Int->V):R2:=fun x y H Q=>∃i j,x= .int i/\y= .int j/\Q (g i j) H
def rU(g:Int->V):V->Hp->VK->Prop:=fun x H Q=>∃i,x= .int i/\Q (g i) H
section
variable{X:Cx}{a b c:Expr}{ta tb tc:TE}{pos:Pos}
theorem AN(ha:PE X a ta)(hb:PE X b tb){pins:List (Addr×Obj)}{s:Shared}{σ:St}{H:Hp}{R:V->V->Hp->Prop}(I:Inv X pins σ H s)
  (h:ta σ H fun x H1=>tb σ H1 fun y H2=>R x y H2) {Q:Value->Shared->Prop} {f:Value->Value->Sem Value}
  (hf:∀v u s2 x y H2,Inv X pins σ H2 s2->RelV x v->RelV y u->R x y H2->wpAny (model X.prog X.w) X.A (f v u) Q X.xe s2):
  wpAny (model X.prog X.w) X.A (eval a X.env) (fun v s₁=>wpAny (model X.prog X.w) X.A (eval b X.env) (fun u s₂=>wpAny (model X.prog X.w) X.A (f v u) Q X.xe s₂) X.xe s₁) X.xe s:=by
 refine aH (ha pins s σ H _ I h) fun v s1 ⟨x,H1,I1,r1,q1⟩=>?_
 refine aH (hb pins s1 σ H1 _ I1 q1) fun u s2 ⟨y,H2,I2,r2,q2⟩=>?_
 exact hf v u s2 x y H2 I2 r1 r2 q2
theorem aK{op:Operator}{r:R2}(ho:cR X (binaryOp op) r)(ha:PE X a ta)(hb:PE X b tb):PE X (.BinOp a op b pos) (dD r ta tb):=by
 intro pins s σ H Q I h
 exact wpAny_BinOp (AN ha hb I h fun v u s2 x y H2 I2 rx ry q=>ho pins s2 σ H2 x y v u Q I2 rx ry q)
theorem Er{op:UnaryOp}{r:V->Hp->VK->Prop}(ho:yY X (unaryOp op) r)(ha:PE X a ta):PE X (.UnaryOp op a pos) (z7 r ta):=by
 intro pins s σ H Q I h
 exact UnaryOp_ (aH (ha pins s σ H _ I h) fun v s1 ⟨x,H1,I1,r1,q1⟩=>ho pins s1 σ H1 x v Q I1 r1 q1)
theorem vE{f:Value->Value->Sem Value}{C:Int->Int->Prop}{g:Int->Int->Int}
  (rule:∀(i j:Int) (t u:Tok) (s:Shared) (Q:Value->Shared->Prop) (E:Value->Shared->Prop),C i j->Q (.int (g i j) s.toks) {s with toks:=s.toks+1}->wpAny (model X.prog X.w) X.A (f (.int i t) (.int j u)) Q E s):
  cR X f (rI C fun i j=> .int (g i j)):=by
 intro pins s σ H x y v u Q I rx ry h
 obtain⟨i,j,rfl,rfl,hc,q⟩:=h
 obtain⟨t,rfl⟩:=rx
 obtain⟨t',rfl⟩:=ry
 exact rule i j t t' s _ _ hc ⟨.int (g i j),H,I.tok _,⟨_,rfl⟩,q⟩
theorem JG{f:Value->Value->Sem Value}{g:Int->Int->Int}
  (rule:∀(i j:Int) (t u:Tok) (s:Shared) (Q:Value->Shared->Prop) (E:Value->Shared->Prop),Q (.int (g i j) s.toks) {s with toks:=s.toks+1}->wpAny (model X.prog X.w) X.A (f (.int i t) (.int j u)) Q E s):
  cR X f (iB fun i j=> .int (g i j)):=by
 intro pins s σ H x y v u Q I rx ry h
 obtain⟨i,j,rfl,rfl,q⟩:=h
 obtain⟨t,rfl⟩:=rx
 obtain⟨t',rfl⟩:=ry
 exact rule i j t t' s _ _ ⟨.int (g i j),H,I.tok _,⟨_,rfl⟩,q⟩
theorem C0{f:Value->Value->Sem Value}{g:Int->Int->Bool}
  (rule:∀(i j:Int) (t u:Tok) (s:Shared) (Q:Value->Shared->Prop) (E:Value->Shared->Prop),Q (.bool (g i j)) s->wpAny (model X.prog X.w) X.A (f (.int i t) (.int j u)) Q E s):
  cR X f (iB fun i j=> .bl (g i j)):=by
 intro pins s σ H x y v u Q I rx ry h
 obtain⟨i,j,rfl,rfl,q⟩:=h
 obtain⟨t,rfl⟩:=rx
 obtain⟨t',rfl⟩:=ry
 exact rule i j t t' s _ _ ⟨.bl (g i j),H,I,rfl,q⟩
def Bp(i j:Int):Prop:=0<=j/\j<=1000000/\i.natAbs<2^64
def vf(i j:Int):Prop:=(-(2^64)<i/\i<2^64)\/(-(2^64)<j/\j<2^64)
theorem vf.ok{i j:Int}(h:vf i j):IntMulOk i j:=by
 rcases h with ⟨h1,h2⟩|⟨h1,h2⟩
 ·exact .of_left (intBits_le_64 h1 h2)
 ·exact .of_right (intBits_le_64 h1 h2)
theorem eK:cR X (binaryOp .Add) (iB fun i j=> .int (i+j)):=JG fun _ _ _ _ _ _ _ q=>add_int q
theorem mw:cR X (binaryOp .Sub) (iB fun i j=> .int (i-j)):=JG fun _ _ _ _ _ _ _ q=>sub_int q
theorem iU:cR X (binaryOp .Mod) (rI (fun _ j=>0<j) fun i j=> .int (i%j)):=vE fun i j _ _ _ _ _ hc q=>by
 have h1:(0:Int)<j:=hc
 exact mod_int' (by omega) (by rw[Int.fmod_eq_emod_of_nonneg i (by omega)];exact q)
theorem Gn:cR X (binaryOp .Pow) (rI Bp fun i j=> .int (i^j.toNat)):=vE fun _ _ _ _ _ _ _ hc q=>pow_int_small hc.1 hc.2.1 hc.2.2 q
theorem K9{f:Value->Sem Value}{g:Int->Int}
  (rule:∀(i:Int) (t:Tok) (s:Shared) (Q:Value->Shared->Prop) (E:Value->Shared->Prop),Q (.int (g i) s.toks) {s with toks:=s.toks+1}->wpAny (model X.prog X.w) X.A (f (.int i t)) Q E s):
  yY X f (rU fun i=> .int (g i)):=by
 intro pins s σ H x v Q I rx h
 obtain⟨i,rfl,q⟩:=h
 obtain⟨t,rfl⟩:=rx
 exact rule i t s _ _ ⟨.int (g i),H,I.tok _,⟨_,rfl⟩,q⟩
theorem Ik:yY X (unaryOp .USub) (rU fun i=> .int (-i)):=K9 fun _ _ _ _ _ q=>neg_int q
end
def CV:V->V->Bool
 | .aC, .aC=>true| .aC, .int _=>true| .int _, .aC=>true| .aC, .bl _=>true| .bl _, .aC=>true| .aC, .str _=>true| .str _, .aC=>true
 | .int _, .int _=>true| .bl _, .bl _=>true| .str _, .str _=>true| .iC _, .iC _=>true
 | .int _, .str _=>true| .str _, .int _=>true| .bl _, .str _=>true| .str _, .bl _=>true
 |_,_=>false
def yS:R2:=fun x y H Q=>CV x y=true/\Q (.bl (decide (x=y))) H
def C2:R2:=fun x y H Q=>CV x y=true/\Q (.bl (!decide (x=y))) H
theorem Jf{i j:Int}:decide (V.int i=V.int j)=(i==j):=by
 rw[jS]
 simp
theorem IS{i j:Bool}:decide (V.bl i=V.bl j)=(i==j):=by
 rw[jS]
 simp
theorem D8{i j:Str}:decide (V.str i=V.str j)=(i==j):=by
 rw[jS]
 simp
theorem Eo{i j:Array UInt8}:decide (V.iC i=V.iC j)=(i.toList==j.toList):=by
 rw[jS]
 cases i
 cases j
 simp
section
variable{X:Cx}{a b c:Expr}{ta tb tc:TE}{pos:Pos}
theorem cJ{pins:List (Addr×Obj)}{σ:St}{H:Hp}{s:Shared}{Q:VK}{k k':Bool}(I:Inv X pins σ H s)(q:Q (.bl k) H)(e:k=k'):EP X pins σ Q (.bool k') s:=by
 subst e
 exact⟨.bl k,H,I,rfl,q⟩
theorem jf:cR X (compareOp .Eq) yS:=by
  intro pins s σ H x y v u Q I rx ry h
  obtain⟨hs,q⟩:=h
  cases x with
  | aC =>
    cases rx
    cases y with
    |aC=>cases ry;exact PySem.EqNone.eq_none_none (cJ I q (by simp))
    |bl j=>cases ry;exact PySem.EqNone.eq_none_bool (cJ I q (by simp))
    |int j=>obtain⟨t',rfl⟩:=ry;exact PySem.EqNone.eq_none_int (cJ I q (by simp))
    |str j=>obtain⟨t',rfl⟩:=ry;exact PySem.EqNone.eq_none_str (cJ I q (by simp))
    |_=>exact absurd (show false=true from hs) bq
  | bl i =>
    cases rx
    cases y with
    |aC=>cases ry;exact PySem.EqNone.eq_bool_none (cJ I q (by simp))
    |bl j=>cases ry;exact eq_bool (cJ I q IS)
    |str j=>obtain⟨t',rfl⟩:=ry;exact PySem.EqMixed.eq_bool_str (cJ I q (by simp))
    |_=>exact absurd (show false=true from hs) bq
  | int i =>
    obtain⟨t,rfl⟩:=rx
    cases y with
    |aC=>cases ry;exact PySem.EqNone.eq_int_none (cJ I q (by simp))
    |int j=>obtain⟨t',rfl⟩:=ry;exact eq_int (cJ I q Jf)
    |str j=>obtain⟨t',rfl⟩:=ry;exact PySem.EqMixed.eq_int_str (cJ I q (by simp))
    |_=>exact absurd (show false=true from hs) bq
  | str i =>
    obtain⟨t,rfl⟩:=rx
    cases y with
    |aC=>cases ry;exact PySem.EqNone.eq_str_none (cJ I q (by simp))
    |bl j=>cases ry;exact PySem.EqMixed.eq_str_bool (cJ I q (by simp))
    |int j=>obtain⟨t',rfl⟩:=ry;exact PySem.EqMixed.eq_str_int (cJ I q (by simp))
    |str j=>obtain⟨t',rfl⟩:=ry;exact eq_str (cJ I q D8)
    |_=>exact absurd (show false=true from hs) bq
  | iC i =>
    obtain⟨t,rfl⟩:=rx
    cases y with
    |iC j=>obtain⟨t',rfl⟩:=ry;exact PySem.W.eq_bytes (cJ I q Eo)
    |_=>exact absurd (show false=true from hs) bq
  |_=>cases y<;>exact absurd (show false=true from hs) bq
theorem lU:cR X (compareOp .NotEq) C2:=by
  intro pins s σ H x y v u Q I rx ry h
  obtain⟨hs,q⟩:=h
  cases x with
  | aC =>
    cases rx
    cases y with
    |aC=>cases ry;exact PySem.EqNone.ne_none_none (cJ I q (by simp))
    |bl j=>cases ry;exact PySem.EqNone.ne_none_bool (cJ I q (by simp))
    |int j=>obtain⟨t',rfl⟩:=ry;exact PySem.EqNone.ne_none_int (cJ I q (by simp))
    |str j=>obtain⟨t',rfl⟩:=ry;exact PySem.EqNone.ne_none_str (cJ I q (by simp))
    |_=>exact absurd (show false=true from hs) bq
  | bl i =>
    cases rx
    cases y with
    |aC=>cases ry;exact PySem.EqNone.ne_bool_none (cJ I q (by simp))
    |bl j=>cases ry;exact ne_bool (cJ I q (congrArg not IS))
    |str j=>obtain⟨t',rfl⟩:=ry;exact PySem.EqMixed.ne_bool_str (cJ I q (by simp))
    |_=>exact absurd (show false=true from hs) bq
  | int i =>
    obtain⟨t,rfl⟩:=rx
    cases y with
    |aC=>cases ry;exact PySem.EqNone.ne_int_none (cJ I q (by simp))
    |int j=>obtain⟨t',rfl⟩:=ry;exact ne_int (cJ I q (congrArg not Jf))
    |str j=>obtain⟨t',rfl⟩:=ry;exact PySem.EqMixed.ne_int_str (cJ I q (by simp))
    |_=>exact absurd (show false=true from hs) bq
  | str i =>
    obtain⟨t,rfl⟩:=rx
    cases y with
    |aC=>cases ry;exact PySem.EqNone.ne_str_none (cJ I q (by simp))
    |bl j=>cases ry;exact PySem.EqMixed.ne_str_bool (cJ I q (by simp))
    |int j=>obtain⟨t',rfl⟩:=ry;exact PySem.EqMixed.ne_str_int (cJ I q (by simp))
    |str j=>obtain⟨t',rfl⟩:=ry;exact ne_str (cJ I q (congrArg not D8))
    |_=>exact absurd (show false=true from hs) bq
  | iC i =>
    obtain⟨t,rfl⟩:=rx
    cases y with
    |iC j=>obtain⟨t',rfl⟩:=ry;exact PySem.W.ne_bytes (cJ I q (congrArg not Eo))
    |_=>exact absurd (show false=true from hs) bq
  |_=>cases y<;>exact absurd (show false=true from hs) bq
theorem Ef:cR X (compareOp .Lt) (iB fun i j=> .bl (decide (i<j))):=C0 fun _ _ _ _ _ _ _ q=>lt_int q
theorem GI:cR X (compareOp .LtE) (iB fun i j=> .bl (decide (i<=j))):=C0 fun _ _ _ _ _ _ _ q=>le_int q
theorem Et:cR X (compareOp .Gt) (iB fun i j=> .bl (decide (j<i))):=C0 fun _ _ _ _ _ _ _ q=>gt_int q
theorem Vd:cR X (compareOp .Is) (fun x y H Q=>y= .aC/\Q (.bl (decide (x= .aC))) H):=by
 intro pins s σ H x y v u Q I rx ry h
 obtain⟨rfl,q⟩:=h
 cases ry
 refine is_none_gen (cJ I q ?_)
 cases x<;>first
  |(cases rx;rfl)
  |(obtain⟨t,rfl⟩:=rx;rfl)
theorem WA:cR X (compareOp .IsNot) (fun x y H Q=>y= .aC/\Q (.bl (!decide (x= .aC))) H):=by
 intro pins s σ H x y v u Q I rx ry h
 obtain⟨rfl,q⟩:=h
 cases ry
 refine isnot_none_gen (cJ I q ?_)
 cases x<;>first
  |(cases rx;rfl)
  |(obtain⟨t,rfl⟩:=rx;rfl)
theorem bM(b:Expr){op:CmpOp}(h:op≠ .In:=by decide)(h2:op≠ .NotIn:=by decide):behindInMarks op b=false:=by
 have e1:(op==CmpOp.In)=false:=by cases op<;>first|rfl|exact absurd rfl h
 have e2:(op==CmpOp.NotIn)=false:=by cases op<;>first|rfl|exact absurd rfl h2
 cases b<;>simp[behindInMarks,e1,e2]
theorem lV{op:CmpOp}{r:R2}(ho:cR X (compareOp op) r)(ha:PE X a ta)(hb:PE X b tb)(hm:behindInMarks op b=false):PE X (.Compare a [op] [b] pos) (dD r ta tb):=by
 intro pins s σ H Q I h
 exact wpAny_Compare1 (AN ha hb I h fun v u s2 x y H2 I2 rx ry q=>ho pins s2 σ H2 x y v u Q I2 rx ry q) hm
def xg(t:TE):TT:=fun σ H Q=>t σ H fun x H'=>∃k,x= .bl k/\Q k H'
theorem cM{op:CmpOp}{r:R2}(ho:cR X (compareOp op) r)(ha:PE X a ta)(hb:PE X b tb)(hm:behindInMarks op b=false):PT X (.Compare a [op] [b] pos) (xg (dD r ta tb)):=by
 intro pins s σ H Q I h
 refine wpAny_isTrue_Compare1 (aH (ha pins s σ H _ I h) fun v s1 ⟨x,H1,I1,r1,q1⟩=>aH (hb pins s1 σ H1 _ I1 q1) fun u s2 ⟨y,H2,I2,r2,q2⟩=>
  aH (ho pins s2 σ H2 x y v u _ I2 r1 r2 q2) fun c s3 ⟨z,H3,I3,r3,k,e,q3⟩=>?_) hm
 subst e
 cases r3
 exact wpAny_truthy_bool ⟨H3,I3,q3⟩
def xh(K:PySem.W.Frag)(x:V)(H:Hp)(k:Bool):Prop:=
 match x with
 | .aC=>k=false
 | .bl b=>k=b
 | .int i=>k=(i !=0)
 | .str y=>y.length<=sizeLine/\k=((y.length:Int) !=0)
 | .iC y=>y.size<=sizeLine/\k=((y.size:Int) !=0)
 | .ref p=>(∃xs,aS K H p xs/\k=!xs.isEmpty)\/(∃xs,fO K H p xs/\k=!xs.isEmpty)\/∃kvs,H p=some (.dK kvs)/\k=!kvs.isEmpty
 |_=>False
theorem VM{κ:Type}{kvs:List (κ×V)}{vs:List (κ×Value)}(r:KV kvs vs):(!vs.isEmpty)=!kvs.isEmpty:=by
 cases r<;>rfl
theorem Dv{xs:List V}{its:List Value}(r:Vals xs its):(!its.toArray.isEmpty)=!xs.isEmpty:=by
 cases r<;>simp
theorem oj:(sizeLine:Nat)<2^63:=by rw[sizeLine_eq];decide
theorem TH:OZ X (fun x H Q=>∃k,xh X.K x H k/\Q k H):=by
  intro pins s σ H x v Q I rx h
  obtain⟨k,e,q⟩:=h
  have hl:=oj
  have hs:sizeLine=16777216:=sizeLine_eq
  cases x with
  | aC =>
    cases rx
    have e':k=false:=e
    subst e'
    exact truthy_none ⟨H,I,q⟩
  | bl b =>
    cases rx
    have e':k=b:=e
    subst e'
    exact wpAny_truthy_bool ⟨H,I,q⟩
  | int i =>
    obtain⟨t,rfl⟩:=rx
    have e':k=(i !=0):=e
    subst e'
    exact PySem.P.truthy_int ⟨H,I,q⟩
  | str y =>
    obtain⟨t,rfl⟩:=rx
    obtain⟨hy,e'⟩:y.length<=sizeLine/\k=((y.length:Int) !=0):=e
    subst e'
    exact PySem.P.truthy_str (by omega) ⟨H,I.tok _,q⟩
  | iC y =>
    obtain⟨t,rfl⟩:=rx
    obtain⟨hy,e'⟩:y.size<=sizeLine/\k=((y.size:Int) !=0):=e
    subst e'
    exact PySem.W.truthy_bytes (by omega) ⟨H,I.tok _,q⟩
  | ref p =>
    cases rx
    have e':(∃xs,aS X.K H p xs/\k=!xs.isEmpty)\/(∃xs,fO X.K H p xs/\k=!xs.isEmpty)\/∃kvs,H p=some (.dK kvs)/\k=!kvs.isEmpty:=e
    rcases e' with ⟨xs,hx,e'⟩|⟨xs,hx,e'⟩|⟨kvs,hx,e'⟩
    · subst e'
      obtain⟨its,r,pl,hz⟩:=I.list hx
      have hlen:=r.length
      exact wpAny_truthy_list pl.isList (by simp only[dg];omega) ⟨H,I.tok _,by rw[Dv r];exact q⟩
    · subst e'
      obtain⟨its,r,pl,hz⟩:=I.tuple hx
      have hlen:=r.length
      exact truthy_tuple pl (by simp only[dg];omega) ⟨H,I.tok _,by rw[Dv r];exact q⟩
    · subst e'
      obtain⟨hz,hS,vs,r,m⟩:kvs.length<=sizeLine/\(p==sysModules)=false/\∃vs,KV kvs vs/\s.heap.DictOf (ig X.prog X.w) p vs:=I.hok p _ hx
      have hlen:kvs.length=vs.length:=Paired.length r
      exact wpAny_truthy_dict hS m (by omega) ⟨H,I.tok _,by rw[VM r];exact q⟩
  |_=>exact(show False from e).elim
theorem Wc(ha:PE X a ta)(he:∀whole,isTrue a X.env whole=(do let v<-whole;standAt a.pos;holding [v] (truthy v))):
  PT X a (fun σ H Q=>ta σ H fun x H'=>∃k,xh X.K x H' k/\Q k H'):=by
 intro pins s σ H Q I h
 exact isTrue_plain (aH (ha pins s σ H _ I h) fun v s1 ⟨x,H1,I1,r1,q1⟩=>TH pins s1 σ H1 x v Q I1 r1 q1) (he _)
theorem vals1{x:V}{us:List Value}(r:Vals [x] us):∃u,us=[u]/\RelV x u:=by
 cases r with
 |cons r1 r2=>cases r2;exact⟨_,rfl,r1⟩
theorem vals2{x y:V}{us:List Value}(r:Vals [x,y] us):∃u w',us=[u,w']/\RelV x u/\RelV y w':=by
  cases r with
  | cons r1 r2 =>
    cases r2 with
    |cons r3 r4=>cases r4;exact⟨_,_,rfl,r1,r3⟩
theorem NS:fW X (.builtin "abs") (fun xs H Q=>∃i,xs=[.int i]/\Q (.int (if i<0 then-i else i)) H):=by
 intro pins s σ H xs us Q I r h
 obtain⟨i,rfl,q⟩:=h
 obtain⟨u,rfl,t,rfl⟩:=vals1 r
 exact call_abs_int fun u tk=>⟨.int (if i<0 then-i else i),H,I.tok _,⟨_,rfl⟩,q⟩
theorem RW(hc:X.calm=true):fW X (.builtin "min") (fun xs H Q=>∃i j,xs=[.int i, .int j]/\Q (.int (if j<i then j else i)) H):=by
 intro pins s σ H xs us Q I r h
 obtain⟨i,j,rfl,q⟩:=h
 obtain⟨u,w',rfl,⟨t,rfl⟩,⟨t',rfl⟩⟩:=vals2 r
 refine min_two_ints (I.ok.hd hc) fun h' tk k=>⟨_,H,I.kept k,?_,q⟩
 by_cases hj:j<i
 ·rw[if_pos hj,if_pos hj];exact⟨_,rfl⟩
 ·rw[if_neg hj,if_neg hj];exact⟨_,rfl⟩
theorem MB:fW X (.type "int") (fun xs H Q=>(∃i,xs=[.int i]/\Q (.int i) H)\/∃k,xs=[.bl k]/\Q (.int (if k then 1 else 0)) H):=by
 intro pins s σ H xs us Q I r h
 rcases h with ⟨i,rfl,q⟩|⟨k,rfl,q⟩
 ·obtain⟨u,rfl,t,rfl⟩:=vals1 r
  exact call_int_int ⟨.int i,H,I,⟨_,rfl⟩,q⟩
 ·obtain⟨u,rfl,r1⟩:=vals1 r
  cases r1
  exact call_int_bool ⟨.int (if k then 1 else 0),H,I.tok _,⟨_,rfl⟩,q⟩
end
structure nY(h:Heap)(x dx C:Addr)(mA:Str->Option Value):Prop where
 obj:h.get? x=some (PySem.W.instObj C dx)
 ns:h.Ns1 dx mA
 ne:dx≠x
theorem LD{h:Heap}{dx:Addr}{mA:Str->Option Value}(n:h.Ns1 dx mA):∃od,h.get? dx=some od/\∀name,PySem.W.lookIn name od=some (mA name):=by
 obtain⟨o,es,ep,ho,hd,hk,_,hm⟩:=n
 refine⟨o,ho,fun name=>?_⟩
 have e:=hm name
 unfold nsFind findBy at e
 rw[<-Array.find?_toList] at e
 unfold PySem.W.lookIn
 rw[hd]
 dsimp only
 split
 ·rename_i y q
  rw[q] at e
  exact congrArg some e
 ·rename_i q
  rw[q] at e
  have a:es.toList.any (·.refKey)=false:=by
   rw[List.any_eq_false]
   intro y hy
   obtain⟨z,t,hkey⟩:=hk y (u9.mp hy)
   simp[DictEntry.refKey,hkey]
  have a':¬es.toList.any (·.refKey)=true:=by rw[a];exact bq
  rw[if_neg a']
  exact congrArg some e
theorem nY.look{h:Heap}{x dx C:Addr}{mA:Str->Option Value}(I:nY h x dx C mA):∃od,PySem.W.InstAt h x (PySem.W.instObj C dx) C (some od)/\∀name,PySem.W.lookIn name od=some (mA name):=
 let ⟨od,ho,hl⟩:=LD I.ns
 ⟨od,⟨I.obj,rfl,rfl,ho⟩,hl⟩
section
variable{prog:Program}{w:World}{A:Around}{E:Value->Shared->Prop}{s:Shared}{K:PySem.W.Frag}{x dx C f:Addr}{mA:Str->Option Value}{name:Str}{v:Value}
theorem get_map{expr:Bool}{Q:Value->Shared->Prop}(X:K.In s.heap)(I:nY s.heap x dx C mA)(hg:PySem.W.plainGet K C name=true)(hh:PySem.W.hasDictIn K C=true)
  (ha:PySem.W.findIn K (.ref C) name=some none) (hv:mA name=some v) (hv':PySem.W.handedIn v=true) (h:Q v {s with toks:=s.toks+1}):
  wpAny (model prog w) A (getAttr (.ref x) name expr) Q E s:=by
 obtain⟨od,J,hl⟩:=I.look
 exact PySem.W.get_value X J (Bf hg).1 (PySem.W.findObj_own hh ha rfl (by rw[hl,hv])) hv' h
theorem JR{pl:Sem Bool}{Q:Value×List Value->Shared->Prop}(X:K.In s.heap)(I:nY s.heap x dx C mA)(hg:PySem.W.plainGet K C name=true)
  (hf:PySem.W.findIn K (.ref C) name=some (some (.ref f))) (ht:PySem.W.isFn K (.ref f)=true) (hv:mA name=none) (h:Q (.ref f,[.ref x]) s):
  wpAny (model prog w) A (getMethod (.ref x) name pl) Q E s:=by
 obtain⟨od,J,hl⟩:=I.look
 exact PySem.W.method_fn X J (Bf hg).1 (Bf hg).2 hf (beq_iff_eq.mp ht) (by show(PySem.W.lookIn name od).map (·.isSome)=some false;rw[hl,hv];rfl) h
theorem Po{ns:List Str}{Q:Unit->Shared->Prop}(X:K.In s.heap)(I:nY s.heap x dx C mA)
  (hs:PySem.W.findIn K (.ref C) "__setattr__"=some (some (.builtin "object.__setattr__"))) (hp:PySem.W.plainOver K C=true) (ht:PySem.W.takerIn K C name=some none) (hh:PySem.W.hasDictIn K C=true)
  (hw:PySem.Within mA ns) (hsz:ns.length<=sizeLine)
  (h:∀h',nY h' x dx C (fun y=>if y=name then some v else mA y)->Heap.SameBut dx s.heap h'->Q () {s with heap:=h',toks:=s.toks+2}):
  wpAny (model prog w) A (setAttr (.ref x) name v) Q E s:=by
 obtain⟨od,J,hl⟩:=I.look
 refine PySem.W.set_plain X J hs (PySem.W.osa_open (s:={s with toks:=s.toks+1}) (r:=none) X J hp ht fun b=>?_)
 obtain⟨cd,hc,hd'⟩:=PySem.W.any_some hh
 have hx:s.heap.get? x=some ⟨.ref C,some dx, .plain,#[]⟩:=I.obj
 refine wpAny_bind (wpAny_pure (wpAny_bind (wpAny_bind (wpAny_loadPart hx (wpAny_bind (PySem.W.Looks.here (s:={s with toks:=s.toks+1}) (PySem.W.looks_clsIn X hc) ?_))))))
 rw[hd']
 refine wpAny_pure (a:=some dx) (wpAny_bind (wpAny_pure (wpAny_bind ?_)))
 refine wpAny_nsSet1 (s:={s with toks:=s.toks+1}) I.ns fun h' hn2 hs2=>?_
 obtain⟨oD,esD,WQ,Tw,Kg,QV⟩:=hn2.count (PySem.Within.cons name v hw)
 refine wpAny_bind (wpAny_lookBehind Tw (by rw[Kg];exact pastItsLine_dict (fq QV (by rw[eB];omega))) ?_)
 exact wpAny_pure (h _ ⟨(hs2.2 _ (bJ I.ne)).trans I.obj,hn2,I.ne⟩ hs2)
theorem Qp{R:Result->Shared->Prop}{vs:List Value}{kw:List (Str×Value)}(X:K.In s.heap)(hm:PySem.W.makesIn K C=true)
  (hi:PySem.W.findIn K (.ref C) "__init__"=some (some (.ref f))) (hf:PySem.W.typeIn K (.ref f)=some (.type "function"))
  (h : codeAny (model prog w) (A.under (.builtin "type.__call__" ⟨.ref C :: vs, kw⟩)) (.call (.ref f) ⟨.ref (s.heap.objs.size + 1) :: vs, kw⟩) (PySem.W.InitBack (s.heap.objs.size + 1) R)
   {s with heap:=(s.heap.push PySem.W.emptyDict).push (PySem.W.instObj C s.heap.objs.size)}):
  codeAny (model prog w) A (.call (.ref C) ⟨vs,kw⟩) R s:=by
 obtain⟨hh,g,d,t,os⟩:=s
 exact PySem.W.make_core (PySem.W.makes_of X hm) (PySem.W.looks_findIn X hi) (fun self=>PySem.W.bind_fn X self hf) (.inl rfl) h
end
def fc(f:Str)(v:V):List (Str×V)->List (Str×V)
 |[]=>[(f,v)]
 |(g,x)::r=>if g=f then(g,v)::r else(g,x)::fc f v r
theorem ID(f g:Str)(v:V):∀fs:List (Str×V),(fc f v fs).lookup g=if g=f then some v else fs.lookup g
  | [] => by
    show List.lookup g [(f,v)]=_
    by_cases h:g=f
    · have hb:(g==f)=true:=beq_iff_eq.mpr h
      simp only[List.lookup,hb,if_pos h]
    · have hb:(g==f)=false:=beq_eq_false_iff_ne.mpr h
      simp only[List.lookup,hb,if_neg h]
  | (k, x) :: r => by
    have ih:=ID f g v r
    rw[show fc f v ((k,x)::r)=(if k=f then(k,v)::r else(k,x)::fc f v r) from rfl]
    by_cases hk:k=f
    · rw[if_pos hk]
      by_cases h:g=k
      · have hb:(g==k)=true:=beq_iff_eq.mpr h
        simp only[List.lookup,hb,if_pos (h.trans hk)]
      · have hb:(g==k)=false:=beq_eq_false_iff_ne.mpr h
        simp only[List.lookup,hb,if_neg (fun e:g=f=>h (e.trans hk.symm))]
    · rw[if_neg hk]
      by_cases h:g=k
      · have hb:(g==k)=true:=beq_iff_eq.mpr h
        simp only[List.lookup,hb,if_neg (fun e:g=f=>hk (h.symm.trans e))]
      · have hb:(g==k)=false:=beq_eq_false_iff_ne.mpr h
        simp only[List.lookup,hb]
        exact ih
theorem BA(f:Str)(v:V):∀fs:List (Str×V),f∈(fc f v fs).map (·.1)/\∀g,g∈fs.map (·.1)->g∈(fc f v fs).map (·.1)
  |[]=>⟨by simp[fc],fun g h=>by simp at h⟩
  | (k, x) :: r => by
    obtain⟨i1,i2⟩:=BA f v r
    rw[show fc f v ((k,x)::r)=(if k=f then(k,v)::r else(k,x)::fc f v r) from rfl]
    by_cases hk:k=f
    · rw[if_pos hk]
      subst hk
      exact⟨by simp,fun g h=>by simpa using h⟩
    · rw[if_neg hk]
      refine⟨?_,fun g h=>?_⟩
      · rw[bx]
        exact cH _ i1
      · rw[bx] at h⊢
        rcases aG.mp h with e|e
        · exact aG.mpr (.inl e)
        · exact cH _ (i2 g e)
theorem Jy(f:Str)(v:V):∀fs:List (Str×V),(fc f v fs).length<=fs.length+1
  |[]=>by simp[fc]
  | (k, x) :: r => by
    have ih:=Jy f v r
    rw[show fc f v ((k,x)::r)=(if k=f then(k,v)::r else(k,x)::fc f v r) from rfl]
    by_cases hk:k=f
    · rw[if_pos hk,eB,eB];omega
    · rw[if_neg hk,eB,eB];omega
theorem gW.some_of{v:V}{o:Option Value}(r:gW (some v) o):∃u,o=some u/\RelV v u:=by
 cases o with
 |none=>exact(show False from r).elim
 |some u=>exact⟨u,rfl,r⟩
theorem gW.none_of{o:Option Value}(r:gW none o):o=none:=by
 cases o with
 |none=>rfl
 |some u=>exact(show False from r).elim
theorem LF{v:V}{u:Value}(r:RelV v u):PySem.W.handedIn u=true:=by
 cases v with
 |aC=>cases (show u=Value.none from r);rfl
 |bl b=>cases (show u=Value.bool b from r);rfl
 |int i=>obtain⟨t,e⟩:=(show∃t,u=Value.int i t from r);cases e;rfl
 |str x=>obtain⟨t,e⟩:=(show∃t,u=Value.str x t from r);cases e;rfl
 |iC b=>obtain⟨t,e⟩:=(show∃t,u=Value.bytes b t from r);cases e;rfl
 |j7 b=>obtain⟨t,e⟩:=(show∃t,u=Value.float b t from r);cases e;rfl
 |ref a=>cases (show u=Value.ref a from r);rfl
 |ty n=>cases (show u=Value.type n from r);rfl
section
variable{P:Program}{w:World}{H H':Hp}{h h':Heap}{a C dx:Addr}{fs fs':List (Str×V)}
theorem sW(hok:cT P w H h)(e:H a=some (.ins C dx fs)):∃mA,nY h a dx C mA/\(∀f,gW (fs.lookup f) (mA f))/\PySem.Within mA (fs.map (·.1))/\fs.length<=1000/\H dx=some (.own a):=by
 obtain⟨d,z,ne,ob,mA,n,r,q⟩:=(show cA P w H h a (.ins C dx fs) from hok a _ e)
 exact⟨mA,⟨ob,n,ne⟩,r,q,z,d⟩
end
structure ez(K:PySem.W.Frag)(C:Addr):Prop where
 pg:PySem.W.plainGet K C Str.empty=true
 hd:PySem.W.hasDictIn K C=true
 po:PySem.W.plainOver K C=true
 sa:PySem.W.findIn K (.ref C) "__setattr__"=some (some (.builtin "object.__setattr__"))
theorem ez.get{K:PySem.W.Frag}{C:Addr}(c:ez K C)(f:Str):PySem.W.plainGet K C f=true:=c.pg
def gc(K:PySem.W.Frag)(C:Addr)(f:Str):Prop:=PySem.W.findIn K (.ref C) f=some none
theorem gc.KY{K:PySem.W.Frag}{C:Addr}{f:Str}(n:gc K C f):PySem.W.takerIn K C f=some none:=by
 unfold PySem.W.takerIn
 rw[show PySem.W.findIn K (.ref C) f=some none from n]
 rfl
structure Meth(K:PySem.W.Frag)(C:Addr)(m:Str)(f:Addr):Prop where
 at_:PySem.W.findIn K (.ref C) m=some (some (.ref f))
 fn:PySem.W.isFn K (.ref f)=true
 kp:PySem.W.keepIn K (.ref f)=true
section
variable{X:Cx}{pins:List (Addr×Obj)}{σ:St}{H:Hp}{s:Shared}{a C dx:Addr}{fs:List (Str×V)}{f:Str}{v:V}{A:Around}{E:Value->Shared->Prop}
theorem OV{b:Bool}{Q:Value->Shared->Prop}(I:Inv X pins σ H s)(e:H a=some (.ins C dx fs))(c:ez X.K C)(n:gc X.K C f)(l:fs.lookup f=some v)
  (h:∀u s',Inv X pins σ H s'->RelV v u->Q u s'):wpAny (model X.prog X.w) A (getAttr (.ref a) f b) Q E s:=by
 obtain⟨mA,O,r,_,_,_⟩:=sW I.hok e
 obtain⟨u,hu,ru⟩:=gW.some_of (v:=v) (o:=mA f) (by rw[<-l];exact r f)
 exact get_map I.cC O (c.get f) c.hd n hu (LF ru) (h u _ (I.tok _) ru)
theorem zh{m:Str}{g:Addr}{pl:Sem Bool}{Q:Value×List Value->Shared->Prop}(I:Inv X pins σ H s)(e:H a=some (.ins C dx fs))(c:ez X.K C)(k:Meth X.K C m g)(l:fs.lookup m=none)
  (h:Q (.ref g,[.ref a]) s):wpAny (model X.prog X.w) A (getMethod (.ref a) m pl) Q E s:=by
 obtain⟨mA,O,r,_,_,_⟩:=sW I.hok e
 have hn:mA m=none:=gW.none_of (by rw[<-l];exact r m)
 exact JR I.cC O (c.get m) k.at_ k.fn hn h
theorem Uk{y:V}{u:Value}{Q:Unit->Shared->Prop}(I:Inv X pins σ H s)(e:H a=some (.ins C dx fs))(c:ez X.K C)(n:gc X.K C f)(hl:fs.length<1000)(ry:RelV y u)
  (h:∀s',Inv X pins σ (upd H a (.ins C dx (fc f y fs))) s'->Q () s'):wpAny (model X.prog X.w) A (setAttr (.ref a) f u) Q E s:=by
 obtain⟨mA,O,r,wi,_,ho⟩:=sW I.hok e
 have hz:(fs.map (·.1)).length<=sizeLine:=by rw[ak,sizeLine_eq];omega
 refine Po I.cC O c.sa c.po n.KY c.hd wi hz fun h' O' sb=>h _ ?_
 have hd:∃o,h'.get? dx=some o:=let ⟨o,_,_,e',_⟩:=O'.ns;⟨o,e'⟩
 refine I.write (x:=a) (e:=dx) (by rw[e];exact True.intro) (.inr ho) (fun b q hb z=>(sb.2 b hb).trans z) hd ?_
 refine⟨by rw[aX O.ne];exact ho,?_,O.ne,O'.obj,_,O'.ns,fun g=>?_,fun g hg=>?_⟩
 ·have:=Jy f y fs;omega
 ·show gW ((fc f y fs).lookup g) (if g=f then some u else mA g)
  rw[ID]
  by_cases q:g=f
  ·rw[if_pos q,if_pos q];exact ry
  ·rw[if_neg q,if_neg q];exact r g
 ·by_cases q:g=f
  ·rw[q];exact(BA f y fs).1
  ·refine(BA f y fs).2 g (wi g fun z=>hg ?_)
   show(if g=f then some u else mA g)=none
   rw[if_neg q];exact z
theorem Inv.made(I:Inv X pins σ H s):Inv X pins σ (upd (upd H s.heap.objs.size (.own (s.heap.objs.size+1))) (s.heap.objs.size+1) (.ins C s.heap.objs.size []))
  {s with heap:=(s.heap.push PySem.W.emptyDict).push (PySem.W.instObj C s.heap.objs.size)}:=by
 have e1:(s.heap.push PySem.W.emptyDict).get? s.heap.objs.size=some PySem.W.emptyDict:=fP s.heap rfl
 have e2:((s.heap.push PySem.W.emptyDict).push (PySem.W.instObj C s.heap.objs.size)).get? (s.heap.objs.size+1)=some (PySem.W.instObj C s.heap.objs.size):=by
  have:=fP (s.heap.push PySem.W.emptyDict) (o:=PySem.W.instObj C s.heap.objs.size) rfl
  rwa[j6] at this
 have e3:(s.heap.push PySem.W.emptyDict).Ns s.heap.objs.size (fun _=>none):=⟨PySem.W.emptyDict,#[],_,e1,rfl,(fun e he=>absurd he (by simp)),fun _=>rfl⟩
 have I1:=I.laid (a:=s.heap.objs.size) (o:= .own (s.heap.objs.size+1)) (h':=s.heap.push PySem.W.emptyDict) (t':=s.toks) (fun b u q=>bQ _ q) (aF _) ⟨_,e1⟩
 refine I1.laid (a:=s.heap.objs.size+1) (o:= .ins C s.heap.objs.size []) (t':=s.toks) (fun b u q=>bQ _ q) (mz (j6 _ _)) ?_
 have ne:s.heap.objs.size≠s.heap.objs.size+1:=cW (nu _)
 refine⟨by rw[aX ne,bh],fG _,ne,e2,fun _=>none,(Heap.Ns1.of_empty e3).at fun o q=>bQ _ q,fun _=>True.intro,fun y hy=>absurd rfl hy⟩
theorem Tf{prog:Program}{w:World}{env:Env}{e:Expr}{f:Str}{pos:Pos}{s:Shared}{Q:Value->Shared->Prop}(hb:attributeBase e f env (eval e env)=eval e env)
  (h:wpAny (model prog w) A (eval e env) (fun o s₁=>wpAny (model prog w) A (getAttr o f true) Q E s₁) E s):wpAny (model prog w) A (eval (.Attribute e f pos) env) Q E s:=
 Attribute_any_ h (by rw[arm_eval_Attribute,hb])
end
def mO(K:PySem.W.Frag)(ta:TE)(f:Str):TE:=fun σ H Q=>ta σ H fun x H1=>∃a C dx fs v,x= .ref a/\H1 a=some (.ins C dx fs)/\ez K C/\gc K C f/\fs.lookup f=some v/\Q v H1
def zk(K:PySem.W.Frag)(ta tv:TE)(f:Str):TS:=fun D σ H=>tv σ H fun y H1=>ta σ H1 fun x H2=>∃a C dx fs,x= .ref a/\H2 a=some (.ins C dx fs)/\ez K C/\gc K C f/\fs.length<1000/\
 D.nx σ (upd H2 a (.ins C dx (fc f y fs)))
section
variable{X:Cx}{o e value:Expr}{f:Str}{pos pos' tpos:Pos}{ta tv:TE}
theorem tQ(he:PE X e ta)(hb:attributeBase e f X.env (eval e X.env)=eval e X.env):PE X (.Attribute e f pos) (mO X.K ta f):=by
 intro pins s σ H Q I h
 refine Tf hb (aH (he pins s σ H _ I h) fun u s1 ⟨x,H1,I1,rx,a,C,dx,fs,v,ex,ea,c,n,l,q⟩=>?_)
 subst ex
 obtain rfl:u=Value.ref a:=rx
 exact OV I1 ea c n l fun u' s2 I2 ru=>⟨v,H1,I2,ru,q⟩
theorem EB(ha:PE X o ta)(hv:PE X value tv)(hs:swapsWith value (some (.Attribute o f pos')) pos.line X.env=pure false):PS X (.Assign [.Attribute o f pos'] value pos) (zk X.K ta tv f):=by
 intro pins s σ H D I h
 refine plainObj_wpAny_Assign_Attribute (aH (hv pins s σ H _ I h) fun u s1 ⟨y,H1,I1,ry,q⟩=>aH (ha pins s1 σ H1 _ I1 q) fun ov s2 ⟨x,H2,I2,rx,a,C,dx,fs,ex,ea,c,n,l,q2⟩=>?_) hs
 subst ex
 obtain rfl:ov=Value.ref a:=rx
 exact Uk I2 ea c n l ry fun s3 I3=>⟨σ,_,I3,q2⟩
theorem WL{pl:Sem Bool}{m:Str}{apos:Pos}{args:List Expr}{pins:List (Addr×Obj)}{s:Shared}{σ:St}{H:Hp}{Q:Value->Shared->Prop}{te:TE}(he:PE X e te)(I:Inv X pins σ H s)
  (h : te σ H fun x H1 => ∃ a C dx fs g, x = .ref a /\ H1 a = some (.ins C dx fs) /\ ez X.K C /\ Meth X.K C m g /\ fs.lookup m = none /\
   ∀s1,Inv X pins σ H1 s1->wpAny (model X.prog X.w) X.A (callWith pos (.ref g) [.ref a] (backTo pos (starEach args X.env)) (backToKw pos (keywordEach [] X.env))) Q X.xe s1)
  (ht : eval (.Call (.Attribute e m apos) args [] pos) X.env = (do
   let ov<-eval e X.env
   standAt apos.atName
   let (f,first)<-holding [ov] (getMethod ov m pl)
   callWith pos f first (backTo pos (starEach args X.env)) (backToKw pos (keywordEach [] X.env)))):
  wpAny (model X.prog X.w) X.A (eval (.Call (.Attribute e m apos) args [] pos) X.env) Q X.xe s:=by
 refine xH (pl:=pl) (aH (he pins s σ H _ I h) fun u s1 ⟨x,H1,I1,rx,a,C,dx,fs,g,ex,ea,c,k,l,q⟩=>?_) ht
 subst ex
 obtain rfl:u=Value.ref a:=rx
 exact zh I1 ea c k l (q s1 I1)
end
section
variable{X:Cx}{pins:List (Addr×Obj)}{σ:St}{H:Hp}{s:Shared}{A:Around}{E:Value->Shared->Prop}{Q:Value->Shared->Prop}{c:Value}{b:Bool}
inductive gX(K:PySem.W.Frag)(H:Hp):V->Value->Prop where
 |aC:gX K H .aC (.type "NoneType")
 |bl (x:Bool):gX K H (.bl x) (.type "bool")
 |int (i:Int):gX K H (.int i) (.type "int")
 |str (x:Str):gX K H (.str x) (.type "str")
 |j7 (x:UInt64):gX K H (.j7 x) (.type "float")
 |lst {a:Addr} {xs:List V} (e:H a=some (.lst xs)):gX K H (.ref a) (.type "list")
 |gm {a:Addr} {o:Obj} {xs:List V} (e:H a=some (.gm o (.lst xs))):gX K H (.ref a) (.type "list")
 |tup {a:Addr} {xs:List V} (e:H a=some (.tup xs)):gX K H (.ref a) (.type "tuple")
 |dK {a:Addr} {kvs:List (Key×V)} (e:H a=some (.dK kvs)):gX K H (.ref a) (.type "dict")
 |dT {a:Addr} {kvs:List (List Key×V)} (e:H a=some (.dT kvs)):gX K H (.ref a) (.type "dict")
 |DZ {a:Addr} {o:Obj} {kvs:List (Key×V)} (e:H a=some (.gm o (.dK kvs))):gX K H (.ref a) (.type "dict")
 | ins {a C dx : Addr} {fs : List (Str × V)} (e : H a = some (.ins C dx fs)) (cl : ez K C) (ha : PySem.W.findIn K (.ref C) "__class__" = some (some (.builtin "object.__class__")))
   (hn:PySem.W.specialIn K (.builtin "object.__class__") "__get__"=some (some (.builtin "getset_descriptor.__get__"))) (htk:PySem.W.takesIn K (.builtin "object.__class__")=some true)
   (hm:PySem.W.mroIn K C (.type "object")=some true):gX K H (.ref a) (.ref C)
theorem MJ{x:V}{u t:Value}(I:Inv X pins σ H s)(rx:RelV x u)(ty:gX X.K H x t)(e:PySem.W.kitOne X.K t c=some b)(h:∀tk,Q (.bool b) {s with toks:=tk}):
    wpAny (model X.prog X.w) A (call (.builtin "isinstance") [u,c]) Q E s:=by
  cases ty with
  |aC=>cases (show u=Value.none from rx);exact jq PySem.W.kitx_none I.cC True.intro e (fun z=>nomatch z) h
  |bl y=>cases (show u=Value.bool y from rx);exact jq PySem.W.kitx_bool I.cC True.intro e (fun z=>nomatch z) h
  |int i=>obtain⟨t,q⟩:=(show∃t,u=Value.int i t from rx);cases q;exact jq PySem.W.kitx_int I.cC True.intro e (fun z=>nomatch z) h
  |str y=>obtain⟨t,q⟩:=(show∃t,u=Value.str y t from rx);cases q;exact jq PySem.W.kitx_str I.cC True.intro e (fun z=>nomatch z) h
  |j7 y=>obtain⟨t,q⟩:=(show∃t,u=Value.float y t from rx);cases q;exact jq PySem.W.kitx_float I.cC True.intro e (fun z=>nomatch z) h
  | @lst a xs ea =>
    cases (show u=Value.ref a from rx)
    obtain⟨_,_,n,_,h1⟩:=(show cA X.prog X.w H s.heap a (.lst xs) from I.hok a _ ea)
    exact jq BO I.cC ⟨_,h1,rfl⟩ e (fun z=>nomatch z) h
  | @gm a ob xs ea =>
    cases (show u=Value.ref a from rx)
    obtain⟨_,_,_,n,_,h1⟩:=(show cA X.prog X.w H s.heap a (.gm ob (.lst xs)) from I.hok a _ ea)
    exact jq BO I.cC ⟨_,h1,rfl⟩ e (fun z=>nomatch z) h
  | @tup a xs ea =>
    cases (show u=Value.ref a from rx)
    obtain⟨_,_,_,p⟩:=(show cA X.prog X.w H s.heap a (.tup xs) from I.hok a _ ea)
    obtain⟨o,h1,h2,_⟩:=p
    exact jq PySem.W.kitx_tuple I.cC ⟨o,h1,h2⟩ e (fun z=>nomatch z) h
  | @dK a kvs ea =>
    cases (show u=Value.ref a from rx)
    obtain⟨_,_,vs,_,p⟩:=(show cA X.prog X.w H s.heap a (.dK kvs) from I.hok a _ ea)
    obtain⟨o,es,ep,h1,h2,_⟩:=p
    exact jq vg I.cC ⟨o,h1,h2.1⟩ e (fun z=>nomatch z) h
  | @dT a kvs ea =>
    cases (show u=Value.ref a from rx)
    obtain⟨_,_,xs,_,o,es,ep,h1,h2,_⟩:=(show cA X.prog X.w H s.heap a (.dT kvs) from I.hok a _ ea)
    exact jq vg I.cC ⟨o,h1,h2.1⟩ e (fun z=>nomatch z) h
  | @DZ a ob kvs ea =>
    cases (show u=Value.ref a from rx)
    obtain⟨_,_,_,vs,_,o,es,ep,h1,h2,_⟩:=I.hok a _ ea
    exact jq vg I.cC ⟨o,h1,h2.1⟩ e (fun z=>nomatch z) h
  | @ins a C dx fs ea cl ha hn htk hm =>
    cases (show u=Value.ref a from rx)
    obtain⟨mA,O,_⟩:=sW I.hok ea
    obtain⟨od,J,_⟩:=O.look
    exact jq (PySem.W.kitx_own (cl.get _) cl.hd ha hn htk hm) I.cC J e (fun z=>nomatch z) h
end
structure cX(k:Nat)(A:Around):Prop where
 hd:A.handled=none
 dp:A.depth+3*k+5<recursionLimit
 un:A.units+16*k+200<cLine
theorem cX.mono{j k:Nat}{A:Around}(r:cX k A)(h:j<=k):cX j A:=⟨r.hd,by have:=r.dp;omega,by have:=r.un;omega⟩
theorem cX.deeper{k:Nat}{A:Around}(r:cX (k+1) A)(env:Env):cX k (A.deeper env):=
 ⟨r.hd,by have:=r.dp;show A.depth+1+3*k+5<_;omega,by have:=r.un;show A.units+3+16*k+200<_;omega⟩
theorem Sx{A:Around}{C:Addr}{us:List Value}{kw:List (Str×Value)}:(A.under (.builtin "type.__call__" ⟨.ref C::us,kw⟩)).depth=A.depth+1:=by
 first|rfl|simp[Around.under,Code.weight,Code.isCreation,Code.isGuard,Code.isCaller,Code.frames,Code.isFrame,guardIds]
theorem Lh{A:Around}{C:Addr}{us:List Value}{kw:List (Str×Value)}:(A.under (.builtin "type.__call__" ⟨.ref C::us,kw⟩)).units=A.units+1:=by
 first|rfl|simp[Around.under,Code.cUnits,Code.frames,Code.isFrame]
theorem cX.make{k:Nat}{A:Around}(r:cX (k+1) A)(C:Addr)(us:List Value)(kw:List (Str×Value)):cX k (A.under (.builtin "type.__call__" ⟨.ref C::us,kw⟩)):=
 ⟨r.hd,by have:=r.dp;rw[Sx];omega,by have:=r.un;rw[Lh];omega⟩
theorem cX.depth{k:Nat}{A:Around}(r:cX k A):A.depth<recursionLimit:=by have:=r.dp;omega
theorem cX.units{k:Nat}{A:Around}(r:cX k A):A.units+64<cLine:=by have:=r.un;omega
def cz:TA:=fun _ H Q=>Q [] H
def bC(ta:TE)(tr:TA):TA:=fun σ H Q=>ta σ H fun x H1=>tr σ H1 fun xs H2=>Q (x::xs) H2
section
variable{X:Cx}{e:Expr}{es:List Expr}{te:TE}{t:TA}{pos:Pos}
theorem aj:PA X [] cz:=fun _ _ _ _ H Q I h=>Calls.spliced_nil ⟨[],H,I, .nil,h⟩
theorem aa(ha:PE X e te)(hr:PA X es t)(hs:starEach (e::es) X.env=(false,eval e X.env)::starEach es X.env:=by rfl):PA X (e::es) (bC te t):=by
 intro pos pins s σ H Q I h
 rw[hs]
 show wpAny _ _ (spliced ((false,eval e X.env)::backTo pos (starEach es X.env))) _ _ s
 refine Calls.spliced_cons (aH (ha pins s σ H _ I h) fun u s1 ⟨x,H1,I1,r1,q1⟩=>?_)
 exact aH (hr pos pins s1 σ H1 _ I1 q1) fun us s2 ⟨xs,H2,I2,r2,q2⟩=>⟨x::xs,H2,I2, .cons r1 r2,q2⟩
def sI(t:TA):TE:=fun σ H Q=>t σ H fun xs H1=>xs.length<=sizeLine/\∀p,H1 p=none->Q (.ref p) (upd H1 p (.tup xs))
def pX(t:TA):TE:=fun σ H Q=>t σ H fun xs H1=>xs.length<=sizeLine/\∀p,H1 p=none->Q (.ref p) (upd H1 p (.lst xs))
theorem iy{x1}(h:PA X es t):PE X (.Tuple es x1 pos) (sI t):=by
 intro pins s σ H Q I hq
 refine wpAny_Tuple_spliced (aH (h pos pins s σ H _ I hq) fun us s1 ⟨xs,H1,I1,r,z,q⟩=>⟨by rw[<-r.length];exact z,?_⟩)
 have hf:H1 s1.heap.objs.size=none:=I1.hok.fresh (aF _)
 refine⟨.ref s1.heap.objs.size,upd H1 s1.heap.objs.size (.tup xs),I1.laid (t':=s1.toks) (fun b u e=>bQ _ e) (aF _) ?_,rfl,q _ hf⟩
 exact⟨z,us,r,⟨_,fP _ rfl,rfl,_,rfl⟩⟩
theorem gC(h:PA X es t):PE X (.List es pos) (pX t):=by
 intro pins s σ H Q I hq
 refine wpAny_List_spliced (aH (h pos pins s σ H _ I hq) fun us s1 ⟨xs,H1,I1,r,z,q⟩=>⟨by rw[<-r.length];exact z,?_⟩)
 have hf:H1 s1.heap.objs.size=none:=I1.hok.fresh (aF _)
 refine⟨.ref s1.heap.objs.size,upd H1 s1.heap.objs.size (.lst xs),I1.laid (t':=s1.toks) (fun b u e=>bQ _ e) (aF _) ?_,rfl,q _ hf⟩
 exact⟨z,us,0,r,fP _ rfl⟩
end
abbrev Sp:=List V->Hp->VK->XK->Prop
abbrev kg:=List Env->Hp->Shared->XK->Value->Shared->Prop
structure mT(P:Program)(w:World)(K:PySem.W.Frag)(mg:Str->Option Value)(base:Heap)(A:Around)(outer:List Env)(s:Shared)(H:Hp):Prop where
 frames:A.frames=some outer
 mod:Mod K mg base
 bs:∀b o,base.get? b=some o->s.heap.get? b=some o/\H b=none
 mq:base.objs.size<=s.heap.objs.size
 jB:s.heap.FunFrames base outer
 mS:∀b∈frs outer,H b=none
 hok:cT P w H s.heap
 bare:AllBare s.gens
def CE(outer:List Env)(P:Program)(w:World)(H:Hp)(s:Shared)(Q:VK)(u:Value)(s':Shared):Prop:=
 ∃v H',s'.os=s.os/\AllBare s'.gens/\Un (frs outer) [] H H' s.heap s'.heap/\cT P w H' s'.heap/\RelV v u/\Q v H'
def CR(CX:kg)(outer:List Env)(P:Program)(w:World)(H:Hp)(s:Shared)(Q:VK)(E:XK)(r:Result)(s':Shared):Prop:=
 match r with
 | .ok (.ret u)=>CE outer P w H s Q u s'
 | .ok _=>False
 | .error e=>CX outer H s E e s'
structure bu(P:Program)(w:World)(K:PySem.W.Frag)(mg:Str->Option Value)(base:Heap)(CX:kg)(k:Nat)(f:Addr)(fd:FuncData)(ps:List Str)(sp:Sp):Prop where
 len:∀vs H Q E,sp vs H Q E->vs.length=ps.length
 run:∀(A:Around) (outer:List Env) (s:Shared) (H:Hp) (args:Args) (us:List Value) (vs:List V) (Q:VK) (E:XK),cX k A->mT P w K mg base A outer s H->BindsTo s fd args (ps.zip us)->Vals vs us->sp vs H Q E->
  codeAny (model P w) A (.call (.ref f) args) (CR CX outer P w H s Q E) s
theorem mT.make{P:Program}{w:World}{K:PySem.W.Frag}{mg:Str->Option Value}{base:Heap}{A:Around}{outer:List Env}{s:Shared}{H:Hp}(e:mT P w K mg base A outer s H)(C:Addr)(us:List Value)(kw:List (Str×Value)):
  mT P w K mg base (A.under (.builtin "type.__call__" ⟨.ref C::us,kw⟩)) outer s H:=⟨by first|exact e.frames|(simpa[Around.under,Code.envs,Code.isFrame,pushEnvs] using e.frames),e.mod,e.bs,e.mq,e.jB,e.mS,e.hok,e.bare⟩
section
variable{X:Cx}{pins:List (Addr×Obj)}{σ:St}{H:Hp}{s s':Shared}
theorem Inv.G5(I:Inv X pins σ H s):mT X.prog X.w X.K X.mg X.base X.A X.stack s H:=
 ⟨I.ok.frames,I.ok.mod,I.bs,fq I.ok.mq I.sz,I.stack,I.Ez,I.hok,I.bare⟩
theorem Inv.after{Q:VK}{u:Value}(I:Inv X pins σ H s)(h:CE X.stack X.prog X.w H s Q u s'):EP X pins σ Q u s':=by
 obtain⟨v,H',os,bare,un,hok,r,q⟩:=h
 obtain⟨hh,g,d,t,os'⟩:=s'
 obtain rfl:os'=s.os:=os
 exact⟨v,H',I.call (h':=hh) (g':=g) (d':=d) (t':=t) (ch:=[]) un hok bare (fun b z=>absurd z (by simp)),r,q⟩
end
def g9(sp:Sp)(fj:List V)(E:XK)(t:TA):TE:=fun σ H Q=>t σ H fun vs H1=>sp (vs++fj) H1 Q E
def qW(C:Addr)(m:Str)(sp:Sp)(fj:List V)(E:XK)(ta:TE)(t:TA):TE:=fun σ H Q=>ta σ H fun x H1=>∃a dx fs,x= .ref a/\H1 a=some (.ins C dx fs)/\fs.lookup m=none/\
 t σ H1 fun vs H2=>sp (x::(vs++fj)) H2 Q E
def yh(C:Addr)(sp:Sp)(fj:List V)(E:XK)(t:TA):TE:=fun σ H Q=>t σ H fun vs H1=>∀x dx,H1 x=none->H1 dx=none->dx≠x->
 sp (.ref x::(vs++fj)) (upd (upd H1 dx (.own x)) x (.ins C dx [])) (fun v H2=>v= .aC/\Q (.ref x) H2) E
def Binds(K:PySem.W.Frag)(fd:FuncData)(ps:List Str)(ds:List Value):Prop:=
 ∀(s:Shared) (us:List Value),K.In s.heap->(us++ds).length=ps.length->BindsTo s fd ⟨us,[]⟩ (ps.zip (us++ds))
theorem Binds.all{K:PySem.W.Frag}{fd:FuncData}{ps:List Str}(h:∀us:List Value,us.length=ps.length->bindArgs fd ⟨us,[]⟩=pure (ps.zip us)):Binds K fd ps []:=fun s us _ hl=>by
 rw[jG] at hl⊢
 exact .of_eq (h us hl)
def Passes(CX:kg)(X:Cx)(E:XK):Prop:=∀(pins:List (Addr×Obj)) (σ:St) (H:Hp) (s:Shared) (e:Value) (s':Shared),Inv X pins σ H s->CX X.stack H s E e s'->X.xe e s'
section
variable{X:Cx}{CX:kg}{k:Nat}{f C:Addr}{fd:FuncData}{ps:List Str}{sp:Sp}{fj:List V}{ds:List Value}{E:XK}{x m:Str}{p pos apos:Pos}{e o:Expr}{es:List Expr}{ta:TE}{t:TA}
theorem wo{pins:List (Addr×Obj)}{σ:St}{H:Hp}{s:Shared}{Q:VK}{us:List Value}{vs:List V}(F:bu X.prog X.w X.K X.mg X.base CX k f fd ps sp)(hr:cX k X.A)(hb:Binds X.K fd ps ds)(hd:Vals fj ds)(hx:Passes CX X E)
    (I:Inv X pins σ H s) (r:Vals vs us) (h:sp (vs++fj) H Q E):wpAny (model X.prog X.w) X.A (call (.ref f) us) (EP X pins σ Q) X.xe s:=by
  have r2:Vals (vs++fj) (us++ds):=r.append hd
  have hl:(us++ds).length=ps.length:=by rw[<-r2.length];exact F.len _ _ _ _ h
  refine wpAny_call (codeAny_mono (F.run X.A X.stack s H ⟨us,[]⟩ (us++ds) (vs++fj) Q E hr I.G5 (hb s us I.cC hl) r2 h) fun r s' hq=>?_)
  cases r with
  |error e=>exact hx pins σ H s e s' I hq
  | ok fl =>
    cases fl with
    |ret u=>exact I.after hq
    |next=>exact False.elim hq
    |brk=>exact False.elim hq
    |cont=>exact False.elim hq
theorem KS(F:bu X.prog X.w X.K X.mg X.base CX k f fd ps sp)(hr:cX k X.A)(hg:Gl X x)(hm:X.mg x=some (.ref f))(hk:PySem.W.keepIn X.K (.ref f)=true)(hb:Binds X.K fd ps ds)(hd:Vals fj ds)(hx:Passes CX X E)
  (ha:PA X (e::es) t) (hdb:(x==("__debug__":Str))=false:=by decide) (he:starEach (e::es) X.env=(false,eval e X.env)::starEach es X.env:=by rfl) (hpl:(backTo pos (starEach es X.env)).any (·.1)=false:=by rfl):
  PE X (.Call (.Name x p) (e::es) [] pos) (g9 sp fj E t):=by
 intro pins s σ H Q I h
 refine wpAny_Call_Name_kw (EZ I hg hm ?_ hdb)
 refine CP (h₀:=X.base) I.ok.mod.rH hk (aH (ha pos pins s σ H _ I h) fun us s1 ⟨vs,H1,I1,r,q⟩=>⟨I1.cC,?_⟩) he hpl
 exact wo F hr hb hd hx I1 r q
theorem MM{pl:Sem Bool}(he:PE X o ta)(c:ez X.K C)(hm:Meth X.K C m f)(F:bu X.prog X.w X.K X.mg X.base CX k f fd ps sp)(hr:cX k X.A)(hb:Binds X.K fd ps ds)(hd:Vals fj ds)(hx:Passes CX X E)(ha:PA X (e::es) t)
  (hst:starEach (e::es) X.env=(false,eval e X.env)::starEach es X.env:=by rfl) (hpl:(backTo pos (starEach es X.env)).any (·.1)=false:=by rfl)
  (ht : eval (.Call (.Attribute o m apos) (e :: es) [] pos) X.env = (do
   let ov<-eval o X.env
   standAt apos.atName
   let (f,first)<-holding [ov] (getMethod ov m pl)
   callWith pos f first (backTo pos (starEach (e::es) X.env)) (backToKw pos (keywordEach [] X.env))):=by rfl):
  PE X (.Call (.Attribute o m apos) (e::es) [] pos) (qW C m sp fj E ta t):=by
 intro pins s σ H Q I h
 refine xH (pl:=pl) (aH (he pins s σ H _ I h) fun u s1 ⟨x,H1,I1,rx,a,dx,fs,ex,ea,l,q⟩=>?_) ht
 subst ex
 obtain rfl:u=Value.ref a:=rx
 refine zh I1 ea c hm l ?_
 refine CP (first:=[.ref a]) (h₀:=X.base) I.ok.mod.rH hm.kp (aH (ha pos pins s1 σ H1 _ I1 q) fun us s2 ⟨vs,H2,I2,r,q2⟩=>⟨I2.cC,?_⟩) hst hpl
 exact wo (us:= .ref a::us) (vs:= .ref a::vs) F hr hb hd hx I2 (.cons rfl r) q2
theorem MX{pl:Sem Bool}(he:PE X o ta)(c:ez X.K C)(hm:Meth X.K C m f)(F:bu X.prog X.w X.K X.mg X.base CX k f fd ps sp)(hr:cX k X.A)(hb:Binds X.K fd ps ds)(hd:Vals fj ds)(hx:Passes CX X E)
  (ht : eval (.Call (.Attribute o m apos) [] [] pos) X.env = (do
   let ov<-eval o X.env
   standAt apos.atName
   let (f,first)<-holding [ov] (getMethod ov m pl)
   callWith pos f first (backTo pos (starEach [] X.env)) (backToKw pos (keywordEach [] X.env))):=by rfl):
  PE X (.Call (.Attribute o m apos) [] [] pos) (qW C m sp fj E ta cz):=by
 intro pins s σ H Q I h
 refine xH (pl:=pl) (aH (he pins s σ H _ I h) fun u s1 ⟨x,H1,I1,rx,a,dx,fs,ex,ea,l,q⟩=>?_) ht
 subst ex
 obtain rfl:u=Value.ref a:=rx
 refine zh I1 ea c hm l ?_
 exact PySem.W.callWith_K0 (first:=[.ref a]) I1.cC hm.kp (wo (us:=[.ref a]) (vs:=[.ref a]) F hr hb hd hx I1 (.cons rfl .nil) q)
structure Mk(K:PySem.W.Frag)(C f:Addr):Prop where
 makes:PySem.W.makesIn K C=true
 init:PySem.W.findIn K (.ref C) "__init__"=some (some (.ref f))
 fn:PySem.W.isFn K (.ref f)=true
 kp:PySem.W.keepIn K (.ref C)=true
theorem Sf{pins:List (Addr×Obj)}{σ:St}{H:Hp}{s:Shared}{Q:VK}{us:List Value}{vs:List V}(M:Mk X.K C f)(F:bu X.prog X.w X.K X.mg X.base CX k f fd ps sp)(hr:cX (k+1) X.A)(hb:Binds X.K fd ps ds)(hd:Vals fj ds)
    (hx:Passes CX X E) (I:Inv X pins σ H s) (r:Vals vs us)
    (h:∀x dx,H x=none->H dx=none->dx≠x->sp (.ref x::(vs++fj)) (upd (upd H dx (.own x)) x (.ins C dx [])) (fun v H2=>v= .aC/\Q (.ref x) H2) E):
    wpAny (model X.prog X.w) X.A (call (.ref C) us) (EP X pins σ Q) X.xe s:=by
  have hq:=h (s.heap.objs.size+1) s.heap.objs.size (I.hok.fresh (oV _)) (I.hok.fresh (aF _)) (cW (nu _))
  have I2:=Inv.made (C:=C) I
  have r2:Vals (V.ref (s.heap.objs.size+1)::(vs++fj)) (Value.ref (s.heap.objs.size+1)::(us++ds)):= .cons rfl (r.append hd)
  have hl:(Value.ref (s.heap.objs.size+1)::us++ds).length=ps.length:=by
    have e:=r2.length
    rw[F.len _ _ _ _ hq] at e
    exact e.symm
  refine wpAny_call (Qp (f:=f) I.cC M.makes M.init (beq_iff_eq.mp M.fn) (codeAny_mono (F.run _ X.stack _ _ ⟨Value.ref (s.heap.objs.size+1)::us,[]⟩ (Value.ref (s.heap.objs.size+1)::(us++ds)) _ _ E (hr.make C us [])
    (I2.G5.make C us []) (hb _ (Value.ref (s.heap.objs.size+1)::us) I2.cC hl) r2 hq) fun r s' hq'=>?_))
  cases r with
  |error e=>exact hx pins σ _ _ e s' I2 hq'
  | ok fl =>
    cases fl with
    | ret u =>
      obtain⟨v,H',I3,rv,ev,q3⟩:=I2.after hq'
      subst ev
      exact⟨rv,⟨V.ref (s.heap.objs.size+1),H',I3,rfl,q3⟩⟩
    |next=>exact False.elim hq'
    |brk=>exact False.elim hq'
    |cont=>exact False.elim hq'
theorem LK(M:Mk X.K C f)(F:bu X.prog X.w X.K X.mg X.base CX k f fd ps sp)(hr:cX (k+1) X.A)(hg:Gl X x)(hm:X.mg x=some (.ref C))(hb:Binds X.K fd ps ds)(hd:Vals fj ds)(hx:Passes CX X E)
  (ha:PA X (e::es) t) (hdb:(x==("__debug__":Str))=false:=by decide) (he:starEach (e::es) X.env=(false,eval e X.env)::starEach es X.env:=by rfl) (hpl:(backTo pos (starEach es X.env)).any (·.1)=false:=by rfl):
  PE X (.Call (.Name x p) (e::es) [] pos) (yh C sp fj E t):=by
 intro pins s σ H Q I h
 refine wpAny_Call_Name_kw (EZ I hg hm ?_ hdb)
 refine CP (h₀:=X.base) I.ok.mod.rH M.kp (aH (ha pos pins s σ H _ I h) fun us s1 ⟨vs,H1,I1,r,q⟩=>⟨I1.cC,?_⟩) he hpl
 exact Sf M F hr hb hd hx I1 r q
end
structure ck(N P:List Str)(sc:Scope):Prop where
 kind:sc.kind= .function
 co:sc.isCoroutine=false
 gen:sc.isGenerator=false
 nd:N.Nodup
 pre:N.take P.length=P
 par:∀x∈P,sc.names.lookup x=some .local\/sc.names.lookup x=some .cell
 LU:∀y∈sc.names,y.2≠ .free
theorem Ip{kindOf:Str->Option NameKind}{x:Str}:∀{binds:List (Str×Value)} {m:Str->Option Value},(∀v,(x,v)∉binds)->bindL kindOf binds m x=m x
  |[],_,_=>rfl
  | (n, v) :: r, m, h => by
    unfold bindL
    rw[Ip fun w hw=>h w (cH _ hw)]
    split
    · have:x≠n:=by rintro rfl;exact h v bV
      simp[this]
    · rfl
theorem FZ{kindOf:Str->Option NameKind}{x:Str}:∀{binds:List (Str×Value)} {m:Str->Option Value},(∀v,(x,v)∉binds)->bindC kindOf binds m x=m x
  |[],_,_=>rfl
  | (n, v) :: r, m, h => by
    unfold bindC
    rw[FZ fun w hw=>h w (cH _ hw)]
    split
    · rfl
    · have:x≠n:=by rintro rfl;exact h v bV
      simp[this]
theorem Eb{kindOf:Str->Option NameKind}{x:Str}{v:Value}:∀{P:List Str} {vs:List Value} {i:Nat} {m:Str->Option Value},P.Nodup->P[i]?=some x->vs[i]?=some v->kindOf x=some .local->
    bindL kindOf (P.zip vs) m x=some v
  |[],_,_,_,_,h,_,_=>by simp at h
  |_::_,[],_,_,_,_,h,_=>by simp at h
  | p :: P, w :: vs, 0, m, nd, h1, h2, hk => by
    simp at h1 h2;subst h1;subst h2
    show bindL kindOf ((p,w)::P.zip vs) m p=_
    unfold bindL
    rw[Ip fun v hv=>(jD.mp nd).1 (Cp hv).1,if_pos hk]
    simp
  | p :: P, w :: vs, i + 1, m, nd, h1, h2, hk => by
    show bindL kindOf ((p,w)::P.zip vs) m x=_
    unfold bindL
    exact Eb (i:=i) (jD.mp nd).2 (by simpa using h1) (by simpa using h2) hk
theorem Di{kindOf:Str->Option NameKind}{x:Str}{v:Value}:∀{P:List Str} {vs:List Value} {i:Nat} {m:Str->Option Value},P.Nodup->P[i]?=some x->vs[i]?=some v->kindOf x≠some .local->
    bindC kindOf (P.zip vs) m x=some v
  |[],_,_,_,_,h,_,_=>by simp at h
  |_::_,[],_,_,_,_,h,_=>by simp at h
  | p :: P, w :: vs, 0, m, nd, h1, h2, hk => by
    simp at h1 h2;subst h1;subst h2
    show bindC kindOf ((p,w)::P.zip vs) m p=_
    unfold bindC
    rw[FZ fun v hv=>(jD.mp nd).1 (Cp hv).1,if_neg hk]
    simp
  | p :: P, w :: vs, i + 1, m, nd, h1, h2, hk => by
    show bindC kindOf ((p,w)::P.zip vs) m x=_
    unfold bindC
    exact Di (i:=i) (jD.mp nd).2 (by simpa using h1) (by simpa using h2) hk
def start(N:List Str)(vs:List V):St:=vs.map some++List.replicate (N.length-vs.length) none
def pL(CX:kg)(P:Program)(w:World)(K:PySem.W.Frag)(mg:Str->Option Value)(base:Heap)(N:List Str)(qual:Str)(scope:Scope)(f:Addr)(cd:Value)(A:Around)(outer:List Env)(s:Shared)(H:Hp)(E:XK):Cx where
 prog:=P
 w:=w
 K:=K
 mg:=mg
 base:=base
 A:=A.deeper (envOfC qual scope s.heap.objs.size f cd)
 N:=N
 s₀:=s
 H₀:=H
 env:=envOfC qual scope s.heap.objs.size f cd
 outer:=outer
 stack:=envOfC qual scope s.heap.objs.size f cd::outer
 ex:=[]
 calm:=true
 fn:=fun _=>true
 pn:=[]
 xe:=fun e s'=>wpAny (model P w) (A.deeper (envOfC qual scope s.heap.objs.size f cd)) (leaving (envOfC qual scope s.heap.objs.size f cd) e) (fun _ s''=>CX outer H s E e s'') (fun e' s''=>CX outer H s E e' s'') s'
theorem GH{sc:Scope}{n:Nat}{x:Str}(h:sc.names.lookup x=some .cell):∃c,(cellsFrom n sc.names []).lookup x=some c:=by
 have q:=IG sc.names n [] (.inl h)
 exact yT.mp q
theorem Le{CX:kg}{P:Program}{w:World}{K:PySem.W.Frag}{mg:Str->Option Value}{base:Heap}{N ps:List Str}{qual:Str}{scope:Scope}{f:Addr}{cd:Value}{A:Around}{outer:List Env}{s s1:Shared}{H:Hp}{E:XK}{us:List Value}{vs:List V}
  (S:ck N ps scope) (hd:A.handled=none) (e0:mT P w K mg base A outer s H) (hl:vs.length=ps.length) (r:Vals vs us)
  (x:InCallC s s.heap.objs.size (bindL (envOfC qual scope s.heap.objs.size f cd).kindOf (ps.zip us) fun _=>none) (cellsFrom (s.heap.objs.size+1) scope.names []) (bindC (envOfC qual scope s.heap.objs.size f cd).kindOf (ps.zip us) fun _=>none) s1):
  Inv (pL CX P w K mg base N qual scope f cd A outer s H E) [] (start N vs) H s1:=by
 have hpl:ps.length<=N.length:=by have:=congrArg List.length S.pre;rw[jw] at this;omega
 obtain⟨h1,tk,rfl,hk⟩:=x.done
 have rJ:∀b:Addr,b∉(pL CX P w K mg base N qual scope f cd A outer s H E).ex:=fun b z=>absurd (show b∈([]:List Addr) from z) (by simp)
 refine⟨⟨e0.mod,S.kind,rfl,rfl,aF _,fun y z c h1 h2=>?_,fun y hy=>?_,fun y c _ h=>?_,fun _=>hd,Around.frames_deeper e0.frames, .inr ⟨rfl,rfl⟩,fun b z=>absurd z (rJ b),e0.bs,e0.mq,fun b _ _=>rJ b,fun b z=>absurd z (rJ b),e0.jB,e0.mS⟩,
  rfl,e0.bare,Un.kept hk,⟨_,x.toInCall.ns,fun i y v h1 h2 h3=>?_⟩,fun y c h=>⟨_,x.cell y c h⟩,e0.hok.fresh (aF _),fun y c h=>?_,fun p hp=>absurd (show p∈([]:List (Addr×Obj)) from hp) (by simp),e0.hok.kept hk,?_⟩
 ·exact name_of_addr x.apart (nZ h1) (nZ h2)
 ·have hy:scope.names.lookup y=some .cell\/scope.names.lookup y=some .free:=hy
  rcases hy with hy|hy
  ·exact GH hy
  ·exact absurd rfl (S.LU _ (nZ hy))
 ·exact jP (x.above y c (nZ h))
 ·have hi:i<vs.length:=by
   unfold start at h2
   by_cases hi:i<vs.length
   ·exact hi
   ·rw[fX (by simpa using hi)] at h2
    rw[gh] at h2
    split at h2<;>cases h2
  have ha:vs[i]?=some v:=by
   unfold start at h2
   rw[fF (by simpa using hi),bI] at h2
   cases e:vs[i]? with
   |none=>rw[e] at h2;cases h2
   |some a=>rw[e] at h2;cases h2;rfl
  obtain⟨u,hu,rv⟩:=r.get ha
  have hp:ps[i]?=some y:=by
   rw[<-S.pre,za (by omega)];exact h1
  have GQ:ps.Nodup:=by rw[<-S.pre];exact S.nd.sublist (List.take_sublist _ _)
  refine⟨u,rv,?_⟩
  rcases S.par y (eY hp) with k|k
  ·exact .inl ⟨k,Eb GQ hp hu k⟩
  ·obtain⟨c,e⟩:=GH (n:=s.heap.objs.size+1) k
   refine .inr ⟨.inl k,c,e,?_⟩
   have q:=x.cell y c e
   rw[Di GQ hp hu (by show scope.names.lookup y≠_;rw[k];decide)] at q
   exact q
 ·exact e0.hok.fresh (jP (x.above y c (nZ h)))
 ·unfold start
  show _=N.length
  rw[c7,ak,List.length_replicate]
  omega
theorem OG{CX:kg}{P:Program}{w:World}{K:PySem.W.Frag}{mg:Str->Option Value}{base:Heap}{k:Nat}{f:Addr}{name qual:Str}{params:Arguments}{body:List Stmt}{scope:Scope}{dV kV doc pm cdv ct oc:Value}{an od:Option Addr}
    {osl:Array (Option Value)} {N ps:List Str} {sp:Sp} (lk:K.lookup f=some ⟨oc,od, .func (PySem.W.fnOf name qual params body scope dV kV doc pm an cdv ct),osl⟩) (hcd:PySem.W.codeIn K cdv qual=true) (S:ck N ps scope)
    (len:∀vs H Q E,sp vs H Q E->vs.length=ps.length)
    (hbody:∀(A:Around) (outer:List Env) (s:Shared) (H:Hp) (vs:List V) (Q:VK) (E:XK),cX k (A.deeper (envOfC qual scope s.heap.objs.size f cdv))->sp vs H Q E->
      ∃t,jb (pL CX P w K mg base N qual scope f cdv A outer s H E) body t/\t {nx:=fun _ H'=>Q .aC H',rt:=Q} (start N vs) H):
    bu P w K mg base CX (k+1) f (PySem.W.fnOf name qual params body scope dV kV doc pm an cdv ct) ps sp:=by
  refine⟨len,fun A outer s H args us vs Q E hr e0 hb r lN=>?_⟩
  have hl:=len _ _ _ _ lN
  have KX:K.In s.heap:=e0.mod.rH.keeps fun b o e=>(e0.bs b o e).1
  have lim:s.heap.NoLimit:=e0.mod.nolimit.keeps fun b o e=>(e0.bs b o e).1
  have hkind:∀y∈ps.zip us,scope.names.lookup y.1=some .local\/(scope.names.lookup y.1=some .cell/\((cellsFrom (s.heap.objs.size+1) scope.names []).lookup y.1).isSome=true):=fun⟨n,v⟩ hy=>by
    rcases S.par n (Cp hy).1 with q|q
    · exact .inl q
    · exact .inr ⟨q,IG _ _ _ (.inl q)⟩
  refine codeAny_call_function hr.depth (KX _ _ lk) rfl S.co S.gen rfl (PySem.W.codeRec_of KX hcd) (hb _ _ _ _ ?_)
  refine wpAny_newFunctionEnv_cells S.kind hkind fun env he s1 x=>?_
  subst he
  refine⟨lim.keeps x.toInCall.keep,codeAny_func ?_⟩
  obtain⟨t,ht,hq⟩:=hbody A outer s H vs Q E (hr.deeper _) lN
  have I:Inv (pL CX P w K mg base N qual scope f cdv A outer s H E) [] (start N vs) H s1:=Le S hr.hd e0 hl r x
  refine wpAny_mono (ht [] s1 (start N vs) H _ I hq) (fun fl s' hs=>?_) fun e s' hs=>hs
  have fin:∀{σ':St} {H':Hp} {v:V} {u:Value},Inv (pL CX P w K mg base N qual scope f cdv A outer s H E) [] σ' H' s'->RelV v u->Q v H'->CE outer P w H s Q u s':=
    fun{σ' H' v u} J rv q=>⟨v,H',J.os,J.bare,J.base,J.hok,rv,q⟩
  cases fl with
  | ret u =>
    obtain⟨v,σ',H',J,rv,q⟩:=hs
    exact fin J rv q
  | next =>
    obtain⟨σ',H',J,q⟩:=hs
    exact fin (v:=V.aC) (u:=Value.none) J rfl q
  | brk =>
    obtain⟨_,_,_,q⟩:=hs
    exact False.elim q
  | cont =>
    obtain⟨_,_,_,q⟩:=hs
    exact False.elim q
section
variable{X:Cx}{x:Str}{p pos:Pos}{e:Expr}{es:List Expr}{t:TA}{id T:String}{r:List V->Hp->VK->Prop}
def fJ(r:List V->Hp->VK->Prop)(t:TA):TE:=fun σ H Q=>t σ H fun vs H1=>r vs H1 Q
theorem bL(hc:fW X (.builtin id) r)(hg:Gl X x)(hm:X.mg x=none)(hv:bootBuiltins x=some (.builtin id))(ha:PA X (e::es) t)(hn:x≠"__name__":=by decide)(hdb:(x==("__debug__":Str))=false:=by decide)
  (he:starEach (e::es) X.env=(false,eval e X.env)::starEach es X.env:=by rfl) (hpl:(backTo pos (starEach es X.env)).any (·.1)=false:=by rfl):PE X (.Call (.Name x p) (e::es) [] pos) (fJ r t):=by
 intro pins s σ H Q I h
 refine wpAny_Call_Name_kw (o4 I hg hm hv ?_ hn hdb)
 exact PyProof.Rows.callWith_builtin1 (aH (ha pos pins s σ H _ I h) fun us s1 ⟨vs,H1,I1,r1,q1⟩=>hc pins s1 σ H1 vs us Q I1 r1 q1) he hpl
theorem iV(hc:fW X (.type T) r)(hg:Gl X x)(hm:X.mg x=none)(hv:bootBuiltins x=some (.type T))(ha:PA X (e::es) t)(hn:x≠"__name__":=by decide)(hdb:(x==("__debug__":Str))=false:=by decide)
  (he:starEach (e::es) X.env=(false,eval e X.env)::starEach es X.env:=by rfl) (hpl:(backTo pos (starEach es X.env)).any (·.1)=false:=by rfl):PE X (.Call (.Name x p) (e::es) [] pos) (fJ r t):=by
 intro pins s σ H Q I h
 refine wpAny_Call_Name_kw (o4 I hg hm hv ?_ hn hdb)
 exact vq (aH (ha pos pins s σ H _ I h) fun us s1 ⟨vs,H1,I1,r1,q1⟩=>hc pins s1 σ H1 vs us Q I1 r1 q1) he hpl
end
end L2
namespace HT
open PySem PyProof.Rows
section
open PySem.SeqAt
open PySem.AutoSeq1 (wpAny_loadPart')
open PySem.MeetsSeq PySem.MeetsSeq2 PySem.MeetsSeq3
end
section
variable{prog:Program}{w:World}{A:Around}{E:Value->Shared->Prop}{s:Shared}
def dw(n d:Nat):Option Int->Nat
 |none=>d
 |some v=>if v<0 then(v+(n:Int)).toNat else min v.toNat n
theorem U4(n d:Nat):dw n d none=d:=rfl
end
end HT
namespace L2
open PySem PySem.Spec PyProof.Rows
abbrev TO:=St->Hp->(Option Int->Hp->Prop)->Prop
def PO(X:Cx)(e:Option Expr)(t:TO):Prop:=
 ∀(pins:List (Addr×Obj)) (s:Shared) (σ:St) (H:Hp) (Q:Option Int->Hp->Prop),Inv X pins σ H s->t σ H Q->
  wpAny (model X.prog X.w) X.A (evalPart e X.env) (fun u s'=>∃o H',Inv X pins σ H' s'/\IsPart u o/\Q o H') X.xe s
def Cb:TO:=fun _ H Q=>Q none H
def CY(t:TE):TO:=fun σ H Q=>t σ H fun x H1=>∃i,x= .int i/\Q (some i) H1
section
variable{X:Cx}{e:Expr}{te:TE}{lo hi:Option Expr}{tl th:TO}{pos p2:Pos}
theorem n9:PO X none Cb:=by
 intro pins s σ H Q I h
 rw[evalPart_none]
 exact wpAny_pure ⟨none,H,I, .none,h⟩
theorem mU(h:PE X e te):PO X (some e) (CY te):=by
 intro pins s σ H Q I hw
 rw[evalPart_some]
 refine aH (h pins s σ H _ I hw) fun u s1 ⟨x,H1,I1,r1,q1⟩=>?_
 obtain⟨i,rfl,q⟩:=q1
 obtain⟨t,rfl⟩:=r1
 exact⟨some i,H1,I1, .int i t,q⟩
def Jj(X:Cx)(r:V->Option Int->Option Int->Hp->VK->Prop):Prop:=
 ∀(pins:List (Addr×Obj)) (s:Shared) (σ:St) (H:Hp) (x:V) (v vl vu:Value) (lo hi:Option Int) (sl:Addr) (Q:VK),Inv X pins σ H s->RelV x v->s.heap.IsSliceOf sl vl vu .none->IsPart vl lo->IsPart vu hi->r x lo hi H Q->
  ∃T id,typeLookup (.type T) "__getitem__"=pure (some (.builtin id))/\s.TypeIs v T/\wpAny (model X.prog X.w) X.A (getItem v (.ref sl)) (EP X pins σ Q) X.xe s
def qS(r:V->Option Int->Option Int->Hp->VK->Prop)(te:TE)(tl th:TO):TE:=fun σ H Q=>te σ H fun x H1=>tl σ H1 fun l H2=>th σ H2 fun u H3=>r x l u H3 Q
theorem nV{r:V->Option Int->Option Int->Hp->VK->Prop}(hr:Jj X r)(he:PE X e te)(hl:PO X lo tl)(hu:PO X hi th):PE X (.Subscript e (.Slice lo hi none p2) pos) (qS r te tl th):=by
 intro pins s σ H Q I h
 refine Subscript_ (aH (he pins s σ H _ I h) fun v s1 ⟨x,H1,I1,r1,q1⟩=>?_)
 refine wpAny_Slice (aH (hl pins s1 σ H1 _ I1 q1) fun vl s2 ⟨l,H2,I2,pl,q2⟩=>aH (hu pins s2 σ H2 _ I2 q2) fun vu s3 ⟨u,H3,I3,pu,q3⟩=>?_)
 rw[evalPart_none]
 refine wpAny_pure ?_
 have I4:Inv X pins σ H3 {s3 with heap:=s3.heap.push {cls:= .type "slice",data:= .fields #[vl,vu, .none]}}:=I3.kept (t':=s3.toks) fun b ob q=>bQ _ q
 obtain⟨T,id,hT,ht,hg⟩:=hr pins {s3 with heap:=s3.heap.push {cls:= .type "slice",data:= .fields #[vl,vu, .none]}} σ H3 x v vl vu l u s3.heap.objs.size Q I4 r1 (Heap.IsSliceOf.new ..) pl pu q3
 show wpAny (model X.prog X.w) X.A (subscriptTail e (.Slice lo hi none p2) v (.ref s3.heap.objs.size)) (EP X pins σ Q) X.xe {s3 with heap:=s3.heap.push {cls:= .type "slice",data:= .fields #[vl,vu, .none]}}
 exact tail_any (ops:=[.ref s3.heap.objs.size,v]) ht hT hg (by with_unfolding_all rfl)
def k8(xs:List V)(lo hi:Option Int):List V:=(xs.drop (HT.dw xs.length 0 lo)).take (HT.dw xs.length xs.length hi-HT.dw xs.length 0 lo)
theorem Kn(xs:List V)(lo hi:Option Int):(k8 xs lo hi).length<=xs.length:=by
 unfold k8
 rw[jw,qv]
 omega
def UG(K:PySem.W.Frag):V->Option Int->Option Int->Hp->VK->Prop:=fun x lo hi H Q=>∃a xs,x= .ref a/\fO K H a xs/\
 ¬(HT.dw xs.length 0 lo=0/\HT.dw xs.length xs.length hi=xs.length)/\∀p,H p=none->Q (.ref p) (upd H p (.tup (k8 xs lo hi)))
def VN(K:PySem.W.Frag):R2:=fun x y H Q=>∃a b xs ys,x= .ref a/\y= .ref b/\fO K H a xs/\fO K H b ys/\xs≠[]/\xs.length+ys.length<=sizeLine/\
 (ys=[]->Q (.ref a) H)/\(ys≠[]->∀p,H p=none->Q (.ref p) (upd H p (.tup (xs++ys))))
end
def gF(n:Nat)(i:Int):Option Nat:=if 0<=i then(if i<n then some i.toNat else none) else if-(n:Int)<=i then some (i+n).toNat else none
def bU{α:Type}(xs:List α)(i:Int):Option α:=(gF xs.length i).bind fun j=>xs[j]?
theorem Dh{n:Nat}{i:Int}{j:Nat}(h:gF n i=some j):seqIndex? i n=some j/\j<n/\ -(n:Int)<=i/\i<n:=by
 unfold gF at h
 by_cases h0:0<=i
 ·rw[if_pos h0] at h
  by_cases h1:i<n
  ·rw[if_pos h1] at h
   have e:i.toNat=j:=iD h
   exact⟨by rw[seqIndex_of h0 h1,e],by omega,by omega,h1⟩
  ·rw[if_neg h1] at h;cases h
 ·rw[if_neg h0] at h
  by_cases h1: -(n:Int)<=i
  ·rw[if_pos h1] at h
   have e:(i+n).toNat=j:=iD h
   exact⟨by rw[seqIndex_neg (by omega) h1,e],by omega,h1,by omega⟩
  ·rw[if_neg h1] at h;cases h
theorem zX{α:Type}{xs:List α}{i:Int}{v:α}(h:bU xs i=some v):∃j,seqIndex? i xs.length=some j/\xs[j]?=some v/\j<xs.length/\ -(xs.length:Int)<=i/\i<xs.length:=by
  unfold bU at h
  cases e:gF xs.length i with
  |none=>rw[e] at h;cases h
  | some j =>
    rw[e] at h
    obtain⟨h1,h2,h3,h4⟩:=Dh e
    exact⟨j,h1,h,h2,h3,h4⟩
theorem Q2{α:Type}{xs:List α}{j:Nat}{v:α}(h:xs[j]?=some v):bU xs (j:Int)=some v:=by
 have hj:j<xs.length:=(bW.mp h).1
 have e:gF xs.length (j:Int)=some j:=by
  unfold gF
  rw[if_pos (by omega),if_pos (by omega)];simp
 unfold bU;rw[e];exact h
theorem SY{α:Type}(xs:List α)(v:α):bU (xs++[v]) (-1)=some v:=by
 have hl:(xs++[v]).length=xs.length+1:=by simp
 have e:gF (xs++[v]).length (-1)=some xs.length:=by
  unfold gF
  rw[hl,if_neg (by decide),if_pos (by omega)]
  congr 1
  omega
 unfold bU
 rw[e]
 show(xs++[v])[xs.length]?=some v
 simp
def Ve(b:Expr):Prop:=∀o i,subscripted b false o i=operate [o,i] (getItem o i)
def kP(X:Cx)(r:R2):Prop:=
 ∀(value slice:Expr) (pins:List (Addr×Obj)) (s:Shared) (σ:St) (H:Hp) (x y:V) (v u:Value) (Q:VK),Inv X pins σ H s->RelV x v->RelV y u->r x y H Q->
  subscripted slice false v u=operate [v,u] (getItem v u)->wpAny (model X.prog X.w) X.A (subscriptTail value slice v u) (EP X pins σ Q) X.xe s
def wj(X:Cx)(id:String)(r:V->List V->Hp->VK->Prop):Prop:=
 ∀(pins:List (Addr×Obj)) (s:Shared) (σ:St) (H:Hp) (x:V) (xs:List V) (v:Value) (us:List Value) (Q:VK),Inv X pins σ H s->RelV x v->Vals xs us->r x xs H Q->
  wpAny (model X.prog X.w) X.A (call (.builtin id) (v::us)) (EP X pins σ Q) X.xe s
section
variable{X:Cx}{a b:Expr}{ta tb:TE}{pos:Pos}
theorem kP.or{r r':R2}(h:kP X r)(h':kP X r'):kP X (fun x y H Q=>r x y H Q\/r' x y H Q):=by
 intro value slice pins s σ H x y v u Q I rx ry q hs
 rcases q with q|q
 ·exact h value slice pins s σ H x y v u Q I rx ry q hs
 ·exact h' value slice pins s σ H x y v u Q I rx ry q hs
theorem aT{r:R2}(hr:kP X r)(ha:PE X a ta)(hb:PE X b tb)(hs:Ve b):PE X (.Subscript a b pos) (dD r ta tb):=by
 intro pins s σ H Q I h
 exact Subscript_ (AN ha hb I h fun v u s2 x y H2 I2 rx ry q=>hr a b pins s2 σ H2 x y v u Q I2 rx ry q (hs _ _))
def fh(K:PySem.W.Frag):R2:=fun x y H Q=>∃p xs i v,x= .ref p/\y= .int i/\aS K H p xs/\bU xs i=some v/\Q v H
def dX(K:PySem.W.Frag):R2:=fun x y H Q=>∃p xs i v,x= .ref p/\y= .int i/\fO K H p xs/\bU xs i=some v/\Q v H
def FG:R2:=fun x y H Q=>∃z i c,x= .str z/\y= .int i/\z.length<=sizeLine/\bU z.cps.toList i=some c/\Q (.str ⟨#[c]⟩) H
theorem cE:kP X (fh X.K):=by
 intro value slice pins s σ H x y v u Q I rx ry h hs
 obtain⟨p,xs,i,z,rfl,rfl,hq,he,q⟩:=h
 cases rx
 obtain⟨t,rfl⟩:=ry
 obtain⟨its,r,pl,hz⟩:=I.list hq
 obtain⟨j,h1,h2,h3,h4,h5⟩:=zX he
 obtain⟨w,ew,rw'⟩:=r.get h2
 have hl:=r.length
 have hn:=oj
 have fin:EP X pins σ Q w s:=⟨z,H,I,rw',q⟩
 by_cases h0:0<=i
 ·have hj:i.toNat=j:=by
   rw[seqIndex_of h0 h5] at h1
   exact iD h1
  exact item_listR pl.isList h0 (by omega) (by rw[hj];simpa using ew) fin hs
 ·have hj:(i+(its.toArray.size:Int)).toNat=j:=by
   rw[seqIndex_neg (by omega) h4] at h1
   rw[dg,<-hl]
   exact iD h1
  exact subscriptTail_builtinR (x:=w) pl.isList.typeIs slot_list_getitem.lookup
   (wpAny_getItem_list_neg (Q:=fun r s'=>r=w/\EP X pins σ Q r s') pl.isList (by omega) (by rw[dg]<;>omega) (by omega) (by rw[hj];simpa using ew) ⟨rfl,fin⟩) hs
theorem eU:kP X (dX X.K):=by
 intro value slice pins s σ H x y v u Q I rx ry h hs
 obtain⟨p,xs,i,z,rfl,rfl,hq,he,q⟩:=h
 cases rx
 obtain⟨t,rfl⟩:=ry
 obtain⟨its,r,pl,hz⟩:=I.tuple hq
 obtain⟨j,h1,h2,h3,h4,h5⟩:=zX he
 obtain⟨w,ew,rw'⟩:=r.get h2
 have hl:=r.length
 have hn:=oj
 have fin:EP X pins σ Q w s:=⟨z,H,I,rw',q⟩
 exact subscriptTail_builtinR (x:=w) pl.typeIs slot_tuple_getitem.lookup
  (getItem_tuple (j:=j) (Q:=fun r s'=>r=w/\EP X pins σ Q r s') pl (by omega) (by omega) (by rw[dg,<-hl];exact h1) (by simpa using ew) ⟨rfl,fin⟩) hs
theorem QA:kP X FG:=by
 intro value slice pins s σ H x y v u Q I rx ry h hs
 obtain⟨z,i,c,rfl,rfl,hz,he,q⟩:=h
 obtain⟨t,rfl⟩:=rx
 obtain⟨t',rfl⟩:=ry
 obtain⟨j,h1,h2,h3,h4,h5⟩:=zX he
 have hl:z.cps.toList.length=z.length:=by simp[Str.length]
 rw[hl] at h1 h4 h5
 have hn:=oj
 exact tail_any (typeIs_str s z t) slot_str_getitem.lookup (getItem_str (c:=c) (by
  have e1:decide (i< -(2^63:Int))=false:=decide_eq_false (by omega)
  have e2:decide (i≥2^63)=false:=decide_eq_false (by omega)
  rw[e1,e2,m5]) (by rw[h1];simpa using h2) ⟨.str ⟨#[c]⟩,H,I.tok _,⟨_,rfl⟩,q⟩) hs
def uK(K:PySem.W.Frag):R2:=fun x y H Q=>fh K x y H Q\/dX K x y H Q\/FG x y H Q
theorem EG:kP X (uK X.K):=cE.or (eU.or QA)
theorem TX(its:List Value)(n j:Nat)(u:Value):Obj.mapSeq (·.setIfInBounds j u) {cls:= .type "list",data:= .seq its.toArray n}={cls:= .type "list",data:= .seq (its.set j u).toArray n}:=by
 simp[Obj.mapSeq]
theorem Inv.lst{pins:List (Addr×Obj)}{σ:St}{H:Hp}{s:Shared}{p:Addr}{xs:List V}(I:Inv X pins σ H s)(h:H p=some (.lst xs)):
  ∃(its:List Value) (n:Nat),Vals xs its/\s.heap.get? p=some {cls:= .type "list",data:= .seq its.toArray n}/\xs.length<=sizeLine:=by
 obtain⟨z,its,n,r,e⟩:=I.hok p _ h
 exact⟨its,n,r,e,z⟩
theorem Inv.Vf{pins:List (Addr×Obj)}{σ:St}{H:Hp}{s:Shared}{p:Addr}{xs ys:List V}{its its':List Value}{n n':Nat}{f:Obj->Obj}(I:Inv X pins σ H s)(h:H p=some (.lst xs))
  (ho:s.heap.get? p=some {cls:= .type "list",data:= .seq its.toArray n}) (hf:f {cls:= .type "list",data:= .seq its.toArray n}={cls:= .type "list",data:= .seq its'.toArray n'}) (r:Vals ys its') (hz:ys.length<=sizeLine) (t:Nat):
  Inv X pins σ (upd H p (.lst ys)) {s with heap:=s.heap.update p f,toks:=t}:=by
 have e:(s.heap.update p f).get? p=some {cls:= .type "list",data:= .seq its'.toArray n'}:=by
  rw[uO f ho (by rw[hf]<;>rfl),hf]
 refine I.write (x:=p) (e:=p) (by rw[h];trivial) (.inl rfl) (fun b u hb q=>(kh _ _ (bJ hb)).trans q) ⟨_,e⟩ ?_
 exact⟨hz,its',n',r,e⟩
def ql:V->V->V->Hp->(Hp->Prop)->Prop:=fun o i v H Q=>∃p xs k j,o= .ref p/\i= .int k/\H p=some (.lst xs)/\gF xs.length k=some j/\Q (upd H p (.lst (xs.set j v)))
theorem set_list:wV X ql:=by
 intro pins s σ H o i v ov iv u Q I ro ri rv h
 obtain⟨p,xs,k,j,rfl,rfl,hp,hj,q⟩:=h
 cases ro
 obtain⟨t,rfl⟩:=ri
 obtain⟨its,n,r,ho,hz⟩:=I.lst hp
 obtain⟨h1,h2,h3,h4⟩:=Dh hj
 have hl:=r.length
 have hn:=oj
 have I':Inv X pins σ (upd H p (.lst (xs.set j v))) {s with heap:=s.heap.update p (Obj.mapSeq (·.setIfInBounds j u))}:=
  I.Vf hp ho (TX its n j u) (r.set rv j) (by rw[gQ];exact hz) s.toks
 by_cases h0:0<=k
 ·have hk:k.toNat=j:=by
   rw[seqIndex_of h0 h4] at h1
   exact iD h1
  exact PySem.W.ki_setAt ho h0 (by omega) (by rw[dg,<-hl];exact h4) (by rw[hk];exact⟨_,I',q⟩)
 ·have hk:(k+(its.toArray.size:Int)).toNat=j:=by
   rw[seqIndex_neg (by omega) h3] at h1
   rw[dg,<-hl]
   exact iD h1
  exact PySem.W.ki_setBack ho (by omega) (by rw[dg,<-hl];exact h3) (by omega) (by rw[hk];exact⟨_,I',q⟩)
theorem SK(lo hi:Option Int)(n:Nat):(sliceBounds lo hi none n).1=((HT.dw n 0 lo:Nat):Int)/\(sliceBounds lo hi none n).2.1=((HT.dw n n hi:Nat):Int)/\(sliceBounds lo hi none n).2.2=1:=by
  refine⟨?_,?_,rfl⟩
  · cases lo with
    |none=>simp[sliceBounds,HT.dw]
    | some i =>
      simp only[sliceBounds,HT.dw,Option.getD_none,show(1:Int)>0 by decide,if_true]
      by_cases h:i<0
      · simp only[h,if_true]<;>omega
      · simp only[h,if_false]<;>omega
  · cases hi with
    |none=>simp[sliceBounds,HT.dw]
    | some i =>
      simp only[sliceBounds,HT.dw,Option.getD_none,show(1:Int)>0 by decide,if_true]
      by_cases h:i<0
      · simp only[h,if_true]<;>omega
      · simp only[h,if_false]<;>omega
theorem Td(its:List Value)(lo hi:Option Int):slicePick its.toArray lo hi none=((its.drop (HT.dw its.length 0 lo)).take (HT.dw its.length its.length hi-HT.dw its.length 0 lo)).toArray:=by
 obtain⟨h1,h2,h3⟩:=SK lo hi its.toArray.size
 unfold slicePick
 rw[h1,h2,h3]
 simp only[sliceRange_one,pick_run,dg]<;>rfl
def kY(K:PySem.W.Frag):V->Option Int->Option Int->Hp->VK->Prop:=fun x lo hi H Q=>∃a xs,x= .ref a/\aS K H a xs/\∀p,H p=none->Q (.ref p) (upd H p (.lst (k8 xs lo hi)))
theorem mW:Jj X (kY X.K):=by
 intro pins s σ H x v vl vu lo hi sl Q I rx hs pl pu h
 obtain⟨a,xs,rfl,hx,q⟩:=h
 cases rx
 obtain⟨its,r,ht,hz⟩:=I.list hx
 have hlen:=r.length
 refine⟨"list",_,slot_list_getitem.lookup,ht.isList.typeIs,?_⟩
 refine wpAny_getItem_list_slice ht.isList hs pl pu .none (by simp) ?_ (by rw[dg]<;>omega)
 rw[Td,<-hlen]
 refine⟨.ref s.heap.objs.size,_,I.laid (t':=s.toks) (o:= .lst (k8 xs lo hi)) (fun b ob q=>bQ _ q) (aF _) ?_,rfl,q _ (I.hok.fresh (aF _))⟩
 exact⟨fq (Kn xs lo hi) hz,_,0,(r.drop (HT.dw xs.length 0 lo)).take (HT.dw xs.length xs.length hi-HT.dw xs.length 0 lo),fP _ rfl⟩
def lI:V->Bool
 | .aC=>true
 | .bl _=>true
 | .int _=>true
 | .str _=>true
 |_=>false
def lP:V->V->Bool
 | .aC, .aC=>true
 | .bl a, .bl b=>a==b
 | .bl a, .int b=>(if a then 1 else 0)==b
 | .int a, .bl b=>a==(if b then 1 else 0)
 | .int a, .int b=>a==b
 | .str a, .str b=>a==b
 |_,_=>false
theorem Wq{A:Around}{s:Shared}{y x:V}{u v:Value}(ry:RelV y u)(rx:RelV x v)(fy:lI y=true)(fx:lI x=true):SeqAt.EqAt A s u v (lP y x):=by
  cases y with
  | aC =>
    cases ry
    cases x with
    |aC=>cases rx;exact SeqAt.EqAt.same _
    |bl b=>cases rx;exact SeqAt.EqAt.none_bool b
    |int b=>obtain⟨t,rfl⟩:=rx;exact SeqAt.EqAt.none_int b t
    |str b=>obtain⟨t,rfl⟩:=rx;exact SeqAt.EqAt.none_str b t
    |_=>exact absurd (show false=true from fx) bq
  | bl a =>
    cases ry
    cases x with
    |aC=>cases rx;exact SeqAt.EqAt.bool_none a
    |bl b=>cases rx;exact SeqAt.EqAt.bool_bool a b
    |int b=>obtain⟨t,rfl⟩:=rx;exact SeqAt.EqAt.bool_int a b t
    |str b=>obtain⟨t,rfl⟩:=rx;exact SeqAt.EqAt.bool_str a b t
    |_=>exact absurd (show false=true from fx) bq
  | int a =>
    obtain⟨t',rfl⟩:=ry
    cases x with
    |aC=>cases rx;exact SeqAt.EqAt.int_none a t'
    |bl b=>cases rx;exact SeqAt.EqAt.int_bool a t' b
    |int b=>obtain⟨t,rfl⟩:=rx;exact SeqAt.EqAt.int_int a t' b t
    |str b=>obtain⟨t,rfl⟩:=rx;exact SeqAt.EqAt.int_str a t' b t
    |_=>exact absurd (show false=true from fx) bq
  | str a =>
    obtain⟨t',rfl⟩:=ry
    cases x with
    |aC=>cases rx;exact SeqAt.EqAt.str_none a t'
    |bl b=>cases rx;exact SeqAt.EqAt.str_bool a t' b
    |int b=>obtain⟨t,rfl⟩:=rx;exact SeqAt.EqAt.str_int a t' b t
    |str b=>obtain⟨t,rfl⟩:=rx;exact SeqAt.EqAt.str_str a t' b t
    |_=>exact absurd (show false=true from fx) bq
  |_=>exact absurd (show false=true from fy) bq
def kX(x:V)(u:Value):Bool:=match u with
 | .none=>lP .aC x
 | .bool b=>lP (.bl b) x
 | .int i _=>lP (.int i) x
 | .str z _=>lP (.str z) x
 |_=>false
theorem G8{x y:V}{u:Value}(r:RelV y u)(f:lI y=true):kX x u=lP y x:=by
 cases y with
 |aC=>cases r;rfl
 |bl b=>cases r;rfl
 |int i=>obtain⟨t,rfl⟩:=r;rfl
 |str z=>obtain⟨t,rfl⟩:=r;rfl
 |_=>exact absurd (show false=true from f) bq
theorem CM{x:V}:∀{xs:List V} {us:List Value},Vals xs us->xs.all lI=true->us.any (kX x)=xs.any fun y=>lP y x
  |_,_, .nil,_=>rfl
  | y :: xs, u :: us, .cons r t, f => by
    rw[mD,dP] at f
    rw[lB,lB,G8 r f.1,CM t f.2]
theorem Cr{A:Around}{s:Shared}{x:V}{v:Value}(rx:RelV x v)(fx:lI x=true):∀{xs:List V} {us:List Value},Vals xs us->xs.all lI=true->∀u∈us,SeqAt.EqAt A s u v (kX x u)
  |_,_, .nil,_=>fun u hu=>by cases hu
  | y :: xs, u :: us, .cons r t, f => fun u' hu => by
    rw[mD,dP] at f
    rcases aG.mp hu with rfl|hu
    · rw[G8 r f.1];exact Wq r rx f.1 fx
    · exact Cr rx fx t f.2 u' hu
def lH(x:V)(xs:List V):Bool:=xs.any fun y=>lP y x
def wg(K:PySem.W.Frag)(neg:Bool):R2:=fun x y H Q=>∃p xs,y= .ref p/\(aS K H p xs\/fO K H p xs)/\lI x=true/\xs.all lI=true/\Q (.bl (if neg then !lH x xs else lH x xs)) H
theorem Sb:cR X (compareOp .In) (wg X.K false):=by
 intro pins s σ H x y v u Q I rx ry h
 obtain⟨p,xs,rfl,hq,fx,fs,q⟩:=h
 cases ry
 rcases hq with hq|hq
 ·obtain⟨its,r,pl,hz⟩:=I.list hq
  refine SeqAt.in_listAt (kX x) pl.isList (fun w hw=>Cr rx fx r fs w (by simpa using hw)) ⟨.bl _,H,I,rfl,?_⟩
  rw[show its.toArray.any (kX x)=its.any (kX x) by simp,CM r fs]
  exact q
 ·obtain⟨its,r,pl,hz⟩:=I.tuple hq
  refine SeqAt.in_tupleAt (kX x) pl (fun w hw=>Cr rx fx r fs w (by simpa using hw)) ⟨.bl _,H,I,rfl,?_⟩
  rw[show its.toArray.any (kX x)=its.any (kX x) by simp,CM r fs]
  exact q
theorem Ht:fW X (.builtin "len") (fun xs H Q=>∃p ys,xs=[.ref p]/\(aS X.K H p ys\/fO X.K H p ys)/\Q (.int ys.length) H):=by
 intro pins s σ H xs us Q I r h
 obtain⟨p,ys,rfl,hq,q⟩:=h
 obtain⟨u,rfl,rx⟩:=vals1 r
 cases rx
 have hn:=oj
 rcases hq with hq|hq
 ·obtain⟨its,r',pl,hz⟩:=I.list hq
  have hlen:=r'.length
  exact Calls.call_len_list pl.isList (by simp only[dg]<;>omega) ⟨.int ys.length,H,I.tok _,⟨s.toks+1,by rw[dg,hlen]⟩,q⟩
 ·obtain⟨its,r',pl,hz⟩:=I.tuple hq
  have hlen:=r'.length
  exact len_tuple pl (by simp only[dg]<;>omega) ⟨.int ys.length,H,I.tok _,⟨s.toks+1,by rw[dg,hlen]⟩,q⟩
theorem Sw:fW X (.type "list") (fun xs H Q=>∃p ys,xs=[.ref p]/\(aS X.K H p ys\/fO X.K H p ys)/\∀l,H l=none->Q (.ref l) (upd H l (.lst ys))):=by
 intro pins s σ H xs us Q I r h
 obtain⟨p,ys,rfl,hq,q⟩:=h
 obtain⟨u,rfl,rx⟩:=vals1 r
 cases rx
 have fin:∀(its:List Value),Vals ys its->ys.length<=sizeLine->∀(h':Heap) (c':Nat),(∀b o',s.heap.get? b=some o'->h'.get? b=some o')->
   h'.get? s.heap.objs.size=some {cls:= .type "list",dict:=none,data:= .seq its.toArray c',slots:= #[]}->EP X pins σ Q (.ref s.heap.objs.size) {s with heap:=h'}:=fun its r' hz h' c' kp e=>
  ⟨.ref s.heap.objs.size,_,I.laid (t':=s.toks) kp (aF _) (show cA X.prog X.w _ h' _ (.lst ys) from⟨hz,its,c',r',e⟩),rfl,q _ (I.hok.fresh (aF _))⟩
 rcases hq with hq|hq
 ·obtain⟨its,r',pl,hz⟩:=I.list hq
  have hlen:=r'.length
  obtain⟨o,ho,hc,n,hd⟩:=pl.isList
  exact call_list_seq p (.inl rfl) ho hc hd (fun h' c' kp e=>fin its r' hz h' c' kp e) (by simp only[dg]<;>omega)
 ·obtain⟨its,r',pl,hz⟩:=I.tuple hq
  have hlen:=r'.length
  obtain⟨o,ho,hc,n,hd⟩:=pl
  exact call_list_seq p (.inr rfl) ho hc hd (fun h' c' kp e=>fin its r' hz h' c' kp e) (by simp only[dg]<;>omega)
def rT(K:PySem.W.Frag)(T:String)(x:V)(H:Hp):Prop:=match x with
 | .str _=>T="str"
 | .int _=>T="int"
 | .ref p => (T = "list" /\ ∃ xs, aS K H p xs) \/ (T = "tuple" /\ ∃ o, K.lookup p = some o /\ o.cls = .type "tuple" /\ o.dict = none) \/
   (T="dict" /\((∃kvs,H p=some (.dK kvs))\/(∃kvs,H p=some (.dT kvs))\/∃o kvs,H p=some (.gm o (.dK kvs))))\/(T="set" /\∃S n,H p=some (.set S n))
 |_=>False
theorem HM{pins:List (Addr×Obj)}{σ:St}{H:Hp}{s:Shared}{T:String}{x:V}{v:Value}(I:Inv X pins σ H s)(r:RelV x v)(ty:rT X.K T x H):
    s.TypeIs v T/\∀a,v= .ref a->∃ob,s.heap.get? a=some ob/\ob.dict=none:=by
  cases x with
  | str z =>
    obtain⟨t,rfl⟩:=r
    cases (show T="str" from ty)
    exact⟨typeIs_str s z t,fun _ e=>nomatch e⟩
  | int i =>
    obtain⟨t,rfl⟩:=r
    cases (show T="int" from ty)
    exact⟨typeIs_int s i t,fun _ e=>nomatch e⟩
  | ref p =>
    cases r
    rcases ty with ⟨rfl,xs,hq⟩|⟨rfl,o,hk,hc,hd⟩|⟨rfl,hk⟩|⟨rfl,S,n,hk⟩
    · obtain⟨its,_,pl,_⟩:=I.list hq
      refine⟨pl.isList.typeIs,fun a e=>?_⟩
      cases e
      obtain⟨o,n,e,c,hd,_⟩:=pl
      exact⟨o,e,hd⟩
    · refine⟨⟨o,I.cC p o hk,hc⟩,fun a e=>?_⟩
      cases e
      exact⟨o,I.cC _ o hk,hd⟩
    · have z:∃o,s.heap.get? p=some o/\o.ExactDict:=by
        rcases hk with ⟨kvs,hk⟩|⟨kvs,hk⟩|⟨ob,kvs,hk⟩
        · obtain⟨_,_,_,_,o,_,_,e,ex,_⟩:=I.hok p _ hk
          exact⟨o,e,ex⟩
        · obtain⟨_,_,_,_,o,_,_,e,ex,_⟩:=I.hok p _ hk
          exact⟨o,e,ex⟩
        · obtain⟨_,_,_,_,_,o,_,_,e,ex,_⟩:=I.hok p _ hk
          exact⟨o,e,ex⟩
      obtain⟨o,e,ex⟩:=z
      refine⟨⟨o,e,ex.1⟩,fun a e2=>?_⟩
      cases e2
      exact⟨o,e,ex.2.1⟩
    · obtain⟨o,_,_,_,e,ex,_⟩:=I.hok p _ hk
      refine⟨⟨o,e,ex.1⟩,fun a e2=>?_⟩
      cases e2
      exact⟨o,e,ex.2.1⟩
  |_=>exact False.elim ty
def HA(K:PySem.W.Frag)(T:String)(r:V->List V->Hp->VK->Prop)(to:TE):TE:=fun σ H Q=>to σ H fun x H1=>rT K T x H1/\r x [] H1 Q
def Ei(K:PySem.W.Frag)(T:String)(r:V->List V->Hp->VK->Prop)(to:TE)(t:TA):TE:=fun σ H Q=>to σ H fun x H1=>rT K T x H1/\t σ H1 fun xs H2=>r x xs H2 Q
variable{o e:Expr}{es:List Expr}{to:TE}{t:TA}{name:Str}{apos cpos:Pos}{T id:String}{r:V->List V->Hp->VK->Prop}
theorem JK(pa:PlainAttrs T)(slot:Slot T name id)(hty:typeOf (.builtin id)=pure (.type "method_descriptor"))(hm:wj X id r)(ho:PE X o to)
  (hbase:attributeBase o name X.env (eval o X.env)=eval o X.env:=by rfl) (hline:(apos.endLine==cpos.line)=true:=by rfl):PE X (.Call (.Attribute o name apos) [] [] cpos) (HA X.K T r to):=by
 intro pins s σ H Q I h
 refine wpAny_Call_method0_late hbase hline (aH (ho pins s σ H _ I h) fun v s1 ⟨x,H1,I1,r1,ty,q1⟩=>?_)
 obtain⟨h1,h2⟩:=HM I1 r1 ty
 exact⟨T,id,pa,slot,hty,h1,h2,Calls.callWith_builtin rfl (PySem.evalArgs_none (hm pins s1 σ H1 x [] v [] Q I1 r1 .nil q1))⟩
theorem tF(pa:PlainAttrs T)(slot:Slot T name id)(hty:typeOf (.builtin id)=pure (.type "method_descriptor"))(hm:wj X id r)(ho:PE X o to)(ha:PA X (e::es) t)
  (hbase:attributeBase o name X.env (eval o X.env)=eval o X.env:=by rfl)
  (hfew : ((backTo cpos (starEach (e :: es) X.env)).all (fun x => !x.1) && (backToKw cpos (keywordEach [] X.env)).all (fun x => x.1.isSome)
   && decide ((e::es).length+([]:List Keyword).length+(if([]:List Keyword).isEmpty then 0 else 1)<30))=true:=by rfl)
  (hline:(apos.endLine==cpos.line)=true:=by rfl) (hs:starEach (e::es) X.env=(false,eval e X.env)::starEach es X.env:=by rfl) (hplain:(backTo cpos (starEach es X.env)).any (·.1)=false:=by rfl):
  PE X (.Call (.Attribute o name apos) (e::es) [] cpos) (Ei X.K T r to t):=by
 intro pins s σ H Q I h
 refine wpAny_Call_method_late hbase hfew hline rfl (aH (ho pins s σ H _ I h) fun v s1 ⟨x,H1,I1,r1,ty,q1⟩=>?_)
 obtain⟨h1,h2⟩:=HM I1 r1 ty
 refine⟨T,id,pa,slot,hty,h1,h2,?_⟩
 have hA:=ha cpos pins s1 σ H1 _ I1 q1
 rw[hs] at hA⊢
 refine Calls.callWith_builtin (by show(false||(backTo cpos (starEach es X.env)).any (·.1))=false;rw[hplain]<;>rfl) (Calls.evalArgs_plain ?_)
 exact aH hA fun us s2 ⟨vs,H2,I2,r2,q2⟩=>hm pins s2 σ H2 x vs v us Q I2 r1 r2 q2
/-xs.append(e),list.index on a module's tuple .. are wj facts of 06m-/
end
def Iz(X:Cx)(id:String)(r:V->List V->Hp->VK->Prop):Prop:=
 ∀(pins:List (Addr×Obj)) (s:Shared) (σ:St) (H:Hp) (x:V) (xs:List V) (v:Value) (us:List Value) (Q:VK),Inv X pins σ H s->RelV x v->Vals xs us->r x xs H Q->
  wpAny (model X.prog X.w) X.A (call (.builtin id) (v::us)) (EP X pins σ Q) X.xe s
theorem Vals.one{x:V}{us:List Value}(h:Vals [x] us):∃u,us=[u]/\RelV x u:=by
 cases h with
 |cons r t=>cases t;exact⟨_,rfl,r⟩
theorem Vals.two{x y:V}{us:List Value}(h:Vals [x,y] us):∃u v,us=[u,v]/\RelV x u/\RelV y v:=by
  cases h with
  | cons r t =>
    obtain⟨v,e,q⟩:=Vals.one t
    exact⟨_,v,by rw[e],r,q⟩
theorem Vals.dropLast{xs:List V}{us:List Value}(h:Vals xs us):Vals xs.dropLast us.dropLast:=by
  induction h with
  |nil=>exact .nil
  | cons r t ih =>
    cases t with
    |nil=>exact .nil
    |cons q t'=>exact .cons r ih
section
variable{X:Cx}{pins:List (Addr×Obj)}{σ:St}{H:Hp}{s:Shared}{l b:Addr}{xs ys zs:List V}
theorem Inv.Hq{its its':List Value}{n:Nat}{f:Array Value->Array Value}{t':Nat}(I:Inv X pins σ H s)(hH:H l=some (.lst xs))
  (e:s.heap.get? l=some {cls:= .type "list",data:= .seq its.toArray n}) (hf:f its.toArray=its'.toArray) (hv:Vals ys its') (hz:ys.length<=sizeLine):
  Inv X pins σ (upd H l (.lst ys)) {s with heap:=s.heap.update l (Obj.mapSeq f),toks:=t'}:=by
 have q:=PySem.IsL.update e f
 rw[hf] at q
 refine I.write (x:=l) (e:=l) (by rw[hH];exact trivial) (.inl rfl) (fun b' u hb hu=>(kh s.heap (Obj.mapSeq f) (bJ hb)).trans hu) ⟨_,q⟩ ?_
 exact⟨hz,its',_,hv,q⟩
theorem Inv.Gf{its:List Value}{t':Nat}(I:Inv X pins σ H s)(hv:Vals ys its)(hz:ys.length<=sizeLine):
  Inv X pins σ (upd H s.heap.objs.size (.lst ys)) {s with heap:=s.heap.push {cls:= .type "list",data:= .seq its.toArray},toks:=t'}:=
 I.laid (fun _ _ q=>bQ _ q) (aF _) ⟨hz,its,0,hv,fP _ rfl⟩
theorem Inv.fresh(I:Inv X pins σ H s):H s.heap.objs.size=none:=I.hok.fresh (aF _)
theorem Inv.rP(I:Inv X pins σ H s)(hH:H l=some (.lst xs)):xs.length<=sizeLine/\∃(its:List Value) (n:Nat),Vals xs its/\xs.length=its.length/\s.heap.get? l=some {cls:= .type "list",data:= .seq its.toArray n}:=by
 obtain⟨z,its,n,r,e⟩:=I.hok l _ hH
 exact⟨z,its,n,r,r.length,e⟩
theorem Wn{n:Nat}(h:n<=sizeLine):Builtin.List.listTooLong n=false:=by
 unfold Builtin.List.listTooLong
 exact decide_eq_false (by omega)
end
section
variable{X:Cx}
def Dk:V->List V->Hp->VK->Prop:=fun x vs H Q=>∃l xs y,x= .ref l/\vs=[y]/\H l=some (.lst xs)/\xs.length<sizeLine/\Q .aC (upd H l (.lst (xs++[y])))
theorem qE:Iz X "list.append" Dk:=by
 intro pins s σ H x vs v us Q I rx rv h
 obtain⟨l,xs,y,rfl,rfl,hH,hz,q⟩:=h
 cases rx
 obtain⟨u,rfl,ru⟩:=rv.one
 obtain⟨z,its,n,r,hl,e⟩:=I.rP hH
 refine call_meets F.slot_list_append ⟨_,e,rfl⟩ F.entry_list_append (F.args_list_append_2 _ _) (PySem.list_append l its.toArray n u (by rw[dg];omega)) ⟨e,?_⟩
 refine⟨.aC,_,I.Hq (its':=its++[u]) hH e (by simp) (r.append (.cons ru .nil)) ?_,rfl,q⟩
 rw[c7,kj]
 omega
def Qc:V->List V->Hp->VK->Prop:=fun x vs H Q=>∃l b xs zs,x= .ref l/\vs=[.ref b]/\H l=some (.lst xs)/\H b=some (.lst zs)/\xs.length+zs.length<=sizeLine/\Q .aC (upd H l (.lst (xs++zs)))
theorem WS:Iz X "list.extend" Qc:=by
 intro pins s σ H x vs v us Q I rx rv h
 obtain⟨l,b,xs,zs,rfl,rfl,hH,hB,hz,q⟩:=h
 cases rx
 obtain⟨u,rfl,ru⟩:=rv.one
 cases ru
 obtain⟨z,its,n,r,hl,e⟩:=I.rP hH
 obtain⟨z2,its2,n2,r2,hl2,e2⟩:=I.rP hB
 have hsz:its.toArray.size+its2.toArray.size<=sizeLine:=by rw[dg,dg];omega
 have Qf:¬(!its.toArray.isEmpty && Builtin.List.listTooLong (its.toArray.size+its2.toArray.size))=true:=by
  rw[Wn hsz,Bool.and_false]
  exact bq
 refine call_meets F.slot_list_extend ⟨_,e,rfl⟩ F.entry_list_extend (F.args_list_extend_2 _ _)
  (AutoSeq1.list_extend_list_list_0 l its.toArray n b its2.toArray n2 Qf (by rw[dg];omega) (by omega)) ⟨e,e2,?_⟩
 refine⟨.aC,_,I.Hq (its':=its++its2) hH e (by simp) (r.append r2) ?_,rfl,q⟩
 rw[c7]
 omega
def Ba:R2:=fun x y H Q=>∃l b xs zs,x= .ref l/\y= .ref b/\H l=some (.lst xs)/\H b=some (.lst zs)/\xs.length+zs.length<=sizeLine/\∀p,H p=none->Q (.ref p) (upd H p (.lst (xs++zs)))
theorem nv:cR X (binaryOp .Add) Ba:=by
 intro pins s σ H x y v u Q I rx ry h
 obtain⟨l,b,xs,zs,rfl,rfl,hH,hB,hz,q⟩:=h
 cases rx
 cases ry
 obtain⟨z,its,n,r,hl,e⟩:=I.rP hH
 obtain⟨z2,its2,n2,r2,hl2,e2⟩:=I.rP hB
 refine PySem.P.add_list e e2 ?_ (by rw[dg,dg];omega)
 have ea:its.toArray++its2.toArray=(its++its2).toArray:=by simp
 rw[ea]
 exact⟨.ref _,_,I.Gf (t':=s.toks) (r.append r2) (by rw[c7];omega),rfl,q _ I.fresh⟩
end
end L2
namespace Att
open PySem PySem.W PySem.Calls PyProof.Rows
theorem Ph{P:Params}{h:Heap}:∀(ns:List Int) (vs:List Value),WellAll P h vs (ns.map WData.int)->IntsAre vs ns:=by
  intro ns
  induction ns with
  | nil =>
    intro vs w
    rw[k9] at w
    cases w
    exact .nil
  | cons n ns ih =>
    intro vs w
    rw[bx] at w
    cases w with
    | cons a b =>
      cases a
      exact .cons _ _ (ih _ b)
theorem Ul{l:OpenLaw}{n:Nat}(hn:l.most=some n){P:Params}{h:Heap}{args:List WData}{vals:List Value}
    (hpre:l.row.toRowW.claim.pre args=true) (hwl:WellAll P h vals args):
    ∃a vs ns,vals=[Value.ref a]/\args=[WData.list (ns.map WData.int)]/\h.get? a=some {cls:= .type "list",data:= .seq vs.toArray}/\IntsAre vs ns/\ns.length<=n:=by
  have hsh:WShape.hasAll [] args [.list .int]=true:=(pre_splitW hpre).1
  have hc:l.pre.holds [] {args:=args}=true:=(pre_splitW hpre).2
  obtain⟨d,r,rfl,h1,h2⟩:=hasAllW_cons hsh
  obtain rfl:=hasAllW_nil h2
  obtain⟨xs,rfl,h3⟩:=hasW_list h1
  obtain⟨ns,rfl⟩:=items_int h3
  have hlen:ns.length<=n:=by
    unfold OpenLaw.pre at hc
    have h4:(WTm.not (.lt (.lit (.int (n:Int))) (.len (.arg 0)))).holds [] {args:=[.list (ns.map .int)]}=true:=by
      have h4:=(holds_andW hc).1
      rw[hn] at h4
      exact h4
    have h5:=condW_of h4 (w_not (w_lt w_lit (w_len_list (w_arg rfl))))
    rw[ak] at h5
    refine Bj fun q=>?_
    have q':(n:Int)<((ns.length:Nat):Int):=by omega
    first
      |(rw[decide_eq_true q'] at h5;exact absurd h5 (by decide))
      |(simp at h5;omega)
  cases hwl with
  | cons w1 w2 =>
    cases w2
    cases w1 with
    |list ho hall=>exact⟨_,_,ns,rfl,rfl,ho,Ph ns _ hall,hlen⟩
theorem Lg(l:OpenLaw)(args:List WData):l.row.toRowW.claim.post args (.bool true) args=true:=
 postW_of (r:=l.row.toRowW) (X:=(true==true))
  (show WShape.has [] (.bool true) .bool=true by first|rfl|decide|simp[WShape.has,WShape.arms,WShape.armsAll])
  (show(WTm.eq .res (.lit (.bool true))).value [] {args:=args,res:=some (.bool true),after:=args}=some (.bool (true==true)) from w_eq_bool (w_res rfl) w_lit) rfl
theorem O8{l:OpenLaw}{n:Nat}{q:Program}{loose:List Str}{XP:(Str->Option Value)->Heap->Prop}{YP:World->Heap->Prop}{d:DefRec}
  (hn:l.most=some n) (hdf:d.params.defaults=[])
  (call : ∀ (w : World) (s₀ s₁ : Shared) (mg mb : Str -> Option Value) (fa : Addr) (o : Obj) (pm cd doc : Value) (a : Addr) (vs : List Value) (ns : List Int),
   Ground q loose [] XP w s₀ mg mb s₁.heap->YP w s₁.heap->
   s₁.heap.get? fa=some o->o.data= .func (docDef d.name d.params d.body d.scope pm cd doc)->s₁.heap.CodeRec cd d.name->mg d.name=some (.ref fa)->
   s₁.heap.get? a=some {cls:= .type "list",data:= .seq vs.toArray}->IntsAre vs ns->ns.length<=n->s₁.gens= #[]->
   codeAny (model l.prog w) callerA (.call (.ref fa) ⟨[.ref a],[]⟩) (fun r s'=>r= .ok (.ret (.bool true))/\OldK s₁.heap s'.heap/\s'.os=s₁.os/\AllBare s'.gens) s₁):
  WalkO q loose XP YP l.row.toRowW d [] (fun f vs=>PySem.call f vs):=by
 intro w s₀ s₁ mg mb G Y fa o pm cd doc dV kV ho hd hcd hD hmg hg args vals as hpre hlay hrd hwl hlo
 obtain rfl:dV= .none:=Dflts.none hD hdf
 obtain rfl:kV= .none:=Dflts.noKw hD
 obtain⟨a,vs,ns,rfl,rfl,hobj,hints,hlen⟩:=Ul hn hpre hwl
 refine enter_call (codeAny_mono (call w s₀ s₁ mg mb fa o pm cd doc a vs ns G Y ho (fd_plain hd) hcd hmg hobj hints hlen hg) fun r s' hq=>?_)
 obtain⟨rfl,h2,h3,h4⟩:=hq
 exact⟨.inl ⟨.bool true, .bool true,[],rfl,fun _=>rfl, .bool true,Lg l _,fun _=>⟨List.Pairwise.nil,fun _ hm=>(nomatch hm)⟩⟩,h2,h3,h4⟩
section
variable{prog:Program}{w:World}{A:Around}{E:Value->Shared->Prop}{s:Shared}{K:Frag}
def ledger(h:Heap)(L d:Addr):List (Addr×Obj):=(List.range h.objs.size).filterMap fun a=>if a=L\/a=d then none else(h.get? a).map fun o=>(a,o)
end
end Att
namespace L2
open PySem PySem.Spec PyProof.Rows
theorem DV:∀{vs:List Value} {ns:List Int},IntsAre vs ns->Vals (ns.map V.int) vs
 |_,_, .nil=> .nil
 |_,_, .cons n t h=> .cons ⟨t,rfl⟩ (DV h)
def zz(H:Hp):Prop:=∀b,H b=none\/∃o xs,H b=some (.gm o (.lst xs))
theorem Oo{P:Program}{w:World}{K:PySem.W.Frag}{mg mb:Str->Option Value}{CX:kg}{k:Nat}{fa a:Addr}{fd:FuncData}{x:Str}{sp:Sp}{s₁:Shared}{vs:List Value}{ns:List Int}
    (KX:K.In s₁.heap) (hns:s₁.heap.Ns mainGlobals mg) (hb:s₁.heap.Ns builtinsNs mb) (KA:∀x:Str,x≠"__name__" ->mb x=bootBuiltins x) (hlim:s₁.heap.NoLimit) (hg:s₁.gens= #[])
    (ha:s₁.heap.get? a=some {cls:= .type "list",data:= .seq vs.toArray}) (hi:IntsAre vs ns) (hl:ns.length<=sizeLine) (hr:cX k callerA)
    (F:∀base:Heap,K.In base->base.Ns mainGlobals mg->bu P w K mg base CX k fa fd [x] sp) (hbind:∀(s:Shared) (u:Value),BindsTo s fd ⟨[u],[]⟩ [(x,u)])
    (lN:∀H:Hp,zz H->aS K H a (ns.map V.int)->sp [.ref a] H (fun v _=>v= .bl true) fun _ _ _=>False)
    (BU:∀H e s',CX [] H s₁ (fun _ _ _=>False) e s'->False):
    codeAny (model P w) callerA (.call (.ref fa) ⟨[.ref a],[]⟩) (fun r s'=>r= .ok (.ret (.bool true))/\OldK s₁.heap s'.heap/\s'.os=s₁.os/\AllBare s'.gens) s₁:=by
  have rv:=DV hi
  have So:=hi.length
  have core:∀H:Hp,zz H->aS K H a (ns.map V.int)->cT P w H s₁.heap->(∀b,H b≠none->b=a)->(H a≠none->K.lookup a=none)->
      codeAny (model P w) callerA (.call (.ref fa) ⟨[.ref a],[]⟩) (fun r s'=>r= .ok (.ret (.bool true))/\OldK s₁.heap s'.heap/\s'.os=s₁.os/\AllBare s'.gens) s₁:=by
    intro H hO hS hok hA hK
    have EO:∀{b:Addr} {o:Obj},s₁.heap.get? b=some o->H b=none->(lu s₁.heap H).get? b=some o:=fun e n=>N7 e n
    have rJ:∀{b:Addr} {o:Obj} {es:Array DictEntry} {ep:Nat},s₁.heap.get? b=some o->o.data= .dict es ep->H b=none:=fun{b o es ep} e d=>by
      cases q:H b with
      |none=>rfl
      | some u =>
        have e':b=a:=hA b (by rw[q];simp)
        subst e'
        rw[ha] at e;cases e
        have d':Data.seq vs.toArray _=Data.dict es ep:=d
        cases d'
    have uL:∀{b:Addr} {m:Str->Option Value},s₁.heap.Ns b m->(lu s₁.heap H).Ns b m:=fun{b m} ⟨o,es,ep,e,d,r⟩=>⟨o,es,ep,EO e (rJ e d),d,r⟩
    have DJ:K.In (lu s₁.heap H):=fun b o e=>EO (KX b o e) (by
      cases q:H b with
      |none=>rfl
      | some u =>
        have e':b=a:=hA b (by rw[q];simp)
        subst e'
        rw[hK (by rw[q];simp)] at e;cases e)
    have hM:Mod K mg (lu s₁.heap H):=⟨DJ,uL hns,⟨mb,uL hb,KA⟩,let ⟨mc,h1,h2⟩:=hlim;⟨mc,uL h1,h2⟩⟩
    have e0:mT P w K mg (lu s₁.heap H) callerA [] s₁ H:=⟨rfl,hM,fun b o e=>Pj e,mz (Ox _ _),trivial,fun b hb=>absurd (show b∈([]:List Addr) from hb) (by simp),hok, .of_eq hg⟩
    refine codeAny_mono ((F _ DJ (uL hns)).run callerA [] s₁ H ⟨[.ref a],[]⟩ [.ref a] [.ref a] _ _ hr e0 (hbind s₁ (.ref a)) (.cons rfl .nil) (lN H hO hS)) fun r s' h=>?_
    cases r with
    |error e=>exact(BU H e s' h).elim
    | ok fl =>
      cases fl with
      |next=>exact False.elim h
      |brk=>exact False.elim h
      |cont=>exact False.elim h
      | ret u =>
        obtain⟨v,H',os,bare,un,U8,r',q⟩:=h
        have q':v= .bl true:=q
        subst q'
        obtain rfl:u=Value.bool true:=r'
        refine⟨rfl,OldK.of_keep fun b o e=>?_,os,bare⟩
        cases q:H b with
        |none=>exact un.keep b o e q (by intro z;exact absurd (show b∈([]:List Addr) from z) (by simp)) (by simp)
        | some u =>
          rcases hO b with z|⟨ob,xs,z⟩
          · rw[q] at z;cases z
          · have z2:=un.kR b ob _ z
            obtain⟨e1,_⟩:=hok b _ z
            obtain⟨e2,_⟩:=U8 b _ z2
            rw[e] at e1;cases e1
            exact e2
  cases hk:K.lookup a with
  | some o =>
    have e:=KX a o hk
    rw[ha] at e
    cases e
    refine core (fun _=>none) (fun _=> .inl rfl) (.inr ⟨_,vs.toArray,_,hk,rfl,rfl,rfl,by rw[dg,So];exact hl,by simpa using rv⟩) (fun b u z=>by have z':(none:Option HO)=some u:=z;cases z') (fun b z=>absurd rfl z) fun z=>absurd rfl z
  | none =>
    refine core (fun b=>if b=a then some (.gm {cls:= .type "list",data:= .seq vs.toArray} (.lst (ns.map V.int))) else none) (fun b=>?_) (.inl (.inr ⟨{cls:= .type "list",data:= .seq vs.toArray},if_pos rfl⟩)) (fun b u z=>?_) (fun b z=>?_) fun _=>hk
    · by_cases hb:b=a
      · exact .inr ⟨_,_,if_pos hb⟩
      · exact .inl (if_neg hb)
    · by_cases hb:b=a
      · have z':=(if_pos hb).symm.trans z
        cases z'
        subst hb
        exact⟨ha,by rw[ak];exact hl,vs,_,rv,ha⟩
      · have z':=(if_neg hb).symm.trans z
        cases z'
    · by_cases hb:b=a
      · exact hb
      · exact absurd (if_neg hb) z
theorem Lc{l:PySem.W.OpenLaw}{n k:Nat}{q:Program}{loose:List Str}{XP:(Str->Option Value)->Heap->Prop}{YP:World->Heap->Prop}{d:DefRec}{K:Params->PySem.W.Frag}{CX:World->kg}{sp:World->Sp}{x:Str}
  (hn:l.most=some n) (hn2:n<=sizeLine) (hdf:d.params.defaults=[]) (hr:cX k callerA)
  (hY:∀(w:World) (h:Heap),YP w h->(K w.params).In h)
  (F : ∀ (w : World) (mg : Str -> Option Value) (fa : Addr) (h : Heap), (K w.params).In h -> h.Ns mainGlobals mg -> mg d.name = some (.ref fa) ->
   ∃fd:FuncData,(∀(s:Shared) (u:Value),BindsTo s fd ⟨[u],[]⟩ [(x,u)])/\
    ∀base:Heap,(K w.params).In base->base.Ns mainGlobals mg->bu l.prog w (K w.params) mg base (CX w) k fa fd [x] (sp w))
  (lN:∀(w:World) (H:Hp) (a:Addr) (ns:List Int),ns.length<=n->zz H->aS (K w.params) H a (ns.map V.int)->sp w [.ref a] H (fun v _=>v= .bl true) fun _ _ _=>False)
  (BU:∀(w:World) (H:Hp) (s:Shared) (e:Value) (s':Shared),CX w [] H s (fun _ _ _=>False) e s'->False):
  PySem.W.WalkO q loose XP YP l.row.toRowW d [] (fun f vs=>PySem.call f vs):=by
 refine Att.O8 hn hdf fun w s₀ s₁ mg mb fa o pm cd doc a vs ns G Y ho hd hcd hmg hobj hints hlen hg=>?_
 have KX:=hY w _ Y
 obtain⟨fd,hb,hF⟩:=F w mg fa _ KX G.T.g hmg
 exact Oo KX G.T.g G.T.b G.T.builtins G.T.nolimit hg hobj hints (fq hlen hn2) hr hF hb (fun H hO hS=>lN w H a ns hlen hO hS) fun H e s'=>BU w H s₁ e s'
end L2
/-THE LAST THEOREM (shape;LID,My.*are yours):
   My.Adr:a structure of the addresses that your layer names (classes,functions);My.Txt K t:a structure (Prop) of the equations over K;
   My.txt_mk:{K} {implicit addresses ..} (e1:nsIn K mainGlobals "law"=some (some (.ref f))) (e2:K.lookup f=some ⟨oc,od, .func (fnOf "law" "law" params body scope dV kV doc pm an cdv ct),sl⟩) (e3:codeIn K cdv "law"=true) .. :∃t,My.Txt K t
set_option maxRecDepth 100000 in
set_option maxHeartbeats 0 in
(the tactic k_is has no namespace:write k_is)-/
namespace L2
open PySem PySem.Spec PyProof.Rows
def inClass(s:Stmt)(j:Nat):Stmt:=match s with
 | .ClassDef _ _ _ body _ _ _ _ _ _ _=>body.getD j (.Pass ⟨0,0,0,0⟩)
 |_=> .Pass ⟨0,0,0,0⟩
def jM(s:Stmt):Arguments:=match s with
 | .FunctionDef _ a _ _ _ _ _ _ _ _=>a
 |_=>{posonlyargs:=[],args:=[],vararg:=none,kwonlyargs:=[],kw_defaults:=[],kwarg:=none,defaults:=[]}
def jg(s:Stmt):List Stmt:=match s with
 | .FunctionDef _ _ b _ _ _ _ _ _ _=>b
 |_=>[]
def aM(s:Stmt):Scope:=match s with
 | .FunctionDef _ _ _ _ _ _ sc _ _ _=>sc
 |_=>{kind:= .function,names:=[],isGenerator:=false,isCoroutine:=false}
abbrev bD:kg:=fun _ _ _ _ _ _=>False
abbrev E0:XK:=fun _ _ _=>False
theorem vJ{X:Cx}:Passes bD X E0:=fun _ _ _ _ _ _ _ h=>h.elim
structure bH(K:PySem.W.Frag)(x qual:Str)(st:Stmt)(f:Addr)(fd:FuncData):Prop where
 ex:∃(oc:Value) (od:Option Addr) (kV doc pm:Value) (an:Option Addr) (cdv ct:Value) (osl:Array (Option Value)),
  fd=PySem.W.fnOf x qual (jM st) (jg st) (aM st) .none kV doc pm an cdv ct/\K.lookup f=some ⟨oc,od, .func fd,osl⟩/\PySem.W.codeIn K cdv qual=true
 kp:PySem.W.keepIn K (.ref f)=true
section
variable{P:Program}{w:World}{K:PySem.W.Frag}{mg:Str->Option Value}{base:Heap}
theorem bH.ok{x qual:Str}{st:Stmt}{f:Addr}{fd:FuncData}{N ps:List Str}{k:Nat}{sp:Sp}(F:bH K x qual st f fd)(S:ck N ps (aM st))(len:∀vs H Q E,sp vs H Q E->vs.length=ps.length)
  (hbody : ∀ (cdv : Value) (A : Around) (outer : List Env) (s : Shared) (H : Hp) (vs : List V) (Q : VK) (E : XK), cX k (A.deeper (envOfC qual (aM st) s.heap.objs.size f cdv)) -> sp vs H Q E ->
   ∃t,jb (pL bD P w K mg base N qual (aM st) f cdv A outer s H E).vN (jg st) t/\t {nx:=fun _ H'=>Q .aC H',rt:=Q} (start N vs) H):bu P w K mg base bD (k+1) f fd ps sp:=by
 obtain⟨oc,od,kV,doc,pm,an,cdv,ct,osl,rfl,lk,hcd⟩:=F.ex
 refine OG lk hcd S len fun A outer s H vs Q E hr lN=>?_
 obtain⟨t,h,q⟩:=hbody cdv A outer s H vs Q E hr lN
 exact⟨t,h.vN,q⟩
theorem bH.binds{x qual:Str}{st:Stmt}{f:Addr}{fd:FuncData}{ps:List Str}(F:bH K x qual st f fd)
  (h:∀(kV doc pm:Value) (an:Option Addr) (cdv ct:Value) (us:List Value),us.length=ps.length->bindArgs (PySem.W.fnOf x qual (jM st) (jg st) (aM st) .none kV doc pm an cdv ct) ⟨us,[]⟩=pure (ps.zip us)):Binds K fd ps []:=by
 obtain⟨oc,od,kV,doc,pm,an,cdv,ct,osl,rfl,lk,hcd⟩:=F.ex
 exact .all (h kV doc pm an cdv ct)
theorem pS{x qual:Str}{st:Stmt}{f:Addr}{oc:Value}{od an:Option Addr}{osl:Array (Option Value)}{kV doc pm cdv ct:Value}(l:K.lookup f=some ⟨oc,od, .func (PySem.W.fnOf x qual (jM st) (jg st) (aM st) .none kV doc pm an cdv ct),osl⟩)
  (c:PySem.W.codeIn K cdv qual=true) (k:PySem.W.keepIn K (.ref f)=true):bH K x qual st f (PySem.W.fnOf x qual (jM st) (jg st) (aM st) .none kV doc pm an cdv ct):=⟨⟨oc,od,kV,doc,pm,an,cdv,ct,osl,rfl,l,c⟩,k⟩
end
theorem Hh{n:Nat}(h:n<=1000):n<sizeLine:=vG h (by decide)
section
variable{X:Cx}
theorem pv(i:Nat){x:Str}{pos:Pos}(hN:X.N[i]?=some x:=by rfl)(hv:C7 X.env.scope x:=by first|exact Or.inl rfl|exact Or.inr (Or.inl rfl)|exact Or.inr (Or.inr rfl))(hd:(x==("__debug__":Str))=false:=by decide)
  (hcd:(x==("__classdict__":Str))=false:=by decide):PE X (.Name x pos) (cI i):=Lj hN hv hd hcd
end
theorem E3{A B:Prop}(h:B):if false=true then A else B:=by
 rw[if_neg bq]
 exact h
theorem tY{A B:Prop}(h:A):if true=true then A else B:=by
 rw[if_pos rfl]
 exact h
theorem o8{c A B:Prop}[Decidable c](h1:c->A)(h2:¬c->B):if c then A else B:=by
 by_cases h:c
 ·rw[if_pos h]
  exact h1 h
 ·rw[if_neg h]
  exact h2 h
def cQ(H H':Hp):Prop:=∀b o,H b=some o->H' b=some o
theorem cQ.refl(H:Hp):cQ H H:=fun _ _ h=>h
theorem cQ.trans{H H1 H2:Hp}(a:cQ H H1)(b:cQ H1 H2):cQ H H2:=fun c o h=>b c o (a c o h)
theorem cQ.free{H H':Hp}(e:cQ H H'){l:Addr}(h:H' l=Option.none):H l=Option.none:=by
  cases q:H l with
  |none=>rfl
  | some o =>
    rw[e l o q] at h
    cases h
theorem cQ.seq{K:PySem.W.Frag}{H H':Hp}{a:Addr}{xs:List V}(e:cQ H H')(h:aS K H a xs):aS K H' a xs:=by
 rcases h with (h|⟨o,h⟩)|h
 ·exact .inl (.inl (e _ _ h))
 ·exact .inl (.inr ⟨o,e _ _ h⟩)
 ·exact .inr h
end L2
set_option maxHeartbeats 1000000
namespace L2
open PySem PySem.Spec PyProof.Rows
def iS(cells:List (Str×Addr)):List (Str×NameKind)->List (Str×Addr)->List (Str×Addr)
 |[],acc=>acc
 |(n,k)::r,acc=>iS cells r (if k==NameKind.free then(match cells.lookup n with|some a=>(n,a)::acc|none=>acc) else acc)
theorem CT{env:Env}{f:Str×NameKind->List (Str×Addr)->Sem (ForInStep (List (Str×Addr)))}
    (hf:∀x acc,f x acc=if(x.2==NameKind.free)=true then(do let a<-cellOf env x.1;pure (ForInStep.yield ((x.1,a)::acc))) else pure (ForInStep.yield acc)):
    ∀(l:List (Str×NameKind)) (acc:List (Str×Addr)),(∀x∈l,x.2= .free->∃a,env.cells.lookup x.1=some a)->(forIn l acc f:Sem (List (Str×Addr)))=pure (iS env.cells l acc)
  |[],acc,_=>by rw[List.forIn_nil];rfl
  | (n, k) :: r, acc, h => by
    have hr:=fun x hx=>h x (cH _ hx)
    rw[List.forIn_cons,hf]
    by_cases hk:(k==NameKind.free)=true
    · have hk':k=NameKind.free:=by simpa using hk
      obtain⟨a,ha⟩:=h (n,k) bV hk'
      have hc:cellOf env n=pure a:=by unfold cellOf;rw[ha]
      rw[if_pos hk,hc]
      show(forIn r ((n,a)::acc) f:Sem (List (Str×Addr)))=pure (iS env.cells r _)
      rw[CT hf r _ hr,if_pos hk,ha]
    · rw[if_neg hk]
      show(forIn r acc f:Sem (List (Str×Addr)))=pure (iS env.cells r _)
      rw[CT hf r _ hr,if_neg hk]
theorem U9{scope:Scope}{env:Env}(h:∀x∈scope.names,x.2= .free->∃a,env.cells.lookup x.1=some a):closureFor scope env=pure (iS env.cells scope.names []):=by
 simp only[closureFor]
 rw[CT (env:=env) (fun⟨n,k⟩ acc=>by dsimp only) scope.names [] h]
 rfl
theorem Aq{cells:List (Str×Addr)}:∀{l:List (Str×NameKind)} {acc:List (Str×Addr)} {x:Str} {c:Addr},(∀y d,acc.lookup y=some d->cells.lookup y=some d)->(iS cells l acc).lookup x=some c->cells.lookup x=some c
  |[],_,_,_,ha,h=>ha _ _ h
  | (n, k) :: r, acc, x, c, ha, h => by
    refine Aq (l:=r) ?_ h
    intro y d hd
    by_cases hk:(k==NameKind.free)=true
    · rw[if_pos hk] at hd
      cases q:cells.lookup n with
      |none=>rw[q] at hd;exact ha _ _ hd
      | some a =>
        rw[q] at hd
        by_cases hy:(y==n)=true
        · have hy':y=n:=by simpa using hy
          subst hy'
          simp[dY] at hd
          rw[q,hd]
        · have hy':(y==n)=false:=by simpa using hy
          simp only[dY,hy'] at hd
          exact ha _ _ hd
    · rw[if_neg hk] at hd;exact ha _ _ hd
theorem En{cells:List (Str×Addr)}:∀{l:List (Str×NameKind)} {acc:List (Str×Addr)} {x:Str},(acc.lookup x).isSome=true->((iS cells l acc).lookup x).isSome=true
  |[],_,_,h=>h
  | (n, k) :: r, acc, x, h => by
    refine En (l:=r) ?_
    by_cases hk:(k==NameKind.free)=true
    · rw[if_pos hk]
      cases q:cells.lookup n with
      |none=>exact h
      | some a =>
        by_cases hy:(x==n)=true
        · simp[dY,hy]
        · have hy':(x==n)=false:=by simpa using hy
          simp only[dY,hy']
          exact h
    · rw[if_neg hk];exact h
theorem DL{cells:List (Str×Addr)}:∀{l:List (Str×NameKind)} {acc:List (Str×Addr)} {x:Str} {a:Addr},(x,NameKind.free)∈l->cells.lookup x=some a->((iS cells l acc).lookup x).isSome=true
  |[],_,_,_,h,_=>nomatch h
  | (n, k) :: r, acc, x, a, h, hc => by
    rcases aG.mp h with e|h
    · obtain⟨rfl,rfl⟩:=Prod.mk.inj e
      refine En (l:=r) ?_
      rw[if_pos (by decide),hc]
      simp[dY]
    · exact DL (l:=r) h hc
theorem Fy{cells:List (Str×Addr)}{l:List (Str×NameKind)}{x:Str}{a:Addr}(h:(x,NameKind.free)∈l)(hc:cells.lookup x=some a):(iS cells l []).lookup x=some a:=by
 obtain⟨c,e⟩:=yT.mp (DL (acc:=[]) h hc)
 have:=Aq (fun y d (q:([]:List (Str×Addr)).lookup y=some d)=>by simp at q) e
 rw[hc] at this;cases this
 exact e
theorem B3{env:Env}:∀{l:List (Str×NameKind)} {x:Str} {k:NameKind},(∀y∈l,y.2≠ .cell)->
    (l.map fun(n,k)=>if(k==NameKind.free && env.scope.kind== .function && env.kindOf n==some .cell) then(n,NameKind.cell) else(n,k)).lookup x=some k->k= .cell\/k= .free->l.lookup x=some .free
  |[],_,_,_,h,_=>by simp at h
  | (n, q) :: r, x, k, hc, h, hk => by
    have hr:=fun y hy=>hc y (cH _ hy)
    have ih:=B3 (env:=env) (l:=r) (x:=x) (k:=k) hr
    rw[bx] at h
    dsimp only at h
    by_cases hx:(x==n)=true
    · simp only[dY,hx]
      by_cases hq:(q==NameKind.free && env.scope.kind== .function && env.kindOf n==some .cell)=true
      · have:q= .free:=by
          simp only[dP] at hq
          simpa using hq.1.1
        rw[this]
      · rw[if_neg hq] at h
        simp only[dY,hx] at h
        have IC:q=k:=iD h
        rcases hk with e|e
        · exact absurd (IC.trans e) (hc (n,q) bV)
        · rw[IC,e]
    · have hx':(x==n)=false:=by simpa using hx
      simp only[dY,hx']
      refine ih ?_ hk
      by_cases hq:(q==NameKind.free && env.scope.kind== .function && env.kindOf n==some .cell)=true
      · rw[if_pos hq] at h
        simp only[dY,hx'] at h
        exact h
      · rw[if_neg hq] at h
        simp only[dY,hx'] at h
        exact h
theorem E4{env:Env}:∀{l:List (Str×NameKind)} {x:Str},l.lookup x=some .free->
    (l.map fun(n,k)=>if(k==NameKind.free && env.scope.kind== .function && env.kindOf n==some .cell) then(n,NameKind.cell) else(n,k)).lookup x=some .cell\/
    (l.map fun(n,k)=>if(k==NameKind.free && env.scope.kind== .function && env.kindOf n==some .cell) then(n,NameKind.cell) else(n,k)).lookup x=some .free
  |[],_,h=>by simp at h
  | (n, q) :: r, x, h => by
    have ih:=E4 (env:=env) (l:=r) (x:=x)
    rw[bx]
    dsimp only
    by_cases hx:(x==n)=true
    · simp only[dY,hx] at h
      by_cases hq:(q==NameKind.free && env.scope.kind== .function && env.kindOf n==some .cell)=true
      · rw[if_pos hq]
        left
        simp only[dY,hx]
      · rw[if_neg hq]
        right
        simp only[dY,hx]
        exact h
    · have hx':(x==n)=false:=by simpa using hx
      simp only[dY,hx'] at h
      have:=ih h
      by_cases hq:(q==NameKind.free && env.scope.kind== .function && env.kindOf n==some .cell)=true
      · rw[if_pos hq]
        simp only[dY,hx']
        exact this
      · rw[if_neg hq]
        simp only[dY,hx']
        exact this
def eO(sx:Scope)(NX:List Str)(scope:Scope)(N:List Str)(mp:List (Option Nat)):Bool:=
 (scope.kind== .function) && scope.names.all (fun y=>y.2 != .cell) && scope.names.all (fun y=>y.2 != .local||scope.names.lookup y.1==some .local) &&
 scope.names.all (fun y=>y.2 != .free||sx.names.lookup y.1==some .cell||sx.names.lookup y.1==some .free) &&(mp.length==N.length) &&
 ((N.zip mp).all fun p=>match p.2 with|none=>true|some j=>NX[j]?==some p.1 && scope.names.lookup p.1==some .free)
structure dO(sx:Scope)(NX:List Str)(scope:Scope)(N:List Str)(mp:List (Option Nat)):Prop where
 kind:scope.kind= .function
 cell:∀y∈scope.names,y.2≠ .cell
 names:∀y∈scope.names,y.2= .local->scope.names.lookup y.1=some .local
 free:∀y∈scope.names,y.2= .free->sx.names.lookup y.1=some .cell\/sx.names.lookup y.1=some .free
 len:mp.length=N.length
 look:∀(i j:Nat) (x:Str),mp[i]?=some (some j)->N[i]?=some x->NX[j]?=some x/\scope.names.lookup x=some .free
theorem dO.of{sx:Scope}{NX:List Str}{scope:Scope}{N:List Str}{mp:List (Option Nat)}(h:eO sx NX scope N mp=true):dO sx NX scope N mp:=by
 unfold eO at h
 simp only[dP,jJ] at h
 obtain⟨⟨⟨⟨⟨h1,h2⟩,h3⟩,h4⟩,h5⟩,h6⟩:=h
 refine⟨by simpa using h1,fun y hy=>by simpa using h2 y hy,fun y hy e=>?_,fun y hy e=>?_,by simpa using h5,fun i j x e1 e2=>?_⟩
 ·have:=h3 y hy
  simpa[e] using this
 ·have:=h4 y hy
  simpa[e] using this
 ·have hm:(x,some j)∈N.zip mp:=by
   have:(N.zip mp)[i]?=some (x,some j):=by
    rw[List.getElem?_zip_eq_some];exact⟨e2,e1⟩
   exact eY this
  have:=h6 _ hm
  simpa using this
def fZ(mp:List (Option Nat))(σ:St):St:=mp.map fun o=>match o with|none=>none|some j=>match σ[j]? with|some v=>v|none=>none
def iY(X:Cx)(scope:Scope)(C:Addr)(N:List Str)(s₀:Shared)(H₀:Hp)(fp:List Addr):Cx:=
 {X with N:=N,s₀:=s₀,H₀:=H₀,env:=compEnvC scope (iS X.env.cells scope.names []) C X.env,outer:=X.stack,ex:=fp,fn:=fun _=>false,pn:=[],xe:=fun _ _=>False}
def sD(X:Cx)(ifs:List Expr)(t:TT):Prop:=
 ∀(pins:List (Addr×Obj)) (s:Shared) (σ:St) (H:Hp) (Q:Bool->Hp->Prop),Inv X pins σ H s->t σ H Q->
  wpAny (model X.prog X.w) X.A (forIn ifs true fun c r=>if r=true then do let ok<-isTrue c X.env (eval c X.env);pure (ForInStep.yield ok) else pure (ForInStep.yield r)) (TP X pins σ Q) X.xe s
def sr:TT:=fun _ H Q=>Q true H
theorem gp{X:Cx}:sD X [] sr:=fun pins s σ H Q I h=>wpAny_tests_nil ⟨H,I,h⟩
theorem zL{X:Cx}{c:Expr}{t:TT}(h:PT X c t):sD X [c] t:=fun pins s σ H Q I q=>wpAny_tests_one (h pins s σ H Q I q)
def oB(J:It)(g:TG)(tc:TT)(te:TE)(acc:Addr)(Qe:Hp->Prop)(σ:St)(H:Hp):Prop:=∃W:Nat->Nat->St->Hp->Prop,(∃m,W 0 m σ H)/\∀i m σ H,W i m σ H->
 (J.stop i H /\ Qe H) \/ (J.go i H /\ ∃ Nx : St -> Hp -> Prop, (∀ σ' H', Nx σ' H' -> ∃ m', m' < m /\ W (i + 1) m' σ' H') /\ ∀ x H', J.n6 i H x H' -> g x σ H' fun σ2 H2 => tc σ2 H2 fun b H3 =>
  if b=true then te σ2 H3 fun v H4=>∃ys,H4 acc=some (.lst ys)/\ys.length<sizeLine/\Nx σ2 (upd H4 acc (.lst (ys++[v]))) else Nx σ2 H3)
def lT(wi:TI)(g:TG)(tc:TT)(te:TE)(mp:List (Option Nat)):TE:=fun σ H Q=>wi σ H fun J H1=>∀acc,H1 acc=none->oB J g tc te acc (fun H'=>Q (.ref acc) H') (fZ mp σ) (upd H1 acc (.lst []))
section
variable{prog:Program}{w:World}{A:Around}{R:Result->Shared->Prop}{s:Shared}
theorem J6{elt target iter:Expr}{ifs:List Expr}{scope:Scope}{pos:Pos}{it acc:Value}{env:Env}(I:Nat->Shared->Prop)
    (turn:∀n s,I n s->wpAny (model prog w) A (pyNext it) (fun r s₁=>match r with
      |none=>R (.ok .next) s₁
      |some v=>wpAny (model prog w) A (letOwnedTupleGo target it v) (fun _ s₀=>wpAny (model prog w) A (assign target env v) (fun _ s₂=>
          wpAny (model prog w) A (forIn ifs true fun c r=>if r=true then do let ok<-isTrue c env (eval c env);pure (ForInStep.yield ok) else pure (ForInStep.yield r)) (fun ok s₃=>
            if ok=true then wpAny (model prog w) A (eval elt env) (fun x s₄=>
              wpAny (model prog w) A (call (.builtin "list.append") [acc,x]) (fun _ s₅=>∃m,m<n/\I m s₅) (fun _ _=>False) s₄) (fun _ _=>False) s₃
            else∃m,m<n/\I m s₃) (fun _ _=>False) s₂) (fun _ _=>False) s₀) (fun _ _=>False) s₁) (fun _ _=>False) s)
    (n:Nat) (h:I n s):
    codeAny (model prog w) A (.compLoop (.ListComp elt [⟨target,iter,ifs,0⟩] scope pos) 0 it acc env) R s:=by
  refine codeAny_loop rfl I (fun n s hI=>?_) n h
  show wpAny _ A ((compTurn (.ListComp elt [⟨target,iter,ifs,0⟩] scope pos) 0 it acc env).onRaise (fun x=>do noteFrame x env;theTreesLotGoes x)) _ _ s
  refine wpAny_noted ?_
  rw[compTurn_list]
  refine wpAny_bind (wpAny_standAt (wpAny_bind (wpAny_mono (turn n s hI) (fun r s₁ h₁=>?_) fun _ _ h'=>h'.elim)))
  cases r with
  |none=>exact wpAny_pure h₁
  | some v =>
    refine wpAny_bind (wpAny_mono h₁ (fun _ s₀ h₀=>?_) fun _ _ h'=>h'.elim)
    refine wpAny_bind (wpAny_mono h₀ (fun _ s₂ h₂=>wpAny_bind (wpAny_mono h₂ (fun ok s₃ h₃=>?_) fun _ _ h'=>h'.elim)) fun _ _ h'=>h'.elim)
    cases ok with
    |false=>exact wpAny_pure ⟨rfl,h₃⟩
    | true =>
      exact wpAny_bind (wpAny_bind (wpAny_mono h₃ (fun x s₄ h₄=>wpAny_bind (wpAny_mono h₄ (fun _ s₅ h₅=>wpAny_pure (wpAny_pure ⟨rfl,h₅⟩)) fun _ _ h'=>h'.elim)) fun _ _ h'=>h'.elim))
end
section
variable{X:Cx}
theorem GU{elt iter tg:Expr}{ifs:List Expr}{scope:Scope}{pos pos':Pos}{N:List Str}{mp:List (Option Nat)}{wi:TI}{g:TG}{tc:TT}{te:TE}{use:Option (Value->Sem Unit)}
    {pins:List (Addr×Obj)} {s:Shared} {σ:St} {H:Hp} {Q:VK} {QQ:Value->Shared->Prop}
    (ok:dO X.env.scope X.N scope N mp) (hc:X.calm=true) (hi:PI X tg iter wi)
    (hb:∀C s₀ H₀ fp,PG (iY X scope C N s₀ H₀ fp) tg g/\sD (iY X scope C N s₀ H₀ fp) ifs tc/\PE (iY X scope C N s₀ H₀ fp) elt te)
    (hs:∀x,foldedSetIterable iter X.env x=pure x) (I:Inv X pins σ H s) (h:lT wi g tc te mp σ H Q)
    (fin:∀acc C H' s' m,Inv X pins σ H' s'->iE X pins H' C->s'.heap.Ns C m->Q (.ref acc) H'->compPost (model X.prog X.w) X.A X.xe use QQ (.ref acc) C (.ok .next) s'):
    wpAny (model X.prog X.w) X.A (comprehension (.ListComp elt [⟨tg,iter,ifs,0⟩] scope pos) scope X.env pos' (newList []) false (eval iter X.env) use) QQ X.xe s:=by
  have hfree:∀x∈scope.names,x.2= .free->∃a,X.env.cells.lookup x.1=some a:=fun x hx e=>I.ok.has x.1 (ok.free x hx e)
  refine wpAny_comprehension_free (use:=use) rfl hs (U9 hfree) ok.kind ok.names (aH (hi pins s σ H _ I h) fun v s1 h1=>aH h1 fun itv s2 h2=>?_)
  obtain⟨it,fp,tn,J,H2,e,I2,T,st2,f2,hW⟩:=h2
  subst e
  refine wpAny_newObj_type (wpAny_newFunctionEnv ok.cell (by intro y hy;simp at hy) (fun h₁ Bk Bo=>?_) ok.kind)
  dsimp only at Bk Bo⊢
  have I3:=I2.Gf (its:=[]) (ys:=[]) (t':=s2.toks) .nil (fG _)
  have hW:=hW s2.heap.objs.size I2.fresh
  obtain⟨W,⟨m0,w0⟩,turn⟩:=hW
  generalize yI:s2.heap.push {cls:= .type "list",dict:=none,data:= .seq ([]:List Value).toArray}=HP at Bk Bo⊢
  have I3:Inv X pins σ (upd H2 s2.heap.objs.size (.lst [])) {s2 with heap:=HP}:=by rw[<-yI];exact I3
  generalize VY:upd H2 s2.heap.objs.size (.lst [])=H3 at I3 w0
  have hC:HP.objs.size=s2.heap.objs.size+1:=by rw[<-yI,j6]
  have old:∀b o,HP.get? b=some o->h₁.get? b=some o:=fun b o e=>Bo.extBut b o (cW (bw e)) (bQ _ e)
  have j7:∀b∈fp,b<s2.heap.objs.size:=fun b hb=>by
    obtain⟨o,e,_⟩:=T.obj 0 _ st2 b hb
    exact bw e
  have Q4:∀b∈fp,H3 b=none:=fun b hb=>by
    rw[<-VY,aX (cW (j7 b hb))]
    exact(f2 b hb).1
  have qh:∀{x:Str} {c:Addr},(iS X.env.cells scope.names []).lookup x=some c->X.env.cells.lookup x=some c:=fun{x c} e=>Aq (fun y d q=>by simp at q) e
  have we:(iY X scope HP.objs.size N {s2 with heap:=HP} H3 fp).Ok:=by
    refine⟨I2.ok.mod,ok.kind,I2.ok.glob,I2.ok.blt,aF _,fun x y c e1 e2=>I2.ok.inj x y c (qh e1) (qh e2),fun x hx=>?_,(fun x c e=>absurd (show false=true from e) (by decide)),I2.ok.hd,I2.ok.frames, .inl rfl,fun b hb=>?_,I3.bs,fq I3.ok.mq I3.sz,fun b o e hb=>?_,fun b hb hz=>?_,I3.stack,I3.Ez⟩
    · have hx':scope.names.lookup x=some .free:=by
        rcases hx with hx|hx
        · exact B3 ok.cell hx (.inl rfl)
        · exact B3 ok.cell hx (.inr rfl)
      have hm:=nZ hx'
      obtain⟨a,ha⟩:=hfree _ hm rfl
      exact⟨a,Fy hm ha⟩
    · refine⟨fun z=>?_,fun x c e=>(f2 b hb).2.2.2.2.1 x c (qh e)⟩
      have z':b=HP.objs.size:=z
      have q:=j7 b hb
      rw[z',hC] at q
      exact absurd q (Nat.not_lt.mpr (oV _))
    · rcases(f2 b hb).2.2.2.1 with z|z
      · exact I2.ok.rG b o e z
      · exact absurd (eE (bw (I2.ok.bs b o e).1) z) (iR _)
    · rcases aG.mp (I2.wO b hz) with z|z
      · exact(f2 b hb).2.1 z
      · exact(f2 b hb).2.2.1 z
  have IY:Inv (iY X scope HP.objs.size N {s2 with heap:=HP} H3 fp) [] (fZ mp σ) H3 {s2 with heap:=h₁,toks:=s2.toks+([]:List (Str×Value)).length}:=by
    refine⟨we,rfl,I2.bare,Un.kept old,⟨_,Bk,fun i x v e1 e2 e3=>?_⟩,fun x c e=>?_,I3.hok.fresh (aF _),fun x c e=>I3.jU x c (qh e),fun p hp=>absurd (show p∈([]:List (Addr×Obj)) from hp) (by simp),I3.hok.kept old,?_⟩
    · have hj:∃j,mp[i]?=some (some j)/\σ[j]?=some (some v):=by
        unfold fZ at e2
        rw[bI] at e2
        cases q:mp[i]? with
        |none=>rw[q] at e2;cases e2
        | some o =>
          rw[q] at e2
          cases o with
          |none=>cases e2
          | some j =>
            refine⟨j,rfl,?_⟩
            have e2:(match σ[j]? with|some v=>v|none=>none)=some v:=iD e2
            cases r:σ[j]? with
            |none=>rw[r] at e2;cases e2
            | some u =>
              rw[r] at e2
              have e2:u=some v:=e2
              rw[e2]
      obtain⟨j,hj1,hj2⟩:=hj
      obtain⟨l1,l2⟩:=ok.look i j x hj1 e1
      have hm:=nZ l2
      have kx:=ok.free _ hm rfl
      obtain⟨mm,_,hl⟩:=I3.loc
      obtain⟨u,ru,lk⟩:=hl j x v l1 hj2 (kx.elim (fun z=> .inr (.inl z)) fun z=> .inr (.inr z))
      refine⟨u,ru, .inr ⟨E4 l2,?_⟩⟩
      rcases lk with ⟨k,_⟩|⟨_,c,e,z⟩
      · exfalso
        have k':X.env.scope.names.lookup x=some .local:=k
        rcases kx with kx|kx
        · rw[k'] at kx;cases kx
        · rw[k'] at kx;cases kx
      · refine⟨c,Fy hm e,?_⟩
        obtain⟨o,ho,hd⟩:=z
        exact⟨o,old c o ho,hd⟩
    · obtain⟨v,o,ho,hd⟩:=I3.cell x c (qh e)
      exact⟨v,o,old c o ho,hd⟩
    · show(fZ mp σ).length=N.length
      unfold fZ
      rw[ak,ok.len]
  have lX:∀{H':Hp},(∀b∈fp,H' b=none)->∀b∈fp,iE (iY X scope HP.objs.size N {s2 with heap:=HP} H3 fp) [] H' b:=fun{H'} hn b hb=>
    ⟨hn b hb,(we.vV b hb).1,we.sN b hb, .inl hb,(we.vV b hb).2,fun p hp=>absurd (show p∈([]:List (Addr×Obj)) from hp) (by simp)⟩
  have Ir:tn 0 h₁:=T.keep 0 _ _ st2 fun b hb o e=>old b o (by rw[<-yI];exact bQ _ e)
  have loop:codeAny (model X.prog X.w) X.A (.compLoop (.ListComp elt [⟨tg,iter,ifs,0⟩] scope pos) 0 (.ref it) (.ref s2.heap.objs.size) (compEnvC scope (iS X.env.cells scope.names []) HP.objs.size X.env))
      (compPost (model X.prog X.w) X.A X.xe use QQ (.ref s2.heap.objs.size) HP.objs.size) {s2 with heap:=h₁,toks:=s2.toks+([]:List (Str×Value)).length}:=by
    obtain⟨hg,ht,he⟩:=hb HP.objs.size {s2 with heap:=HP} H3 fp
    generalize hY:iY X scope HP.objs.size N {s2 with heap:=HP} H3 fp=Y at hg ht he IY lX
    have yp:Y.prog=X.prog:=by rw[<-hY];rfl
    have yw:Y.w=X.w:=by rw[<-hY];rfl
    have yK:Y.K=X.K:=by rw[<-hY];rfl
    have yA:Y.A=X.A:=by rw[<-hY];rfl
    have yc:Y.calm=true:=by rw[<-hY];exact hc
    have yx:Y.xe=fun _ _=>False:=by rw[<-hY];rfl
    have JB:Y.env=compEnvC scope (iS X.env.cells scope.names []) HP.objs.size X.env:=by rw[<-hY];rfl
    rw[<-JB]
    refine J6 (fun n s'=>∃i σ' H',Inv Y [] σ' H' s'/\tn i s'.heap/\(∀b∈fp,H' b=none)/\W i n σ' H') ?_ m0 ⟨0,_,H3,IY,Ir,Q4,w0⟩
    rintro n s3 ⟨i,σ3,H4,I4,st3,fr3,w3⟩
    rcases turn i n σ3 H4 w3 with ⟨stop,qn⟩|⟨go,Nx,hN,step⟩
    · have q0:=T.done Y yp yw yK yc i [] s3 σ3 H4 (fun _ _=>False) I4 (lX fr3) st3 stop
      rw[yA] at q0
      refine aH q0 fun r s4 ⟨hr,I5⟩=>?_
      subst hr
      show compPost (model X.prog X.w) X.A X.xe use QQ (.ref s2.heap.objs.size) HP.objs.size (.ok .next) s4
      obtain⟨m,hm,_⟩:=id I5.loc
      have yl:Y.env.locals=HP.objs.size:=by rw[JB];rfl
      rw[yl] at hm
      have fC:H4 HP.objs.size=none:=by have:=I5.free;rw[yl] at this;exact this
      have ub:=I5.base
      have ub':Un (frs X.stack) fp H3 H4 HP s4.heap:=by rw[<-hY] at ub;exact ub
      have hos:s4.os=s2.os:=by have:=I5.os;rw[<-hY] at this;exact this
      have RC:cT X.prog X.w H4 s4.heap:=by have:=I5.hok;rw[yp,yw] at this;exact this
      have IX:Inv X pins σ H4 s4:=I3.O1 (ch:=fp) hos ub' RC I5.bare fun b hb=>⟨(f2 b hb).2.2.2.1,(f2 b hb).2.1,(f2 b hb).2.2.2.2.1,(f2 b hb).2.2.2.2.2⟩
      exact fin _ _ H4 s4 m IX (I3.qY (aF _) fC) hm qn
    · have q0:=T.item Y yp yw yK yc i [] s3 σ3 H4 (fun _ _=>False) I4 (lX fr3) st3 go
      rw[yA] at q0
      refine aH q0 fun r s4 ⟨u,hr,h4⟩=>?_
      subst hr
      refine aH h4 fun _ s5 ⟨x,H5,I5,r5,y5,nP,zC⟩=>?_
      have zc:=I5.pinned (lX zC) (T.obj _ _ nP)
      rw[<-yx,<-yp,<-yw,<-yA]
      refine aH (hg _ s5 σ3 H5 x u _ zc r5 (step x H5 y5)) fun _ s6 ⟨qa,H6,I6,q6⟩=>?_
      refine aH (ht _ s6 qa H6 _ I6 q6) fun b s7 ⟨H7,I7,q7⟩=>?_
      have again:∀{rK:St} {H8:Hp} {s8:Shared},Inv Y ([]++sj fp s5.heap) rK H8 s8->Nx rK H8->∃m,m<n/\∃i σ' H',Inv Y [] σ' H' s8/\tn i s8.heap/\(∀b∈fp,H' b=none)/\W i m σ' H':=fun{rK H8 s8} I8 n8=>by
        obtain⟨m',hm,w8⟩:=hN rK H8 n8
        refine⟨m',hm,i+1,rK,H8,I8.wm,T.keep _ _ _ nP fun b hb o e=>(I8.pin (b,o) (jE _ (jE _ (uF hb e)))).1,fun b hb=>?_,w8⟩
        obtain⟨o,e,d⟩:=T.obj _ _ nP b hb
        exact(I8.pin (b,o) (jE _ (jE _ (uF hb e)))).2.1
      cases b with
      | false =>
        rw[if_neg bq]
        rw[if_neg bq] at q7
        exact again I7 q7
      | true =>
        rw[if_pos rfl]
        rw[if_pos rfl] at q7
        refine aH (he _ s7 qa H7 _ I7 q7) fun v s8 ⟨y,H8,I8,r8,ys,e8,z8,n8⟩=>?_
        refine aH (qE _ s8 qa H8 (.ref s2.heap.objs.size) [y] (.ref s2.heap.objs.size) [v] (fun _ H9=>H9=upd H8 s2.heap.objs.size (.lst (ys++[y]))) I8 rfl (.cons r8 .nil) ⟨_,ys,y,rfl,rfl,e8,z8,rfl⟩) fun v9 s9 ⟨y9,H9,I9,r9,e9⟩=>?_
        subst e9
        exact again I9 n8
  refine codeAny_compStart_list loop (T.self _ _ _ _ _ Ir loop)
theorem iE.turned{pins:List (Addr×Obj)}{s:Shared}{σ:St}{H:Hp}{C:Addr}{h':Heap}(I:Inv X pins σ H s)(f:iE X pins H C)(hs:Heap.SameBut C s.heap h'):Inv X pins σ H {s with heap:=h'}:=
 I.turned (t':=s.toks) (fun b o hb e=>(hs.2 b hb).trans e) f.1 f.2.1 f.2.2.2.1 f.2.2.2.2.1 f.2.2.2.2.2
theorem gn{elt iter tg:Expr}{ifs:List Expr}{scope:Scope}{pos:Pos}{N:List Str}{mp:List (Option Nat)}{wi:TI}{g:TG}{tc:TT}{te:TE}
  (ok:dO X.env.scope X.N scope N mp) (hi:PI X tg iter wi)
  (hb:∀C s₀ H₀ fp,PG (iY X scope C N s₀ H₀ fp) tg g/\sD (iY X scope C N s₀ H₀ fp) ifs tc/\PE (iY X scope C N s₀ H₀ fp) elt te) (hc:X.calm=true:=by rfl)
  (hs:∀x,foldedSetIterable iter X.env x=pure x:=by intro _;rfl):PE X (.ListComp elt [⟨tg,iter,ifs,0⟩] scope pos) (lT wi g tc te mp):=by
 intro pins s σ H Q I h
 rw[eval_ListComp]
 refine GU (use:=none) ok hc hi hb hs I h fun acc C H' s' m I' f hn q=>?_
 exact⟨m,hn,fun h' hs'=>⟨.ref acc,H',f.turned I' hs',rfl,q⟩⟩
def zB(i:Nat)(t:TE):TS:=fun D σ H=>t σ H fun v H'=>D.nx (σ.set i (some v)) H'
theorem Cy{elt iter tg:Expr}{ifs:List Expr}{scope:Scope}{pos spos py:Pos}{N:List Str}{mp:List (Option Nat)}{wi:TI}{g:TG}{tc:TT}{te:TE}{i:Nat}{y:Str}
  (hN:X.N.Nodup) (hy:X.N[i]?=some y) (hk:X.env.kindOf y=some .local)
  (ok:dO X.env.scope X.N scope N mp) (hi:PI X tg iter wi)
  (hb:∀C s₀ H₀ fp,PG (iY X scope C N s₀ H₀ fp) tg g/\sD (iY X scope C N s₀ H₀ fp) ifs tc/\PE (iY X scope C N s₀ H₀ fp) elt te) (hc:X.calm=true:=by rfl)
  (hsw:swapsWith (.ListComp elt [⟨tg,iter,ifs,0⟩] scope pos) (some (.Name y py)) spos.line X.env=pure true:=by rfl)
  (hs:∀x,foldedSetIterable iter X.env x=pure x:=by intro _;rfl):PS X (.Assign [.Name y py] (.ListComp elt [⟨tg,iter,ifs,0⟩] scope pos) spos) (zB i (lT wi g tc te mp)):=by
 intro pins s σ H D I h
 rw[exec_Assign_Name_used _ _ _ _ hsw]
 refine wpAny_bind (wpAny_standAt (wpAny_bind ?_))
 show wpAny _ X.A (do let _<-comprehension (.ListComp elt [⟨tg,iter,ifs,0⟩] scope pos) scope X.env _ (newList []) false (eval iter X.env) (some (assign (.Name y py) X.env))) _ _ s
 refine wpAny_bind (wpAny_mono (GU (use:=some (assign (.Name y py) X.env)) (QQ:=fun _ s'=>SP X pins D .next s') ok hc hi hb hs I h fun acc C H' s' m I' f hn q=>?_) (fun _ s' hq=>wpAny_pure (wpAny_pure hq)) fun _ _ e=>e)
 refine wpAny_assign_Name (G7 (v:= .ref acc) I' hN hy (.inl hk) rfl (fun s2 I2 ⟨a,sb,ha⟩=>?_) (.inr hk))
 have hne:C≠a:=by
  rcases ha with z|z
  ·rw[z];exact f.2.1
  ·exact fun e=>f.2.2.2.2.1 y a z e.symm
 exact⟨m,hn.sameBut sb hne,fun h' hs'=>⟨_,H',f.turned I2 hs',q⟩⟩
end
def Sm(i:Int):Prop:= -(2^300)<i/\i<2^300
theorem xC{i:Int}(h:Sm i):Builtin.Int.intBits i<=2^20:=by
 obtain⟨h1,h2⟩:=h
 unfold Builtin.Int.intBits
 split
 ·exact fG _
 ·rename_i h0
  have hn:i.natAbs≠0:=by
   intro e
   apply h0
   simp
   omega
  have h3:i.natAbs<2^300:=by omega
  have h4:i.natAbs.log2<300:=(Nat.log2_lt hn).mpr h3
  have:(2:Nat)^20=1048576:=by decide
  omega
theorem J2{x y:Int}(h:Sm y):Builtin.divisionGoesByPylong x y=false:=by
 refine PyProof.noPylong_of_log2 ?_
 obtain⟨h1,h2⟩:=h
 by_cases h0:y.natAbs=0
 ·rw[h0];decide+kernel
 ·have h3:y.natAbs<2^300:=by omega
  have h4:y.natAbs.log2<300:=(Nat.log2_lt h0).mpr h3
  omega
section
variable{X:Cx}
theorem qy:cR X (binaryOp .FloorDiv) (rI (fun _ j=>0<j/\Sm j) fun i j=> .int (i/j)):=vE fun i j _ _ _ _ _ hc q=>
 floordiv_int (by omega) (by rw[Int.fdiv_eq_ediv_of_nonneg _ (by omega)];exact q) (.inl (J2 hc.2))
theorem U3:wj X "int.bit_length" (fun x xs H Q=>∃i,x= .int i/\xs=[]/\Q (.int (Builtin.Int.intBits i)) H):=by
 intro pins s σ H x xs v us Q I rx rv h
 obtain⟨i,rfl,rfl,q⟩:=h
 obtain⟨t,rfl⟩:=rx
 cases rv
 exact call_int_bit_length ⟨.int _,H,I.tok _,⟨_,rfl⟩,q⟩
def g6(K:PySem.W.Frag):List V->Hp->VK->Prop:=fun xs H Q=>∃x T t b,xs=[x, .ty T]/\gX K H x t/\PySem.W.kitOne K t (.type T)=some b/\Q (.bl b) H
theorem jT:fW X (.builtin "isinstance") (g6 X.K):=by
 intro pins s σ H xs us Q I rv h
 obtain⟨x,T,t,b,rfl,ty,e,q⟩:=h
 obtain⟨u,v,rfl,ru,rv⟩:=rv.two
 cases (show v=Value.type T from rv)
 exact MJ I ru ty e fun tk=>⟨.bl b,H,I.tok tk,rfl,q⟩
def rF:PyData->Key->Prop
 | .int i,k=>k= .inl i
 | .str x,k=>k= .inr x
 |_,_=>False
mutual
def ai(nb:Addr->Prop)(H:Hp):PyData->V->Prop
 | .none,v=>v= .aC
 | .bool b,v=>v= .bl b
 | .int i,v=>v= .int i
 | .str x,v=>v= .str x
 | .list ds,v=>∃a xs,v= .ref a/\¬nb a/\H a=some (.lst xs)/\af nb H ds xs
 | .tuple ds,v=>∃a xs,v= .ref a/\¬nb a/\H a=some (.tup xs)/\af nb H ds xs
 | .dict kvs,v=>∃a ps,v= .ref a/\¬nb a/\Rd H a (.dK ps)/\aq nb H kvs ps
termination_by structural d=>d
def af(nb:Addr->Prop)(H:Hp):List PyData->List V->Prop
 |[],xs=>xs=[]
 |d::ds,xs=>∃y ys,xs=y::ys/\ai nb H d y/\af nb H ds ys
termination_by structural d=>d
def aq(nb:Addr->Prop)(H:Hp):List (PyData×PyData)->List (Key×V)->Prop
 |[],xs=>xs=[]
 |d::ds,xs=>∃p ys,xs=p::ys/\bO nb H d p/\aq nb H ds ys
termination_by structural d=>d
def bO(nb:Addr->Prop)(H:Hp):PyData×PyData->Key×V->Prop
 |(k,d),p=>rF k p.1/\ai nb H d p.2
termination_by structural d=>d
end
def aU(nb:Addr->Prop)(H H':Hp):Prop:=∀a o,¬nb a->H a=some o->H' a=some o
def Nb(b:Addr):Addr->Prop:=fun a=>a=b
section
variable{nb aL:Addr->Prop}{H H1 H2 H':Hp}{a b c p:Addr}{o:HO}{xs:List V}
theorem aU.refl(nb:Addr->Prop)(H:Hp):aU nb H H:=fun _ _ _ h=>h
theorem aU.trans(x:aU nb H H1)(y:aU nb H1 H2):aU nb H H2:=fun a o n h=>y a o n (x a o n h)
theorem aU.of(x:cQ H H'):aU nb H H':=fun a o _ h=>x a o h
theorem aU.set(h:nb p):aU nb H (upd H p o):=fun a u n q=>by rw[aX (fun e=>n (by rw[e];exact h))];exact q
theorem aU.rd{u:HO}(x:aU nb H H')(n:¬nb a)(h:Rd H a u):Rd H' a u:=by
 rcases h with h|⟨o,h⟩
 ·exact .inl (x _ _ n h)
 ·exact .inr ⟨o,x _ _ n h⟩
end
mutual
theorem ai.keep{nb:Addr->Prop}{H H':Hp}(x:aU nb H H'):∀{d:PyData} {v:V},ai nb H d v->ai nb H' d v
 | .none,_,h=>by unfold ai at h⊢;exact h
 | .bool _,_,h=>by unfold ai at h⊢;exact h
 | .int _,_,h=>by unfold ai at h⊢;exact h
 | .str _,_,h=>by unfold ai at h⊢;exact h
 | .list ds,_,h=>by unfold ai at h⊢;obtain⟨a,xs,e,n,s,r⟩:=h;exact⟨a,xs,e,n,x _ _ n s,af.keep x r⟩
 | .tuple ds,_,h=>by unfold ai at h⊢;obtain⟨a,xs,e,n,s,r⟩:=h;exact⟨a,xs,e,n,x _ _ n s,af.keep x r⟩
 | .dict kvs,_,h=>by unfold ai at h⊢;obtain⟨a,xs,e,n,s,r⟩:=h;exact⟨a,xs,e,n,x.rd n s,aq.keep x r⟩
theorem af.keep{nb:Addr->Prop}{H H':Hp}(x:aU nb H H'):∀{ds:List PyData} {vs:List V},af nb H ds vs->af nb H' ds vs
 |[],_,h=>by unfold af at h⊢;exact h
 |d::ds,_,h=>by unfold af at h⊢;obtain⟨y,ys,e,h1,h2⟩:=h;exact⟨y,ys,e,ai.keep x h1,af.keep x h2⟩
theorem aq.keep{nb:Addr->Prop}{H H':Hp}(x:aU nb H H'):∀{ds:List (PyData×PyData)} {vs:List (Key×V)},aq nb H ds vs->aq nb H' ds vs
 |[],_,h=>by unfold aq at h⊢;exact h
 |d::ds,_,h=>by unfold aq at h⊢;obtain⟨y,ys,e,h1,h2⟩:=h;exact⟨y,ys,e,bO.keep x h1,aq.keep x h2⟩
theorem bO.keep{nb:Addr->Prop}{H H':Hp}(x:aU nb H H'):∀{d:PyData×PyData} {v:Key×V},bO nb H d v->bO nb H' d v
 |(k,d),_,h=>by unfold bO at h⊢;exact⟨h.1,ai.keep x h.2⟩
end
mutual
theorem ai.av{nb aL:Addr->Prop}{H:Hp}(x:∀a,aL a->nb a):∀{d:PyData} {v:V},ai nb H d v->ai aL H d v
 | .none,_,h=>by unfold ai at h⊢;exact h
 | .bool _,_,h=>by unfold ai at h⊢;exact h
 | .int _,_,h=>by unfold ai at h⊢;exact h
 | .str _,_,h=>by unfold ai at h⊢;exact h
 | .list ds,_,h=>by unfold ai at h⊢;obtain⟨a,xs,e,n,s,r⟩:=h;exact⟨a,xs,e,fun z=>n (x a z),s,af.av x r⟩
 | .tuple ds,_,h=>by unfold ai at h⊢;obtain⟨a,xs,e,n,s,r⟩:=h;exact⟨a,xs,e,fun z=>n (x a z),s,af.av x r⟩
 | .dict kvs,_,h=>by unfold ai at h⊢;obtain⟨a,xs,e,n,s,r⟩:=h;exact⟨a,xs,e,fun z=>n (x a z),s,aq.av x r⟩
theorem af.av{nb aL:Addr->Prop}{H:Hp}(x:∀a,aL a->nb a):∀{ds:List PyData} {vs:List V},af nb H ds vs->af aL H ds vs
 |[],_,h=>by unfold af at h⊢;exact h
 |d::ds,_,h=>by unfold af at h⊢;obtain⟨y,ys,e,h1,h2⟩:=h;exact⟨y,ys,e,ai.av x h1,af.av x h2⟩
theorem aq.av{nb aL:Addr->Prop}{H:Hp}(x:∀a,aL a->nb a):∀{ds:List (PyData×PyData)} {vs:List (Key×V)},aq nb H ds vs->aq aL H ds vs
 |[],_,h=>by unfold aq at h⊢;exact h
 |d::ds,_,h=>by unfold aq at h⊢;obtain⟨y,ys,e,h1,h2⟩:=h;exact⟨y,ys,e,bO.av x h1,aq.av x h2⟩
theorem bO.av{nb aL:Addr->Prop}{H:Hp}(x:∀a,aL a->nb a):∀{d:PyData×PyData} {v:Key×V},bO nb H d v->bO aL H d v
 |(k,d),_,h=>by unfold bO at h⊢;exact⟨h.1,ai.av x h.2⟩
end
mutual
theorem ai.fresh{nb:Addr->Prop}{H:Hp}{p:Addr}(hp:H p=none):∀{d:PyData} {v:V},ai nb H d v->ai (fun a=>nb a\/a=p) H d v
 | .none,_,h=>by unfold ai at h⊢;exact h
 | .bool _,_,h=>by unfold ai at h⊢;exact h
 | .int _,_,h=>by unfold ai at h⊢;exact h
 | .str _,_,h=>by unfold ai at h⊢;exact h
 | .list ds,_,h=>by unfold ai at h⊢;obtain⟨a,xs,e,n,s,r⟩:=h;exact⟨a,xs,e,fun z=>z.elim n (gU s hp),s,af.fresh hp r⟩
 | .tuple ds,_,h=>by unfold ai at h⊢;obtain⟨a,xs,e,n,s,r⟩:=h;exact⟨a,xs,e,fun z=>z.elim n (gU s hp),s,af.fresh hp r⟩
 | .dict kvs,_,h=>by unfold ai at h⊢;obtain⟨a,xs,e,n,s,r⟩:=h;exact⟨a,xs,e,fun z=>z.elim n (s.elim (fun s=>gU s hp) fun⟨_,s⟩=>gU s hp),s,aq.fresh hp r⟩
theorem af.fresh{nb:Addr->Prop}{H:Hp}{p:Addr}(hp:H p=none):∀{ds:List PyData} {vs:List V},af nb H ds vs->af (fun a=>nb a\/a=p) H ds vs
 |[],_,h=>by unfold af at h⊢;exact h
 |d::ds,_,h=>by unfold af at h⊢;obtain⟨y,ys,e,h1,h2⟩:=h;exact⟨y,ys,e,ai.fresh hp h1,af.fresh hp h2⟩
theorem aq.fresh{nb:Addr->Prop}{H:Hp}{p:Addr}(hp:H p=none):∀{ds:List (PyData×PyData)} {vs:List (Key×V)},aq nb H ds vs->aq (fun a=>nb a\/a=p) H ds vs
 |[],_,h=>by unfold aq at h⊢;exact h
 |d::ds,_,h=>by unfold aq at h⊢;obtain⟨y,ys,e,h1,h2⟩:=h;exact⟨y,ys,e,bO.fresh hp h1,aq.fresh hp h2⟩
theorem bO.fresh{nb:Addr->Prop}{H:Hp}{p:Addr}(hp:H p=none):∀{d:PyData×PyData} {v:Key×V},bO nb H d v->bO (fun a=>nb a\/a=p) H d v
 |(k,d),_,h=>by unfold bO at h⊢;exact⟨h.1,ai.fresh hp h.2⟩
end
mutual
theorem ai.reads{pins:List (Addr×Obj)}{σ:St}{H:Hp}{s:Shared}{nb:Addr->Prop}(I:Inv X pins σ H s):∀{d:PyData} {v:V} {u:Value},ai nb H d v->RelV v u->d.canLay0=true->∃as,Reads s.heap u d as
  | .none,_,_,h,r,_=>by unfold ai at h;subst h;cases r;exact⟨_, .none⟩
  | .bool _,_,_,h,r,_=>by unfold ai at h;subst h;cases r;exact⟨_, .bool _⟩
  | .int _,_,_,h,r,_=>by unfold ai at h;subst h;obtain⟨t,rfl⟩:=r;exact⟨_, .int _ _⟩
  | .str _,_,_,h,r,_=>by unfold ai at h;subst h;obtain⟨t,rfl⟩:=r;exact⟨_, .str _ _⟩
  | .list ds, _, _, h, r, hc0 => by
    unfold ai at h
    obtain⟨a,xs,rfl,n,s,q⟩:=h
    cases r
    obtain⟨its,rv,p,hz⟩:=I.list (aS.of s)
    obtain⟨as,ra⟩:=af.reads I q rv (by simpa only[PyData.canLay0] using hc0)
    obtain⟨o,ho,hc,m,hd⟩:=p.isList
    exact⟨_, .list ho hc hd (by simpa using ra)⟩
  | .tuple ds, _, _, h, r, hc0 => by
    unfold ai at h
    obtain⟨a,xs,rfl,n,s,q⟩:=h
    cases r
    obtain⟨its,rv,p,hz⟩:=I.tuple (fO.of s)
    obtain⟨as,ra⟩:=af.reads I q rv (by simpa only[PyData.canLay0] using hc0)
    obtain⟨o,ho,hc,m,hd⟩:=p
    exact⟨_, .tuple ho hc hd (by simpa using ra)⟩
  | .dict _,_,_,h,r,hc0=>by simp[PyData.canLay0] at hc0
theorem af.reads{pins:List (Addr×Obj)}{σ:St}{H:Hp}{s:Shared}{nb:Addr->Prop}(I:Inv X pins σ H s):∀{ds:List PyData} {vs:List V} {us:List Value},af nb H ds vs->Vals vs us->PyData.canLayAll0 ds=true->∃as,ReadsAll s.heap us ds as
  |[],_,_,h,r,_=>by unfold af at h;subst h;cases r;exact⟨_, .nil⟩
  | d :: ds, _, _, h, r, hc0 => by
    rw[PyData.canLayAll0,dP] at hc0
    unfold af at h
    obtain⟨y,ys,rfl,h1,h2⟩:=h
    cases r with
    | cons r1 r2 =>
      obtain⟨as,q1⟩:=ai.reads I h1 r1 hc0.1
      obtain⟨bs,q2⟩:=af.reads I h2 r2 hc0.2
      exact⟨_, .cons q1 q2⟩
end
def xy(neg:Bool):R2:=fun x y H Q=>∃nb d e,ai nb H d x/\ai nb H e y/\SeqAt.shaped d=true/\SeqAt.shaped e=true/\Q (.bl (PyData.eqv d e !=neg)) H
theorem R9(hu:X.A.units+64<cLine):cR X (compareOp .Eq) (xy false):=by
 intro pins s σ H x y v u Q I rx ry h
 obtain⟨nb,d,e,h1,h2,h3,h4,q⟩:=h
 obtain⟨as,r1⟩:=h1.reads I rx (oh h3)
 obtain⟨bs,r2⟩:=h2.reads I ry (oh h4)
 exact eq_dataH r1 r2 h3 h4 hu ⟨.bl _,H,I,rfl,by simpa using q⟩
theorem qq(hu:X.A.units+64<cLine):cR X (compareOp .NotEq) (xy true):=by
 intro pins s σ H x y v u Q I rx ry h
 obtain⟨nb,d,e,h1,h2,h3,h4,q⟩:=h
 obtain⟨as,r1⟩:=h1.reads I rx (oh h3)
 obtain⟨bs,r2⟩:=h2.reads I ry (oh h4)
 exact ne_dataH r1 r2 h3 h4 hu ⟨.bl _,H,I,rfl,by simpa using q⟩
end
mutual
theorem eqv_refl:∀d:PyData,SeqAt.shaped d=true\/d.canLay0=true->PyData.eqv d d=true
  | .none,_=>by simp[PyData.eqv]
  | .bool _,_=>by simp[PyData.eqv]
  | .int _,_=>by simp[PyData.eqv]
  | .str _,_=>by simp[PyData.eqv]
  | .list ds, h => by
    have h':PyData.canLayAll0 ds=true:=by
      rcases h with h|h
      · have:=oh h;simpa[PyData.canLay0] using this
      · simpa[PyData.canLay0] using h
    simp only[PyData.eqv]
    exact eqvAll_refl ds h'
  | .tuple ds, h => by
    have h':PyData.canLayAll0 ds=true:=by
      rcases h with h|h
      · have:=oh h;simpa[PyData.canLay0] using this
      · simpa[PyData.canLay0] using h
    simp only[PyData.eqv]
    exact eqvAll_refl ds h'
  | .dict _, h => by
    rcases h with h|h
    · have:=oh h;simp[PyData.canLay0] at this
    · simp[PyData.canLay0] at h
theorem eqvAll_refl:∀ds:List PyData,PyData.canLayAll0 ds=true->PyData.eqvAll ds ds=true
  |[],_=>by simp[PyData.eqvAll]
  | d :: ds, h => by
    simp only[PyData.canLayAll0,dP] at h
    simp only[PyData.eqvAll,dP]
    exact⟨eqv_refl d (.inr h.1),eqvAll_refl ds h.2⟩
end
structure Callee(P:Program)(w:World)(K:PySem.W.Frag)(mg:Str->Option Value)(base:Heap)(x:Str)(k:Nat)(ps:List Str)(sp:Sp):Prop where
 ex:∃f fd,bu P w K mg base bD k f fd ps sp/\Binds K fd ps []/\PySem.W.keepIn K (.ref f)=true/\mg x=some (.ref f)
theorem aY{X:Cx}{x:Str}{k:Nat}{ps:List Str}{sp:Sp}{p pos:Pos}{e:Expr}{es:List Expr}{t:TA}(c:Callee X.prog X.w X.K X.mg X.base x k ps sp)(hr:cX k X.A)(ha:PA X (e::es) t)(hg:Gl X x:=by rfl)
  (hdb:(x==("__debug__":Str))=false:=by decide) (he:starEach (e::es) X.env=(false,eval e X.env)::starEach es X.env:=by rfl) (hpl:(backTo pos (starEach es X.env)).any (·.1)=false:=by rfl):
  PE X (.Call (.Name x p) (e::es) [] pos) (g9 sp [] E0 t):=by
 obtain⟨f,fd,F,b,kp,m⟩:=c.ex
 exact KS F hr hg m kp b .nil vJ ha hdb he hpl
theorem Callee.mk'{P:Program}{w:World}{K:PySem.W.Frag}{mg:Str->Option Value}{base:Heap}{x:Str}{st:Stmt}{k:Nat}{ps:List Str}{sp:Sp}{f:Addr}{fd:FuncData}(F:bH K x x st f fd)(ok:bu P w K mg base bD k f fd ps sp)(b:Binds K fd ps [])
  (m:mg x=some (.ref f)):Callee P w K mg base x k ps sp:=⟨f,fd,ok,b,F.kp,m⟩
def aV(K:PySem.W.Frag)(x q:Str)(st:Stmt)(f:Addr):Prop:=PySem.W.nsIn K mainGlobals x=some (some (.ref f))/\∃fd,bH K x q st f fd
theorem aV.mk{K:PySem.W.Frag}{x q:Str}{st:Stmt}{f:Addr}{oc:Value}{od an:Option Addr}{osl:Array (Option Value)}{kV doc pm cdv ct:Value}(a:PySem.W.nsIn K mainGlobals x=some (some (.ref f)))(l:K.lookup f=some ⟨oc,od, .func (PySem.W.fnOf x q (jM st) (jg st) (aM st) .none kV doc pm an cdv ct),osl⟩)
  (c:PySem.W.codeIn K cdv q=true) (k:PySem.W.keepIn K (.ref f)=true):aV K x q st f:=⟨a,_,pS l c k⟩
end L2
set_option maxRecDepth 100000
set_option maxHeartbeats 1000000
namespace L2
open PySem PySem.Spec PyProof.Rows
section
variable{X:Cx}
theorem ki:cR X (binaryOp .Mult) (rI (fun i j=>vf i j\/(Sm i/\Sm j)) fun i j=> .int (i*j)):=vE fun _ _ _ _ _ _ _ hc q=>mul_int q (by
 rcases hc with hc|hc
 ·exact hc.ok
 ·exact IntMulOk.of_bits (xC hc.1) (xC hc.2))
end
def dz(H:Hp)(b l:Addr):Prop:=∃(ns:List Int) (i c st n:Int),H b=some (.lst [.ref l, .int i, .int c, .int st, .int n])/\H l=some (.lst (ns.map V.int))/\
 (∀x∈ns,0<=x/\x<10^60)/\ns.length<=63/\0<=i/\0<=c/\c<10^60/\0<=st/\st<2147483647
theorem DX{H:Hp}{b l:Addr}{ns:List Int}{i c st n:V}(h:H b=some (.lst [.ref l,i,c,st,n]))(h':H l=some (.lst (ns.map V.int))):l≠b:=by
 intro e
 subst e
 rw[h] at h'
 have e:=HO.lst.inj (iD h')
 cases ns with
 |nil=>cases e
 |cons x r=>rw[bx] at e;cases (rS e).1
theorem dz.put{H:Hp}{b l:Addr}{ns:List Int}{i c st n:Int}(hl:l≠b)(h':H l=some (.lst (ns.map V.int)))(h1:∀x∈ns,0<=x/\x<10^60)(h2:ns.length<=63)
  (h3:0<=i) (h4:0<=c) (h5:c<10^60) (h6:0<=st) (h7:st<2147483647):dz (upd H b (.lst [.ref l, .int i, .int c, .int st, .int n])) b l:=
 ⟨ns,i,c,st,n,bh,by rw[aX hl];exact h',h1,h2,h3,h4,h5,h6,h7⟩
theorem dz.put2{H:Hp}{b l p:Addr}{o:HO}(h:dz H b l)(hp:p≠b/\p≠l):dz (upd H p o) b l:=by
 obtain⟨ns,i,c,st,n,h1,h2,r⟩:=h
 exact⟨ns,i,c,st,n,by rw[aX (bJ hp.1)];exact h1,by rw[aX (bJ hp.2)];exact h2,r⟩
theorem dz.same{H H':Hp}{b l:Addr}(h:dz H b l)(s:cQ H H'):dz H' b l:=by
 obtain⟨ns,i,c,st,n,h1,h2,r⟩:=h
 exact⟨ns,i,c,st,n,s _ _ h1,s _ _ h2,r⟩
def kO:Sp:=fun vs H Q _=>∃(b l:Addr) (many:Int),vs=[.ref b, .int many]/\dz H b l/\0<many/\Sm many/\∀(r:Int) (H':Hp),0<=r->r<many->aU (Nb b) H H'->dz H' b l->Q (.int r) H'
def DI(K:PySem.W.Frag):Sp:=fun vs H Q _=>∃(a:Addr) (ns:List Int),vs=[.ref a]/\aS K H a (ns.map V.int)/\ns.length<=63/\∀(b l:Addr) (H':Hp),cQ H H'->H b=none->dz H' b l->Q (.ref b) H'
theorem jx{α:Type}{xs:List α}{i:Int}{v:α}(h0:0<=i)(h:xs[i.toNat]?=some v):bU xs i=some v:=by
 have e:i=((i.toNat:Nat):Int):=by omega
 rw[e]
 exact Q2 h
theorem cP{H:Hp}{p:Addr}{o:HO}(h:H p=none):cQ H (upd H p o):=fun b u q=>by rw[aX (gU q h)];exact q
section
variable{nb:Addr->Prop}{H H':Hp}
theorem af.length:∀{ds:List PyData} {xs:List V},af nb H ds xs->xs.length=ds.length
 |[],_,h=>by unfold af at h;subst h;rfl
 |d::ds,_,h=>by unfold af at h;obtain⟨y,ys,rfl,_,h2⟩:=h;simp[af.length h2]
theorem af.get:∀{ds:List PyData} {xs:List V} {i:Nat} {d:PyData},af nb H ds xs->ds[i]?=some d->∃x,xs[i]?=some x/\ai nb H d x
 |[],_,_,_,_,e=>by simp at e
 |d::ds,_,0,_,h,e=>by unfold af at h;obtain⟨y,ys,rfl,h1,h2⟩:=h;simp at e;subst e;exact⟨y,rfl,h1⟩
 |d::ds,_,i+1,_,h,e=>by unfold af at h;obtain⟨y,ys,rfl,h1,h2⟩:=h;simpa using af.get (i:=i) h2 (by simpa using e)
theorem af.snoc{d:PyData}{x:V}(hd:ai nb H d x):∀{ds:List PyData} {xs:List V},af nb H ds xs->af nb H (ds++[d]) (xs++[x])
 |[],_,h=>by unfold af at h;subst h;unfold af;exact⟨x,[],rfl,hd,by unfold af;rfl⟩
 |e::ds,_,h=>by unfold af at h;obtain⟨y,ys,rfl,h1,h2⟩:=h;show af nb H (e::(ds++[d])) _;unfold af;exact⟨y,ys++[x],rfl,h1,af.snoc hd h2⟩
theorem af.append:∀{ds es:List PyData} {xs ys:List V},af nb H ds xs->af nb H es ys->af nb H (ds++es) (xs++ys)
 |[],_,_,_,h,h'=>by unfold af at h;subst h;exact h'
 |e::ds,es,_,zs,h,h'=>by unfold af at h;obtain⟨y,ys,rfl,h1,h2⟩:=h;show af nb H (e::(ds++es)) _;unfold af;exact⟨y,ys++zs,rfl,h1,af.append h2 h'⟩
theorem af.take:∀{ds:List PyData} {xs:List V} (n:Nat),af nb H ds xs->af nb H (ds.take n) (xs.take n)
 |_,_,0,_=>by simp only[List.take_zero];unfold af;rfl
 |[],_,n+1,h=>by unfold af at h;subst h;simp only[List.take_nil];unfold af;rfl
 |d::ds,_,n+1,h=>by unfold af at h;obtain⟨y,ys,rfl,h1,h2⟩:=h;simp only[List.take_succ_cons];unfold af;exact⟨y,_,rfl,h1,af.take n h2⟩
theorem af.drop:∀{ds:List PyData} {xs:List V} (n:Nat),af nb H ds xs->af nb H (ds.drop n) (xs.drop n)
 |_,_,0,h=>h
 |[],_,n+1,h=>by unfold af at h;subst h;simp only[List.drop_nil];unfold af;rfl
 |d::ds,_,n+1,h=>by unfold af at h;obtain⟨y,ys,rfl,h1,h2⟩:=h;simp only[List.drop_succ_cons];exact af.drop n h2
theorem af.nil:af nb H [] []:=by unfold af;rfl
theorem af.cons{d:PyData}{x:V}{ds:List PyData}{xs:List V}(h1:ai nb H d x)(h2:af nb H ds xs):af nb H (d::ds) (x::xs):=by unfold af;exact⟨x,xs,rfl,h1,h2⟩
theorem ai.int(i:Int):ai nb H (.int i) (.int i):=by unfold ai;rfl
theorem ai.aC:ai nb H .none .aC:=by unfold ai;rfl
theorem ai.bl(b:Bool):ai nb H (.bool b) (.bl b):=by unfold ai;rfl
theorem ai.lst{a:Addr}{ds:List PyData}{xs:List V}(n:¬nb a)(h:H a=some (.lst xs))(hd:af nb H ds xs):ai nb H (.list ds) (.ref a):=by unfold ai;exact⟨a,xs,rfl,n,h,hd⟩
theorem ai.tup{a:Addr}{ds:List PyData}{xs:List V}(n:¬nb a)(h:H a=some (.tup xs))(hd:af nb H ds xs):ai nb H (.tuple ds) (.ref a):=by unfold ai;exact⟨a,xs,rfl,n,h,hd⟩
theorem ai.dU{v:V}{ds:List PyData}(h:ai nb H (.list ds) v):∃a xs,v= .ref a/\¬nb a/\H a=some (.lst xs)/\af nb H ds xs:=by unfold ai at h;exact h
theorem ai.ofT{v:V}{ds:List PyData}(h:ai nb H (.tuple ds) v):∃a xs,v= .ref a/\¬nb a/\H a=some (.tup xs)/\af nb H ds xs:=by unfold ai at h;exact h
theorem ai.bR{v:V}{i:Int}(h:ai nb H (.int i) v):v= .int i:=by unfold ai at h;exact h
theorem ai.uW{v:V}(h:ai nb H .none v):v= .aC:=by unfold ai at h;exact h
end
def w5:Sp:=fun vs H Q _=>∃i:Int,vs=[.int i]/\Q (.bl true) H
def vm(K:PySem.W.Frag):Sp:=fun vs H Q _=>∃(a:Addr) (ns:List Int),vs=[.ref a]/\aS K H a (ns.map V.int)/\ns.length<=63/\∀H',Q (.bl true) H'
end L2
set_option maxRecDepth 100000
set_option maxHeartbeats 1000000
namespace L2
open PySem PySem.Spec PyProof.Rows
def BW(Q:VK):List V->Hp->Prop:=fun xs H1=>xs.length<=sizeLine/\∀p,H1 p=none->Q (.ref p) (upd H1 p (.lst xs))
def gR(K:PySem.W.Frag):List V->Hp->VK->Prop:=fun xs H Q=>∃p ys,xs=[.ref p]/\(aS K H p ys\/fO K H p ys)/\∀l,H l=none->Q (.ref l) (upd H l (.lst ys))
theorem lC{X:Cx}:fW X (.type "list") (gR X.K):=Sw
def HR:R2:=fun x y H Q=>y= .aC/\Q (.bl (decide (x= .aC))) H
def uM:R2:=fun x y H Q=>y= .aC/\Q (.bl (!decide (x= .aC))) H
theorem Jk{X:Cx}:cR X (compareOp .Is) HR:=Vd
theorem Fv{X:Cx}:cR X (compareOp .IsNot) uM:=WA
def intOf:Expr->Option Int
 | .Constant (.int i) _ _=>some i
 |_=>none
theorem UM{e:Expr}{i:Int}(h:intOf e=some i):∃k p,e= .Constant (.int i) k p:=by
 unfold intOf at h
 split at h
 ·cases h;exact⟨_,_,rfl⟩
 ·cases h
def oA:List Expr->Option (List Int)
 |[]=>some []
 |e::r=>(intOf e).bind fun i=>(oA r).map (i:: ·)
def uT(is:List Int):TA:=fun _ H Q=>Q (is.map V.int) H
theorem Gk{X:Cx}:∀{es:List Expr} {is:List Int},oA es=some is->PA X es (uT is):=by
  intro es
  induction es with
  | nil =>
    intro is h
    have e:is=[]:=by simpa[oA] using h.symm
    subst e
    exact aj
  | cons e r ih =>
    intro is h
    unfold oA at h
    cases hi:intOf e with
    |none=>rw[hi] at h;cases h
    | some i =>
      rw[hi] at h
      obtain⟨k,p,rfl⟩:=UM hi
      obtain⟨js,hj,rfl⟩:=oH.mp (show(oA r).map (i:: ·)=some is from h)
      exact aa (te:=tC (.int i)) (t:=uT js) ao (ih hj)
theorem J4{X:Cx}{i:Nat}{x:Str}{es:List Expr}{is:List Int}{p1 p2 p3:Pos}(hN:X.N.Nodup)(hi:X.N[i]?=some x)(hx:Loc X.env.scope x)(h:oA es=some is)(hf:X.fn x=true\/X.env.scope.names.lookup x=some .local):
  PS X (.Assign [.Name x p1] (.List es p2) p3) (fS (pX (uT is)) (gP i)):=aR hN hi hx (gC (Gk h)) rfl hf
namespace R
section
variable{σ:St}{H:Hp}{Q:VK}{D:Ends}{ta tb te:TE}{K:PySem.W.Frag}
theorem seq{t u:TS}(h:t {D with nx:=u D} σ H):qX t u D σ H:=h
theorem asg{g:TG}(h:te σ H fun x H1=>g x σ H1 D.nx):fS te g D σ H:=h
theorem nF{c:TT}{t u:TS}(h:c σ H fun b H1=>if b=true then t D σ H1 else u D σ H1):BL c t u D σ H:=h
theorem ret(h:te σ H D.rt):o9 te D σ H:=h
theorem drop(h:te σ H fun _ H1=>D.nx σ H1):uz te D σ H:=h
theorem next(h:D.nx σ H):Az D σ H:=h
theorem var{i:Nat}{v:V}(e:σ[i]?=some (some v))(h:Q v H):cI i σ H Q:=⟨v,e,h⟩
theorem c{v:V}(h:Q v H):tC v σ H Q:=h
theorem op{r:R2}(h:ta σ H fun x H1=>tb σ H1 fun y H2=>r x y H2 Q):dD r ta tb σ H Q:=h
theorem test{q:Bool->Hp->Prop}(h:te σ H fun x H'=>∃k,x= .bl k/\q k H'):xg te σ H q:=h
theorem bl{P:Bool->Prop}{b:Bool}(h:P b):∃k,V.bl b= .bl k/\P k:=⟨b,rfl,h⟩
theorem and{t u:TT}{q:Bool->Hp->Prop}(h:t σ H fun c H1=>if c=true then u σ H1 q else q false H1):AU t u σ H q:=h
theorem BR(h:ta σ H fun x H1=>∃c,x= .bl c/\if c=true then tb σ H1 Q else Q (.bl false) H1):AF ta tb σ H Q:=h
theorem Ur(h:ta σ H fun x H1=>∃c,x= .bl c/\Q (.bl (!c)) H1):Gp ta σ H Q:=h
theorem cb{r:List V->Hp->VK->Prop}{t:TA}(h:t σ H fun vs H1=>r vs H1 Q):fJ r t σ H Q:=h
theorem call{sp:Sp}{t:TA}(h:t σ H fun vs H1=>sp (vs++[]) H1 Q E0):g9 sp [] E0 t σ H Q:=h
theorem nil{q:List V->Hp->Prop}(h:q [] H):cz σ H q:=h
theorem cons{t:TA}{q:List V->Hp->Prop}(h:ta σ H fun x H1=>t σ H1 fun xs H2=>q (x::xs) H2):bC ta t σ H q:=h
theorem lst{t:TA}(h:t σ H (BW Q)):pX t σ H Q:=h
theorem sl{r:V->Option Int->Option Int->Hp->VK->Prop}{tl th:TO}(h:te σ H fun x H1=>tl σ H1 fun l H2=>th σ H2 fun u H3=>r x l u H3 Q):qS r te tl th σ H Q:=h
theorem VP{q:Option Int->Hp->Prop}(h:q none H):Cb σ H q:=h
theorem part{q:Option Int->Hp->Prop}(h:te σ H fun x H1=>∃i,x= .int i/\q (some i) H1):CY te σ H q:=h
theorem K6{P:Int->Prop}{i:Int}(h:P i):∃j,V.int i= .int j/\P j:=⟨i,rfl,h⟩
theorem Wj{T:String}{r:V->List V->Hp->VK->Prop}(h:te σ H fun x H1=>rT K T x H1/\r x [] H1 Q):HA K T r te σ H Q:=h
theorem Rj{i:Int}{A:Prop}(h:A):rT K "int" (.int i) H/\A:=⟨rfl,h⟩
theorem Ko{i:Nat}{v:V}{q:St->Hp->Prop}(h:q (σ.set i (some v)) H):gP i v σ H q:=h
theorem Vs{to ti:TE}{t:sS}{v:V}{q:St->Hp->Prop}(h:to σ H fun o H1=>ti σ H1 fun i H2=>t o i v H2 fun H3=>q σ H3):pU to ti t v σ H q:=h
theorem RK{t:TG}{u:g7}{v:V}{r:List V}{q:St->Hp->Prop}(h:t v σ H fun σ' H'=>u r σ' H' q):yo t u (v::r) σ H q:=⟨v,r,rfl,h⟩
theorem V7{q:St->Hp->Prop}(h:q σ H):yk [] σ H q:=⟨rfl,h⟩
theorem MN{n:Nat}{t:g7}{a:Addr}{xs:List V}{q:St->Hp->Prop}(hq:fO K H a xs)(hl:xs.length=n)(h:t xs σ H q):vB K n t (.ref a) σ H q:=⟨a,xs,rfl,hq,hl,h⟩
theorem qi{q:Bool->Hp->Prop}(h:q true H):sr σ H q:=h
theorem iB{g:Int->Int->V}{i j:Int}(h:Q (g i j) H):L2.iB g (.int i) (.int j) H Q:=⟨i,j,rfl,rfl,h⟩
theorem rI{C:Int->Int->Prop}{g:Int->Int->V}{i j:Int}(hc:C i j)(h:Q (g i j) H):L2.rI C g (.int i) (.int j) H Q:=⟨i,j,rfl,rfl,hc,h⟩
theorem Ah{i j:Int}:decide (V.int i=V.int j)=decide (i=j):=by rw[jS];simp
theorem JY{i j:Int}(h:Q (.bl (decide (i=j))) H):yS (.int i) (.int j) H Q:=⟨rfl,by rw[Ah];exact h⟩
theorem NN{i j:Int}(h:Q (.bl (decide (i≠j))) H):C2 (.int i) (.int j) H Q:=⟨rfl,by rw[Ah,<-decide_not];exact h⟩
theorem GS{i:Int}(h:Q (.bl true) H):uM (.int i) .aC H Q:=⟨rfl,by rw[decide_eq_false (fun e=>V.noConfusion e)];exact h⟩
theorem Ea(h:Q (.bl false) H):uM .aC .aC H Q:=⟨rfl,by rw[decide_eq_true rfl];exact h⟩
theorem vn{p:Addr}{xs:List V}{i:Int}{v:V}(hp:H p=some (.lst xs))(e:bU xs i=some v)(h:Q v H):fh K (.ref p) (.int i) H Q:=⟨p,xs,i,v,rfl,rfl,aS.of hp,e,h⟩
theorem BZ{p:Addr}{o:HO}{xs:List V}{i:Int}{v:V}(e:bU xs i=some v)(h:Q v (upd H p (.lst xs))):fh K (.ref p) (.int i) (upd H p (.lst xs)) Q:=⟨p,xs,i,v,rfl,rfl,aS.of bh,e,h⟩
theorem setM{p:Addr}{xs:List V}{k:Int}{j:Nat}{v:V}{q:Hp->Prop}(hp:H p=some (.lst xs))(e:gF xs.length k=some j)(h:q (upd H p (.lst (xs.set j v)))):ql (.ref p) (.int k) v H q:=⟨p,xs,k,j,rfl,rfl,hp,e,h⟩
theorem Uw{p:Addr}{xs:List V}{k:Int}{j:Nat}{v:V}{q:Hp->Prop}(e:gF xs.length k=some j)(h:q (upd H p (.lst (xs.set j v)))):ql (.ref p) (.int k) v (upd H p (.lst xs)) q:=
 ⟨p,xs,k,j,rfl,rfl,bh,e,by rw[Aw];exact h⟩
theorem Ux{p:Addr}{xs:List V}{P:List V->Prop}(hp:H p=some (.lst xs))(h:P xs):∃a ys,[V.ref p]=[.ref a]/\(aS K H a ys\/fO K H a ys)/\P ys:=⟨p,xs,rfl, .inl (aS.of hp),h⟩
theorem Ff{p:Addr}{xs:List V}{lo hi:Option Int}(hp:aS K H p xs)(h:∀a,H a=none->Q (.ref a) (upd H a (.lst (k8 xs lo hi)))):kY K (.ref p) lo hi H Q:=⟨p,xs,rfl,hp,h⟩
theorem Se{a:Int}{P:Int->Prop}(h:P a):∃i,[V.int a]=[.int i]/\P i:=⟨a,rfl,h⟩
theorem bits{i:Int}{P:Int->Prop}(h:P i):∃j,V.int i= .int j/\([]:List V)=[]/\P j:=⟨i,rfl,rfl,h⟩
theorem Qh{xs:List V}(h:xs.length<=10000)(q:∀p H',cQ H H'->H p=none->H' p=some (.lst xs)->Q (.ref p) H'):BW Q xs H:=
 ⟨fq h (by decide),fun p hp=>q p _ (cP hp) hp bh⟩
theorem gk{c A B:Prop}[Decidable c](h:c)(q:A):if c then A else B:=by rw[if_pos h];exact q
theorem E1{c A B:Prop}[Decidable c](h:¬c)(q:B):if c then A else B:=by rw[if_neg h];exact q
theorem dT{c:Prop}[Decidable c](h:c):decide c=true:=decide_eq_true h
theorem dF{c:Prop}[Decidable c](h:¬c):¬decide c=true:=by rw[decide_eq_false h];exact bq
theorem Ew{c:Prop}[Decidable c](h:c):¬(!decide c)=true:=by rw[decide_eq_true h];decide
theorem NY{i:Int}(h:Q (.bl true) H):g6 K [.int i, .ty "int"] H Q:=⟨_,_,_,true,rfl, .int i,rfl,h⟩
theorem Om{i:Int}(h:Q (.bl false) H):g6 K [.int i, .ty "bool"] H Q:=⟨_,_,_,false,rfl, .int i,by with_unfolding_all rfl,h⟩
theorem T6{t:TA}{R:It->Hp->Prop}(h:t σ H fun vs H1=>∃j:Int,vs=[.int j]/\ -(2^62)<=j/\j<2^62/\R (iF 0 j.toNat) H1):uR t σ H R:=h
theorem TR{P:Int->Prop}{i:Int}(h1: -(2^62)<=i)(h2:i<2^62)(h:P i):∃j:Int,[V.int i]=[.int j]/\ -(2^62)<=j/\j<2^62/\P j:=⟨i,rfl,h1,h2,h⟩
theorem Nu{t:TA}{R:It->Hp->Prop}(h:t σ H fun vs H1=>∃i j:Int,vs=[.int i, .int j]/\(-(2^62)<=i/\i<2^62/\ -(2^62)<=j/\j<2^62)/\R (iF i (j-i).toNat) H1):xU t σ H R:=h
theorem L5{P:Int->Int->Prop}{a b:Int}(h1: -(2^62)<=a/\a<2^62/\ -(2^62)<=b/\b<2^62)(h:P a b):∃i j:Int,[V.int a,V.int b]=[.int i, .int j]/\(-(2^62)<=i/\i<2^62/\ -(2^62)<=j/\j<2^62)/\P i j:=⟨a,b,rfl,h1,h⟩
theorem iL{tl:TE}{R:It->Hp->Prop}(h:tl σ H fun x H1=>∃a,x= .ref a/\(∃xs,aS K H1 a xs)/\R (nk K a) H1):rz K tl σ H R:=h
theorem uE{P:Addr->Prop}{p:Addr}{xs:List V}(hp:aS K H p xs)(h:P p):∃a,V.ref p= .ref a/\(∃xs,aS K H a xs)/\P a:=⟨p,rfl,⟨xs,hp⟩,h⟩
theorem V9{wi:TI}{g:TG}{tb:TS}(h:wi σ H fun J H1=>∃W:Nat->Nat->St->Hp->Prop,(∃m,W 0 m σ H1)/\∀i m σ H,W i m σ H->
 (J.stop i H/\D.nx σ H)\/(J.go i H/\∃N:St->Hp->Prop,(∀σ' H',N σ' H'->∃m',m'<m/\W (i+1) m' σ' H')/\∀x H',J.n6 i H x H'->g x σ H' fun σ2 H2=>tb {D with nx:=N,ct:=N,bk:=D.nx} σ2 H2)):vv wi g tb D σ H:=h
theorem comp{wi:TI}{g:TG}{tc:TT}{mp:List (Option Nat)}(h:wi σ H fun J H1=>∀acc,H1 acc=none->oB J g tc te acc (fun H'=>Q (.ref acc) H') (fZ mp σ) (upd H1 acc (.lst []))):lT wi g tc te mp σ H Q:=h
end
theorem Hu{lo:Int}{n:Nat}{g:TG}{tc:TT}{te:TE}{acc:Addr}{Qe:Hp->Prop}{σ:St}{H:Hp}(Pv:Nat->St->Hp->Prop)(h0:Pv 0 σ H)
  (hs:∀i σ H,i<n->Pv i σ H->g (.int (lo+i)) σ H fun σ2 H2=>tc σ2 H2 fun b H3=>if b=true then te σ2 H3 fun v H4=>∃ys,H4 acc=some (.lst ys)/\ys.length<sizeLine/\Pv (i+1) σ2 (upd H4 acc (.lst (ys++[v]))) else Pv (i+1) σ2 H3)
  (hd:∀σ H,Pv n σ H->Qe H):oB (iF lo n) g tc te acc Qe σ H:=by
 refine⟨fun i m σ H=>m=n-i/\i<=n/\Pv i σ H,⟨n,by simp,fG _,h0⟩,?_⟩
 rintro i m σ H ⟨rfl,hi,p⟩
 by_cases hlt:i<n
 ·refine .inr ⟨hlt,Pv (i+1),fun σ' H' p'=>⟨n-(i+1),by omega,rfl,hlt,p'⟩,fun x H' y=>?_⟩
  obtain⟨e,y⟩:=y
  subst e y
  exact hs i σ _ hlt p
 ·have e:i=n:=by omega
  subst e
  exact .inl ⟨aF _,hd σ H p⟩
theorem DC{K:PySem.W.Frag}{a:Addr}{xs:List V}{g:TG}{tc:TT}{te:TE}{acc:Addr}{Qe:Hp->Prop}{σ:St}{H:Hp}(Pv:Nat->St->Hp->Prop)(h0:Pv 0 σ H)(hl:∀i σ H,i<=xs.length->Pv i σ H->aS K H a xs)
  (hs:∀i x σ H,xs[i]?=some x->Pv i σ H->g x σ H fun σ2 H2=>tc σ2 H2 fun b H3=>if b=true then te σ2 H3 fun v H4=>∃ys,H4 acc=some (.lst ys)/\ys.length<sizeLine/\Pv (i+1) σ2 (upd H4 acc (.lst (ys++[v]))) else Pv (i+1) σ2 H3)
  (hd:∀σ H,Pv xs.length σ H->Qe H):oB (nk K a) g tc te acc Qe σ H:=by
 refine⟨fun i m σ H=>m=xs.length-i/\i<=xs.length/\Pv i σ H,⟨xs.length,by simp,fG _,h0⟩,?_⟩
 rintro i m σ H ⟨rfl,hi,p⟩
 have q:=hl i σ H hi p
 by_cases hlt:i<xs.length
 ·refine .inr ⟨⟨xs,xs[i],q,by simp[hlt]⟩,Pv (i+1),fun σ' H' p'=>⟨xs.length-(i+1),by omega,rfl,hlt,p'⟩,fun x H' y=>?_⟩
  obtain⟨e,y⟩:=y
  subst e
  exact hs i x σ _ (y xs q) p
 ·have e:i=xs.length:=by omega
  subst e
  exact .inl ⟨⟨xs,q,aF _⟩,hd σ H p⟩
end R
end L2
set_option maxRecDepth 100000
set_option maxHeartbeats 1000000
namespace L2
open PySem PySem.Spec PyProof.Rows
@[reducible] def pairD(pr:Int×Int):PyData:= .tuple [.int pr.1, .int pr.2]
def c8:Option Int->PyData
 |none=> .none
 |some i=> .int i
def oG:Option Int->V
 |none=> .aC
 |some i=> .int i
def i9(wd:List (Option Int))(pr:Int×Int):Int:=match wd[pr.1.toNat]? with
 |some (some x)=>pr.2*x
 |_=>0
def aQ(prs:List (Int×Int))(wd:List (Option Int)):Int:=(prs.map (i9 wd)).sum
theorem LA{prs:List (Int×Int)}{wd:List (Option Int)}{i:Nat}(h:i<prs.length):aQ (prs.take (i+1)) wd=aQ (prs.take i) wd+i9 wd prs[i]:=by
 unfold aQ
 rw[BI,aI h,eZ,List.sum_append]
 simp
theorem Oa{nb:Addr->Prop}{H:Hp}{o:Option Int}{v:V}(h:ai nb H (c8 o) v):v=oG o:=by
 cases o with
 |none=>exact h.uW
 |some i=>exact h.bR
theorem BC{nb:Addr->Prop}{H:Hp}:∀{wd:List (Option Int)} {xs:List V},af nb H (wd.map c8) xs->xs=wd.map oG
  |[],_,h=>by unfold List.map af at h;exact h
  | o :: wd, _, h => by
    rw[bx] at h
    unfold af at h
    obtain⟨y,ys,rfl,h1,h2⟩:=h
    rw[bx,Oa h1,BC h2]
theorem Mj{nb:Addr->Prop}{H:Hp}{pr:Int×Int}{v:V}(h:ai nb H (pairD pr) v):∃t,v= .ref t/\¬nb t/\H t=some (.tup [.int pr.1, .int pr.2]):=by
 obtain⟨t,xs,rfl,n,ht,hd⟩:=h.ofT
 unfold af at hd
 obtain⟨y,ys,rfl,h1,h2⟩:=hd
 unfold af at h2
 obtain⟨z,zs,rfl,h3,h4⟩:=h2
 unfold af at h4
 subst h4
 rw[h1.bR,h3.bR] at ht
 exact⟨t,rfl,n,ht⟩
def qb:Sp:=fun vs H Q _=>∃(nb:Addr->Prop) (p:Int) (va vc:V) (prs:List (Int×Int)) (wd:List (Option Int)),vs=[.int p,va,vc]/\ai nb H (.list (prs.map pairD)) va/\ai nb H (.list (wd.map c8)) vc/\0<p/\
 (∀pr∈prs,0<=pr.1/\pr.1<wd.length/\Sm pr.2)/\(∀x,some x∈wd->Sm x)/\Q (.int (aQ prs wd%p)) H
theorem t9(wd:List (Option Int)):PyData.depthAll (wd.map c8)=0/\PyData.canLayAll0 (wd.map c8)=true:=by
 induction wd with
 |nil=>simp[PyData.depthAll,PyData.canLayAll0]
 |cons a r ih=>cases a<;>simp[c8,PyData.depthAll,PyData.depth,PyData.canLayAll0,PyData.canLay0,ih.2,ih.1]
def uS(r:Int):Prop:=∀d:Int,2<=d->d*d<=r->r%d≠0
def vO:List Int:=[2,3,5,7,2,11,101,10007,65537,1000003,998244353,1000000007,2147483647,1000000000039,1000000000000000003,18446744073709551557,2305843009213693951,618970019642690137449562111,162259276829213363391578010288127,170141183460469231731687303715884105727,1000000000000000000000000000000000000003,9999999999999999999999999999999999999983]
def HS(p:Int):Prop:=2<=p/\p<10^40/\(p∈vO\/uS p)
def zQ:Sp:=fun vs H Q _=>∃n:Int,vs=[.int n]/\2<=n/\n<=10002/\∀(r:Int) (H':Hp),cQ H H'->2<=r->r<=10100->uS r->Q (.int r) H'
def Kz:Sp:=fun vs H Q _=>∃(b l:Addr),vs=[.ref b]/\dz H b l/\∀(p:Int) (H':Hp),HS p->aU (Nb b) H H'->dz H' b l->Q (.int p) H'
theorem AO{nb:Addr->Prop}{H:Hp}:∀is:List Int,af nb H (is.map PyData.int) (is.map V.int)
 |[]=>af.nil
 |i::is=>af.cons (.int i) (AO is)
theorem sQ{nb:Addr->Prop}{H:Hp}:∀{is:List Int} {xs:List V},af nb H (is.map PyData.int) xs->xs=is.map V.int
  |[],_,h=>by unfold List.map af at h;exact h
  | i :: is, _, h => by
    rw[bx] at h
    unfold af at h
    obtain⟨y,ys,rfl,h1,h2⟩:=h
    rw[bx,h1.bR,sQ h2]
end L2
set_option maxRecDepth 100000
set_option maxHeartbeats 1000000
namespace L2
open PySem PySem.Spec PyProof.Rows
abbrev Bg:=Option (Addr×Addr)
def NB(B:Bg)(a:Addr):Prop:=∀b l,B=some (b,l)->a≠b
def jA(B:Bg)(H:Hp):Prop:=∀b l,B=some (b,l)->dz H b l
inductive HD where
 |d (x:PyData)|fz (o:Obj) (ps:List (Key×V))
def fE(S:Addr->Prop)(H:Hp):HD->V->Prop
 | .d x,v=>ai S H x v
 | .fz o ps,v=>∃a,v= .ref a/\¬S a/\H a=some (.gm o (.dK ps))
theorem fE.keep{S:Addr->Prop}{H H':Hp}{x:HD}{v:V}(h:fE S H x v)(b:aU S H H'):fE S H' x v:=by
 cases x with
 |d x=>exact ai.keep b h
 |fz o ps=>obtain⟨a,e,n,q⟩:=h;exact⟨a,e,n,b _ _ n q⟩
theorem fE.av{S S':Addr->Prop}{H:Hp}{x:HD}{v:V}(h:fE S H x v)(b:∀a,S' a->S a):fE S' H x v:=by
 cases x with
 |d x=>exact ai.av b h
 |fz o ps=>obtain⟨a,e,n,q⟩:=h;exact⟨a,e,fun z=>n (b a z),q⟩
theorem fE.fresh{S:Addr->Prop}{H:Hp}{x:HD}{v:V}{p:Addr}(h:fE S H x v)(hp:H p=none):fE (fun a=>S a\/a=p) H x v:=by
 cases x with
 |d x=>exact ai.fresh hp h
 |fz o ps=>obtain⟨a,e,n,q⟩:=h;exact⟨a,e,fun z=>z.elim n (gU q hp),q⟩
structure Gx where
 B:Bg
 H0:Hp
 A:Addr->Prop
 hold:List (Bool×HD×V):=[]
def jQ(nb:Addr->Prop)(H:Hp):Prop:=∀a,nb a->H a≠none
structure Kp(S:Addr->Prop)(F:List Addr)(H H':Hp):Prop where
 own:∀a∈F,∀o,H a=some o->H' a=some o
 lst:∀a xs,¬S a->H a=some (.lst xs)->H' a=some (.lst xs)
 tup:∀a xs,¬S a->H a=some (.tup xs)->H' a=some (.tup xs)
 cy:∀a ps,¬S a->Rd H a (.dK ps)->Rd H' a (.dK ps)
theorem Kp.of{S:Addr->Prop}{F:List Addr}{H H':Hp}(h:∀a o,(¬S a\/a∈F)->H a=some o->H' a=some o):Kp S F H H':=
 ⟨fun a ha o e=>h a o (.inr ha) e,fun a xs n e=>h a _ (.inl n) e,fun a xs n e=>h a _ (.inl n) e,fun a ps n e=>e.elim (fun e=> .inl (h a _ (.inl n) e)) fun⟨o,e⟩=> .inr ⟨o,h a _ (.inl n) e⟩⟩
mutual
theorem ai.kp{S:Addr->Prop}{F:List Addr}{H H':Hp}(m:Kp S F H H'):∀{d:PyData} {v:V},ai S H d v->ai S H' d v
 | .none,_,h=>by unfold ai at h⊢;exact h
 | .bool _,_,h=>by unfold ai at h⊢;exact h
 | .int _,_,h=>by unfold ai at h⊢;exact h
 | .str _,_,h=>by unfold ai at h⊢;exact h
 | .list ds,_,h=>by unfold ai at h⊢;obtain⟨a,xs,e,n,s,r⟩:=h;exact⟨a,xs,e,n,m.lst _ _ n s,af.kp m r⟩
 | .tuple ds,_,h=>by unfold ai at h⊢;obtain⟨a,xs,e,n,s,r⟩:=h;exact⟨a,xs,e,n,m.tup _ _ n s,af.kp m r⟩
 | .dict kvs,_,h=>by unfold ai at h⊢;obtain⟨a,xs,e,n,s,r⟩:=h;exact⟨a,xs,e,n,m.cy _ _ n s,aq.kp m r⟩
theorem af.kp{S:Addr->Prop}{F:List Addr}{H H':Hp}(m:Kp S F H H'):∀{ds:List PyData} {vs:List V},af S H ds vs->af S H' ds vs
 |[],_,h=>by unfold af at h⊢;exact h
 |d::ds,_,h=>by unfold af at h⊢;obtain⟨y,ys,e,h1,h2⟩:=h;exact⟨y,ys,e,ai.kp m h1,af.kp m h2⟩
theorem aq.kp{S:Addr->Prop}{F:List Addr}{H H':Hp}(m:Kp S F H H'):∀{ds:List (PyData×PyData)} {vs:List (Key×V)},aq S H ds vs->aq S H' ds vs
 |[],_,h=>by unfold aq at h⊢;exact h
 |d::ds,_,h=>by unfold aq at h⊢;obtain⟨y,ys,e,h1,h2⟩:=h;exact⟨y,ys,e,bO.kp m h1,aq.kp m h2⟩
theorem bO.kp{S:Addr->Prop}{F:List Addr}{H H':Hp}(m:Kp S F H H'):∀{d:PyData×PyData} {v:Key×V},bO S H d v->bO S H' d v
 |(k,d),_,h=>by unfold bO at h⊢;exact⟨h.1,ai.kp m h.2⟩
end
structure Cu where
 v:V
 F:List Addr
 f:Bool
 P:(Addr->Prop)->Hp->Prop
 keep:∀{S:Addr->Prop} {H H':Hp},Kp S F H H'->P S H->P S H'
 av:∀{S S':Addr->Prop} {H:Hp},(∀a,S' a->S a)->P S H->P S' H
 fresh:∀{S:Addr->Prop} {H:Hp} {p:Addr},H p=none->P S H->P (fun a=>S a\/a=p) H
inductive Sl where
 |no|d (f:Bool) (d:PyData)|own (a:Addr) (f:Bool) (ds:List PyData)|au|raw (v:V)|cy (a:Addr) (f:Bool) (ks:List (Int×PyData))|cu (c:Cu)
def Sl.adr:Sl->List Addr
 | .own a _ _=>[a]
 | .cy a _ _=>[a]
 | .cu c=>c.F
 |_=>[]
@[reducible] def ie(p:Int×PyData):PyData×PyData:=(.int p.1,p.2)
abbrev Rh:=List Sl
def Gx.S(G:Gx)(nb:Addr->Prop)(f:Bool):Addr->Prop:=fun a=>nb a\/G.A a\/¬NB G.B a\/(f=true/\G.H0 a≠none)
def n5(G:Gx)(nb:Addr->Prop)(H:Hp)(x:Option V):Sl->Prop
 | .no=>True
 | .d f d=>∃v,x=some v/\ai (G.S nb f) H d v
 | .own a f ds=>x=some (.ref a)/\nb a/\NB G.B a/\∃xs,H a=some (.lst xs)/\af (G.S nb f) H ds xs
 | .au=>∃b l,G.B=some (b,l)/\x=some (.ref b)
 | .raw v=>x=some v
 | .cy a f ks=>x=some (.ref a)/\nb a/\NB G.B a/\∃ps,H a=some (.dK ps)/\aq (G.S nb f) H (ks.map ie) ps
 | .cu c=>x=some c.v/\(∀a∈c.F,nb a/\NB G.B a)/\c.P (G.S nb c.f) H
structure Wd(G:Gx)(nb:Addr->Prop)(ρ:Rh)(σ:St)(H:Hp):Prop where
 au:jA G.B H
 live:jQ nb H
 old:∀a o,NB G.B a->G.H0 a=some o->H a=some o
 dh:∀a,nb a->NB G.B a->G.H0 a=none
 gA:jQ G.A G.H0
 len:σ.length=ρ.length
 gB:jA G.B G.H0
 gu:∀h∈G.hold,fE (G.S nb h.1) H h.2.1 h.2.2
 ok:∀(i:Nat) (s:Sl),ρ[i]?=some s->∃x,σ[i]?=some x/\n5 G nb H x s
 apart:∀(i j:Nat) a f as c g cs,i≠j->ρ[i]?=some (.own a f as)->ρ[j]?=some (.own c g cs)->a≠c
 gb:∀(i j:Nat) a f as c g cs,i≠j->ρ[i]?=some (.cy a f as)->ρ[j]?=some (.cy c g cs)->a≠c
 dQ:∀(i j:Nat) c s,i≠j->ρ[i]?=some (.cu c)->ρ[j]?=some s->∀a∈c.F,a∉s.adr
def Step(B:Bg)(H H':Hp):Prop:=(∀a o,NB B a->H a=some o->H' a=some o)/\jA B H'
section
variable{G:Gx}{B:Bg}{nb:Addr->Prop}{ρ:Rh}{σ:St}{H H1 H2 H':Hp}{f g:Bool}{d:PyData}{ds:List PyData}{v:V}{xs:List V}{a p:Addr}
theorem Step.refl(h:jA B H):Step B H H:=⟨fun _ _ _ e=>e,h⟩
theorem Step.trans(x:Step B H H1)(y:Step B H1 H2):Step B H H2:=⟨fun a o n e=>y.1 a o n (x.1 a o n e),y.2⟩
theorem jA.same(h:jA B H)(s:cQ H H'):jA B H':=fun b l e=>(h b l e).same s
theorem Step.same(h:jA B H)(s:cQ H H'):Step B H H':=⟨fun a o _ e=>s a o e,h.same s⟩
theorem Step.but{aL:Addr->Prop}(s:Step B H H')(h:∀a,¬NB B a->aL a):aU aL H H':=fun a o n e=>s.1 a o (jF fun z=>n (h a z)) e
theorem Step.dj(s:Step G.B H H'):aU (G.S nb f) H H':=s.but fun a h=> .inr (.inr (.inl h))
theorem cV(h:g=true->f=true){aL:Addr->Prop}(hn:∀a,nb a->aL a):∀a,G.S nb g a->G.S aL f a:=by
 intro a z
 rcases z with z|z|z|⟨z,q⟩
 ·exact .inl (hn a z)
 ·exact .inr (.inl z)
 ·exact .inr (.inr (.inl z))
 ·exact .inr (.inr (.inr ⟨h z,q⟩))
theorem NB.mK(h:jA B H)(n:¬NB B a):H a≠none:=by
 intro e
 apply n
 intro b l hb z
 subst z
 obtain⟨_,_,_,_,_,h1,_⟩:=h _ _ hb
 rw[h1] at e;cases e
theorem Wd.jn(W:Wd G nb ρ σ H):jQ (G.S nb f) H:=by
 intro a z
 rcases z with z|z|z|⟨_,z⟩
 ·exact W.live a z
 ·by_cases n:NB G.B a
  ·cases e:G.H0 a with
   |none=>exact absurd e (W.gA a z)
   |some o=>rw[W.old a o n e];exact iM _
  ·exact NB.mK W.au n
 ·exact NB.mK W.au z
 ·by_cases n:NB G.B a
  ·cases e:G.H0 a with
   |none=>exact absurd e z
   |some o=>rw[W.old a o n e];exact iM _
  ·exact NB.mK W.au n
theorem Wd.fresh(W:Wd G nb ρ σ H)(hp:H p=none):¬G.S nb f p:=fun z=>W.jn p z hp
theorem n5.step{x:Option V}{s:Sl}(st:Step G.B H H')(h:n5 G nb H x s):n5 G nb H' x s:=by
  cases s with
  |no=>trivial
  |d f d=>obtain⟨v,e,h⟩:=h;exact⟨v,e,h.keep st.dj⟩
  |own a f ds=>obtain⟨e,n,q,xs,hx,hd⟩:=h;exact⟨e,n,q,xs,st.1 _ _ q hx,hd.keep st.dj⟩
  |au=>exact h
  |raw v=>exact h
  |cy a f ks=>obtain⟨e,n,q,xs,hx,hd⟩:=h;exact⟨e,n,q,xs,st.1 _ _ q hx,hd.keep st.dj⟩
  | cu c =>
    obtain⟨e,n,p⟩:=h
    refine⟨e,n,c.keep (.of fun a o ha e=>st.1 a o ?_ e) p⟩
    rcases ha with ha|ha
    · exact jF fun z=>ha (.inr (.inr (.inl z)))
    · exact(n a ha).2
theorem Pb(n:NB B a)(st:Step B H H')(h:H a≠none):H' a≠none:=by
 cases e:H a with
 |none=>exact absurd e h
 |some o=>rw[st.1 a o n e];exact iM _
theorem Wd.step(W:Wd G nb ρ σ H)(st:Step G.B H H'):Wd G nb ρ σ H' where
 au:=st.2
 live:=fun a n=>by
  by_cases q:NB G.B a
  ·exact Pb q st (W.live a n)
  ·exact NB.mK st.2 q
 old:=fun a o n e=>st.1 a o n (W.old a o n e)
 dh:=W.dh
 gA:=W.gA
 len:=W.len
 gB:=W.gB
 gu:=fun h m=>(W.gu h m).keep st.dj
 ok:=fun i s e=>by
  obtain⟨x,e1,h⟩:=W.ok i s e
  exact⟨x,e1,h.step st⟩
 apart:=W.apart
 gb:=W.gb
 dQ:=W.dQ
theorem Wd.set{i:Nat}{s:Sl}{x:Option V}(W:Wd G nb ρ σ H)(h:n5 G nb H x s)(hs:∀a f ds,s= .own a f ds->∀j c g cs,j≠i->ρ[j]?=some (.own c g cs)->a≠c)(hd:∀a f ds,s= .cy a f ds->∀j c g cs,j≠i->ρ[j]?=some (.cy c g cs)->a≠c:=by intro _ _ _ z;cases z)(hcu:∀a∈s.adr,∀j t,j≠i->ρ[j]?=some t->(∃c,s= .cu c)\/(∃c,t= .cu c)->a∉t.adr:=by intro _ z;cases z):Wd G nb (ρ.set i s) (σ.set i x) H where
 au:=W.au
 live:=W.live
 old:=W.old
 dh:=W.dh
 gA:=W.gA
 len:=by rw[gQ,gQ];exact W.len
 gB:=W.gB
 gu:=W.gu
 ok:=fun j t e=>by
  by_cases hij:i=j
  ·subst hij
   have hl:i<ρ.length:=by have:=(bW.mp e).1;rwa[gQ] at this
   rw[cg hl] at e
   cases e
   exact⟨x,cg (by rw[W.len];exact hl),h⟩
  ·rw[br hij] at e⊢
   exact W.ok j t e
 apart:=fun j k a f as c g cs hjk e1 e2=>by
  by_cases hj:i=j
  ·subst hj
   have hl:i<ρ.length:=by have:=(bW.mp e1).1;rwa[gQ] at this
   rw[cg hl] at e1
   cases e1
   rw[br hjk] at e2
   exact hs a f as rfl k c g cs (bJ hjk) e2
  ·by_cases hk:i=k
   ·subst hk
    have hl:i<ρ.length:=by have:=(bW.mp e2).1;rwa[gQ] at this
    rw[cg hl] at e2
    cases e2
    rw[br hj] at e1
    exact(hs c g cs rfl j a f as hjk e1).symm
   ·rw[br hj] at e1
    rw[br hk] at e2
    exact W.apart j k a f as c g cs hjk e1 e2
 gb:=fun j k a f as c g cs hjk e1 e2=>by
  by_cases hj:i=j
  ·subst hj
   have hl:i<ρ.length:=by have:=(bW.mp e1).1;rwa[gQ] at this
   rw[cg hl] at e1
   cases e1
   rw[br hjk] at e2
   exact hd a f as rfl k c g cs (bJ hjk) e2
  ·by_cases hk:i=k
   ·subst hk
    have hl:i<ρ.length:=by have:=(bW.mp e2).1;rwa[gQ] at this
    rw[cg hl] at e2
    cases e2
    rw[br hj] at e1
    exact(hd c g cs rfl j a f as hjk e1).symm
   ·rw[br hj] at e1
    rw[br hk] at e2
    exact W.gb j k a f as c g cs hjk e1 e2
 dQ:=fun j k c t hjk e1 e2 a ha=>by
  by_cases hj:i=j
  ·subst hj
   have hl:i<ρ.length:=by have:=(bW.mp e1).1;rwa[gQ] at this
   rw[cg hl] at e1
   cases e1
   rw[br hjk] at e2
   exact hcu a ha k t (bJ hjk) e2 (.inl ⟨c,rfl⟩)
  ·by_cases hk:i=k
   ·subst hk
    have hl:i<ρ.length:=by have:=(bW.mp e2).1;rwa[gQ] at this
    rw[cg hl] at e2
    cases e2
    rw[br hj] at e1
    exact fun z=>hcu a z j (.cu c) hjk e1 (.inr ⟨c,rfl⟩) ha
   ·rw[br hj] at e1
    rw[br hk] at e2
    exact W.dQ j k c t hjk e1 e2 a ha
theorem Wd.nI{i:Nat}(W:Wd G nb ρ σ H)(h:ai (G.S nb f) H d v):Wd G nb (ρ.set i (.d f d)) (σ.set i (some v)) H:=W.set ⟨v,rfl,h⟩ fun _ _ _ e=>by cases e
inductive Wk:Rh->Rh->Prop
 |nil:Wk [] []
 |no {s:Sl} {r r':Rh} (h:Wk r r'):Wk (.no::r) (s::r')
 |eq {s:Sl} {r r':Rh} (h:Wk r r'):Wk (s::r) (s::r')
theorem Wk.at:∀{r r':Rh} {i:Nat} {s:Sl},Wk r r'->r[i]?=some s->s= .no/\(∃t,r'[i]?=some t)\/r'[i]?=some s
 |_,_,_,_, .nil,e=>by simp at e
 |_,_,0,_, .no h,e=>by simp at e;subst e;exact .inl ⟨rfl,_,rfl⟩
 |_,_,0,_, .eq h,e=>by simp at e;subst e;exact .inr rfl
 |_,_,i+1,_, .no h,e=>by simpa using Wk.at (i:=i) h (by simpa using e)
 |_,_,i+1,_, .eq h,e=>by simpa using Wk.at (i:=i) h (by simpa using e)
theorem Wk.len{r r':Rh}(h:Wk r r'):r.length=r'.length:=by
 induction h with
 |nil=>rfl
 |no _ ih=>simp[ih]
 |eq _ ih=>simp[ih]
theorem Wd.wk{ρ':Rh}(W:Wd G nb ρ' σ H)(h:Wk ρ ρ'):Wd G nb ρ σ H where
 au:=W.au
 live:=W.live
 old:=W.old
 dh:=W.dh
 gA:=W.gA
 len:=by rw[h.len];exact W.len
 gB:=W.gB
 gu:=W.gu
 ok:=fun i s e=>by
  rcases h.at e with ⟨rfl,t,e'⟩|e'
  ·obtain⟨x,e1,_⟩:=W.ok i t e';exact⟨x,e1,trivial⟩
  ·exact W.ok i s e'
 apart:=fun i j a f as c g cs hij e1 e2=>by
  rcases h.at e1 with ⟨z,_⟩|mX
  ·cases z
  rcases h.at e2 with ⟨z,_⟩|e2'
  ·cases z
  exact W.apart i j a f as c g cs hij mX e2'
 gb:=fun i j a f as c g cs hij e1 e2=>by
  rcases h.at e1 with ⟨z,_⟩|mX
  ·cases z
  rcases h.at e2 with ⟨z,_⟩|e2'
  ·cases z
  exact W.gb i j a f as c g cs hij mX e2'
 dQ:=fun i j c s hij e1 e2 a ha=>by
  rcases h.at e1 with ⟨z,_⟩|mX
  ·cases z
  rcases h.at e2 with ⟨z,_⟩|e2'
  ·subst z;exact fun z=>by cases z
  exact W.dQ i j c s hij mX e2' a ha
theorem Wd.more(W:Wd G nb ρ σ H)(hp:H p=none){o:HO}:Wd G (fun a=>nb a\/a=p) ρ σ (upd H p o):=by
 have hS:cQ H (upd H p o):=cP hp
 have hN:NB G.B p:=fun b l e z=>by
  subst z
  obtain⟨_,_,_,_,_,h1,_⟩:=W.au _ _ e
  rw[h1] at hp;cases hp
 have W':=W.step (Step.same W.au hS)
 have hA:∀f a,G.S (fun a=>nb a\/a=p) f a->(G.S nb f a\/a=p):=fun f a z=>by
  rcases z with (z|z)|z|z|z
  ·exact .inl (.inl z)
  ·exact .inr z
  ·exact .inl (.inr (.inl z))
  ·exact .inl (.inr (.inr (.inl z)))
  ·exact .inl (.inr (.inr (.inr z)))
 refine⟨W'.au,fun a n=>?_,W'.old,fun a n q=>?_,W.gA,W.len,W.gB,fun h m=>(((W.gu h m).fresh hp).av (hA h.1)).keep (aU.of hS),fun i s e=>?_,W.apart,W.gb,W.dQ⟩
 ·rcases n with n|n
  ·exact W'.live a n
  ·subst n;rw[bh];exact iM _
 ·rcases n with n|n
  ·exact W.dh a n q
  ·subst n
   cases e:G.H0 a with
   |none=>rfl
   |some o=>rw[W.old a o q e] at hp;cases hp
 ·obtain⟨x,e1,h⟩:=W.ok i s e
  refine⟨x,e1,?_⟩
  cases s with
  |no=>trivial
  |d f d=>obtain⟨v,e,h⟩:=h;exact⟨v,e,((h.fresh hp).av (hA f)).keep (aU.of hS)⟩
  |own a f ds=>obtain⟨e,n,q,xs,hx,hd⟩:=h;exact⟨e, .inl n,q,xs,hS _ _ hx,((hd.fresh hp).av (hA f)).keep (aU.of hS)⟩
  |au=>exact h
  |raw v=>exact h
  |cy a f ds=>obtain⟨e,n,q,xs,hx,hd⟩:=h;exact⟨e, .inl n,q,xs,hS _ _ hx,((hd.fresh hp).av (hA f)).keep (aU.of hS)⟩
  |cu c=>obtain⟨e,n,q⟩:=h;exact⟨e,fun a ha=>⟨.inl (n a ha).1,(n a ha).2⟩,c.keep (.of fun a o _ e=>hS a o e) (c.av (hA c.f) (c.fresh hp q))⟩
theorem Wd.write(W:Wd G nb ρ σ H){o:HO}(hp:nb p)(hN:NB G.B p)(ho:∀(i:Nat) a f ds,ρ[i]?=some (.own a f ds)->a≠p)(hod:∀(i:Nat) a f ds,ρ[i]?=some (.cy a f ds)->a≠p)(hoc:∀(i:Nat) c,ρ[i]?=some (.cu c)->p∉c.F):Wd G nb ρ σ (upd H p o):=by
  have hl:∀b l,G.B=some (b,l)->p≠l:=fun b l e z=>by
    obtain⟨_,_,_,_,_,_,h2,_⟩:=W.gB b l e
    rw[<-z,W.dh p hp hN] at h2;cases h2
  have hB:jA G.B (upd H p o):=fun b l e=>(W.au b l e).put2 ⟨hN b l e,hl b l e⟩
  have bt:∀f,aU (G.S nb f) H (upd H p o):=fun f=>aU.set (.inl hp)
  refine⟨hB,fun a n=>?_,fun a o' n e=>?_,W.dh,W.gA,W.len,W.gB,fun h m=>(W.gu h m).keep (bt h.1),fun i s e=>?_,W.apart,W.gb,W.dQ⟩
  · by_cases z:a=p
    · subst z;rw[bh];exact iM _
    · rw[aX z];exact W.live a n
  · have z:a≠p:=fun z=>by subst z;rw[W.dh a hp n] at e;cases e
    rw[aX z];exact W.old a o' n e
  · obtain⟨x,e1,h⟩:=W.ok i s e
    refine⟨x,e1,?_⟩
    cases s with
    |no=>trivial
    |d f d=>obtain⟨v,e,h⟩:=h;exact⟨v,e,h.keep (bt f)⟩
    |own a f ds=>obtain⟨e',n,q,xs,hx,hd⟩:=h;exact⟨e',n,q,xs,by rw[aX (ho i a f ds e)];exact hx,hd.keep (bt f)⟩
    |au=>exact h
    |raw v=>exact h
    |cy a f ds=>obtain⟨e',n,q,xs,hx,hd⟩:=h;exact⟨e',n,q,xs,by rw[aX (hod i a f ds e)];exact hx,hd.keep (bt f)⟩
    | cu c =>
      obtain⟨e',n,q⟩:=h
      refine⟨e',n,c.keep (.of fun a o' ha e''=>?_) q⟩
      rw[aX]
      · exact e''
      · rintro rfl
        rcases ha with ha|ha
        · exact ha (.inl hp)
        · exact hoc i c e ha
end
end L2
set_option maxRecDepth 100000
set_option maxHeartbeats 1000000
namespace L2
open PySem PySem.Spec PyProof.Rows
abbrev Pd:=Bool->PyData->Prop
def Ev(G:Gx)(ρ:Rh)(te:TE)(Φ:Pd):Prop:=∀nb σ H (Q:VK),Wd G nb ρ σ H->(∀f v H' d,Φ f d->Step G.B H H'->ai (G.S nb f) H' d v->Q v H')->te σ H Q
def aB(G:Gx)(ρ:Rh)(te:TE)(Φ:Bool->List PyData->Prop):Prop:=∀nb σ H (Q:VK),Wd G nb ρ σ H->
 (∀f a xs H' ds,Φ f ds->Step G.B H H'->H a=none->H' a=some (.lst xs)->af (fun x=>G.S nb f x\/x=a) H' ds xs->Q (.ref a) H')->te σ H Q
def Tv(G:Gx)(ρ:Rh)(tt:TT)(Φ:Bool->Prop):Prop:=∀nb σ H (Q:Bool->Hp->Prop),Wd G nb ρ σ H->(∀b H',Φ b->Step G.B H H'->Q b H')->tt σ H Q
def Ov(G:Gx)(ρ:Rh)(to:TO)(Φ:Option Int->Prop):Prop:=∀nb σ H (Q:Option Int->Hp->Prop),Wd G nb ρ σ H->(∀o H',Φ o->Step G.B H H'->Q o H')->to σ H Q
abbrev Fd:=Bool×PyData
def jh(G:Gx)(nb:Addr->Prop)(H:Hp):List Fd->List V->Prop
 |[],vs=>vs=[]
 |e::es,vs=>∃v ws,vs=v::ws/\ai (G.S nb e.1) H e.2 v/\jh G nb H es ws
def Av(G:Gx)(ρ:Rh)(ta:TA)(Φ:List Fd->Prop):Prop:=∀nb σ H (Q:List V->Hp->Prop),Wd G nb ρ σ H->(∀es vs H',Φ es->Step G.B H H'->jh G nb H' es vs->Q vs H')->ta σ H Q
def Gv(G:Gx)(ρ:Rh)(g:TG)(f:Bool)(d:PyData)(Φ:Rh->Prop):Prop:=∀nb σ H v (Q:St->Hp->Prop),Wd G nb ρ σ H->ai (G.S nb f) H d v->(∀σ' ρ',Φ ρ'->Wd G nb ρ' σ' H->Q σ' H)->g v σ H Q
def rY(G:Gx)(ρ:Rh)(g:g7)(f:Bool)(ds:List PyData)(Φ:Rh->Prop):Prop:=∀nb σ H vs (Q:St->Hp->Prop),Wd G nb ρ σ H->af (G.S nb f) H ds vs->(∀σ' ρ',Φ ρ'->Wd G nb ρ' σ' H->Q σ' H)->g vs σ H Q
structure DE where
 nx:Rh->Prop
 rt:Pd
 bk:Rh->Prop:=fun _=>False
 ct:Rh->Prop:=fun _=>False
 rw:(Addr->Prop)->Rh->V->Hp->Prop:=fun _ _ _ _=>False
structure AE(G:Gx)(E:DE)(D:Ends):Prop where
 nx:∀nb ρ σ H,E.nx ρ->Wd G nb ρ σ H->D.nx σ H
 bk:∀nb ρ σ H,E.bk ρ->Wd G nb ρ σ H->D.bk σ H
 ct:∀nb ρ σ H,E.ct ρ->Wd G nb ρ σ H->D.ct σ H
 rt:∀nb ρ σ f v H d,E.rt f d->Wd G nb ρ σ H->ai (G.S (fun _=>False) f) H d v->D.rt v H
 rw:∀nb ρ σ v H,E.rw nb ρ v H->Wd G nb ρ σ H->D.rt v H
def Sv(G:Gx)(ρ:Rh)(ts:TS)(E:DE):Prop:=∀nb σ H D,Wd G nb ρ σ H->AE G E D->ts D σ H
def iG:PyData->Bool
 | .none=>true| .bool _=>true| .int _=>true| .str _=>true|_=>false
def toV:PyData->V
 | .bool b=> .bl b| .int i=> .int i| .str x=> .str x|_=> .aC
section
variable{nb aL:Addr->Prop}{H H':Hp}{d e:PyData}{v:V}
theorem ai.sc(h:iG d=true):ai nb H d (toV d):=by
 cases d<;>first|(cases h;done)|(unfold ai;rfl)
theorem ai.JN(h:iG d=true)(q:ai nb H d v):v=toV d:=by
 cases d<;>first|(cases h;done)|(unfold ai at q;exact q)
theorem ai.jN(h:iG d=true)(q:ai nb H d v):ai aL H' d v:=by
 rw[q.JN h];exact .sc h
theorem af.jN:∀{ds:List PyData} {xs:List V},ds.all iG=true->af nb H ds xs->af aL H' ds xs
  |[],_,_,q=>by unfold af at q⊢;exact q
  | d :: ds, _, h, q => by
    rw[mD,dP] at h
    unfold af at q⊢
    obtain⟨y,ys,e,h1,h2⟩:=q
    exact⟨y,ys,e,h1.jN h.1,af.jN h.2 h2⟩
end
section
variable{G:Gx}{ρ:Rh}{Φ Ψ:Pd}{ta tb te:TE}{t:TA}{i:Nat}{f g:Bool}{d e:PyData}{ds es:List PyData}{K:PySem.W.Frag}
theorem Ev.mono(h:Ev G ρ te Ψ)(q:∀f d,Ψ f d->Φ f d):Ev G ρ te Φ:=fun nb σ H Q W z=>h nb σ H Q W fun f v H' d p=>z f v H' d (q f d p)
theorem aB.ev(h:aB G ρ te fun f ds=>Φ f (.list ds)):Ev G ρ te Φ:=fun nb σ H Q W z=>h nb σ H Q W fun f a xs H' ds p st n e hd=>
 z f _ H' _ p st (.lst (W.fresh n) e (hd.av fun _ x=> .inl x))
namespace Ev
theorem var(e:ρ[i]?=some (.d f d))(h:Φ f d):Ev G ρ (cI i) Φ:=fun nb σ H Q W z=>by
 obtain⟨x,e1,v,rfl,hd⟩:=W.ok i _ e
 exact⟨v,e1,z f v H d h (.refl W.au) hd⟩
theorem int{n:Int}(h:Φ true (.int n)):Ev G ρ (tC (.int n)) Φ:=fun nb σ H Q W z=>z true _ H _ h (.refl W.au) (.int n)
theorem bl{b:Bool}(h:Φ true (.bool b)):Ev G ρ (tC (.bl b)) Φ:=fun nb σ H Q W z=>z true _ H _ h (.refl W.au) (.bl b)
theorem aC(h:Φ true .none):Ev G ρ (tC .aC) Φ:=fun nb σ H Q W z=>z true _ H _ h (.refl W.au) .aC
theorem jY{r:R2}(h:Ev G ρ ta fun f x=>Ev G ρ tb fun g y=>∀nb σ H u v (Q:VK),Wd G nb ρ σ H->ai (G.S nb f) H x u->ai (G.S nb g) H y v->(∀f w H' d,Φ f d->Step G.B H H'->ai (G.S nb f) H' d w->Q w H')->r u v H Q):Ev G ρ (dD r ta tb) Φ:=fun nb σ H Q W z=>
 h nb σ H _ W fun f v1 H1 d1 p1 s1 q1=>p1 nb σ H1 _ (W.step s1) fun g v2 H2 d2 p2 s2 q2=>p2 nb σ H2 _ _ _ ((W.step s1).step s2) (q1.keep s2.dj) q2 fun f w H' d p st q=>z f w H' d p (s1.trans (s2.trans st)) q
theorem rI{C:Int->Int->Prop}{k:Int->Int->Int}(h:Ev G ρ ta fun _ x=>∃i,x= .int i/\Ev G ρ tb fun _ y=>∃j,y= .int j/\C i j/\Φ true (.int (k i j))):Ev G ρ (dD (L2.rI C fun i j=> .int (k i j)) ta tb) Φ:=
 jY (h.mono fun f x ⟨i,ex,q⟩=>q.mono fun g y ⟨j,ey,hc,p⟩ nb σ H u v Q W hu hv z=>by
  subst ex ey;exact⟨i,j,hu.bR,hv.bR,hc,z true _ H _ p (.refl W.au) (.int _)⟩)
theorem iB{k:Int->Int->Int}(h:Ev G ρ ta fun _ x=>∃i,x= .int i/\Ev G ρ tb fun _ y=>∃j,y= .int j/\Φ true (.int (k i j))):Ev G ρ (dD (L2.iB fun i j=> .int (k i j)) ta tb) Φ:=
 jY (h.mono fun f x ⟨i,ex,q⟩=>q.mono fun g y ⟨j,ey,p⟩ nb σ H u v Q W hu hv z=>by
  subst ex ey;exact⟨i,j,hu.bR,hv.bR,z true _ H _ p (.refl W.au) (.int _)⟩)
theorem Sa{k:Int->Int->Bool}(h:Ev G ρ ta fun _ x=>∃i,x= .int i/\Ev G ρ tb fun _ y=>∃j,y= .int j/\Φ true (.bool (k i j))):Ev G ρ (dD (L2.iB fun i j=> .bl (k i j)) ta tb) Φ:=
 jY (h.mono fun f x ⟨i,ex,q⟩=>q.mono fun g y ⟨j,ey,p⟩ nb σ H u v Q W hu hv z=>by
  subst ex ey;exact⟨i,j,hu.bR,hv.bR,z true _ H _ p (.refl W.au) (.bl _)⟩)
theorem un{r:V->Hp->VK->Prop}(h:Ev G ρ ta fun f x=>∀nb σ H u (Q:VK),Wd G nb ρ σ H->ai (G.S nb f) H x u->(∀f w H' d,Φ f d->Step G.B H H'->ai (G.S nb f) H' d w->Q w H')->r u H Q):Ev G ρ (z7 r ta) Φ:=fun nb σ H Q W z=>
 h nb σ H _ W fun f v1 H1 d1 p1 s1 q1=>p1 nb σ H1 _ _ (W.step s1) q1 fun f w H' d p st q=>z f w H' d p (s1.trans st) q
theorem rU{k:Int->Int}(h:Ev G ρ ta fun _ x=>∃i,x= .int i/\Φ true (.int (k i))):Ev G ρ (z7 (L2.rU fun i=> .int (k i)) ta) Φ:=
 un (h.mono fun f x ⟨i,ex,p⟩ nb σ H u Q W hu z=>by subst ex;exact⟨i,hu.bR,z true _ H _ p (.refl W.au) (.int _)⟩)
end Ev
inductive gv:PyData->PyData->Bool->Prop
 |ii (i j:Int):gv (.int i) (.int j) (decide (i=j))
 |ni (i:Int):gv .none (.int i) false
 |WH (i:Int):gv (.int i) .none false
 |nn:gv .none .none true
 |bb (a b:Bool):gv (.bool a) (.bool b) (a==b)
 |ss (x:Str):gv (.str x) (.str x) true
 |sd (x y:Str):gv (.str x) (.str y) (decide (x=y))
theorem gv.v{nb aL:Addr->Prop}{H:Hp}{x y:PyData}{b:Bool}{u v:V}(h:gv x y b)(hu:ai nb H x u)(hv:ai aL H y v):CV u v=true/\decide (u=v)=b:=by
 cases h<;>(unfold ai at hu hv;subst hu hv;refine⟨rfl,?_⟩)
 ·exact R.Ah
 ·rfl
 ·rfl
 ·rfl
 ·rename_i a b;cases a<;>cases b<;>rfl
 ·exact decide_eq_true rfl
 ·rename_i x y
  by_cases c:x=y
  ·subst c;rw[decide_eq_true rfl,decide_eq_true rfl]
  ·rw[decide_eq_false c,decide_eq_false (fun z=>c (V.str.inj z))]
theorem gv.self{d:PyData}(h:iG d=true):gv d d true:=by
 cases d<;>first|(cases h;done)|skip
 ·exact .nn
 ·rename_i b;have:=gv.bb b b;rwa[beq_self_eq_true] at this
 ·rename_i i;have:=gv.ii i i;rwa[decide_eq_true rfl] at this
 ·exact .ss _
namespace Ev
theorem eq(h:Ev G ρ ta fun _ x=>Ev G ρ tb fun _ y=>∃b,gv x y b/\Φ true (.bool b)):Ev G ρ (dD yS ta tb) Φ:=
 jY (h.mono fun f x q=>q.mono fun g y ⟨b,e,p⟩ nb σ H u v Q W hu hv z=>by
  obtain⟨h1,h2⟩:=e.v hu hv
  exact⟨h1,by rw[h2];exact z true _ H _ p (.refl W.au) (.bl _)⟩)
theorem ne(h:Ev G ρ ta fun _ x=>Ev G ρ tb fun _ y=>∃b,gv x y b/\Φ true (.bool !b)):Ev G ρ (dD C2 ta tb) Φ:=
 jY (h.mono fun f x q=>q.mono fun g y ⟨b,e,p⟩ nb σ H u v Q W hu hv z=>by
  obtain⟨h1,h2⟩:=e.v hu hv
  exact⟨h1,by rw[h2];exact z true _ H _ p (.refl W.au) (.bl _)⟩)
theorem U7{ng:Bool}(h:Ev G ρ ta fun _ x=>Ev G ρ tb fun _ y=>SeqAt.shaped x=true/\SeqAt.shaped y=true/\Φ true (.bool (PyData.eqv x y !=ng))):Ev G ρ (dD (xy ng) ta tb) Φ:=
 jY (h.mono fun f x q=>q.mono fun g y ⟨h1,h2,p⟩ nb σ H u v Q W hu hv z=>
  ⟨G.S nb false,x,y,hu.av (cV (fun z=>by cases z) fun _ z=>z),hv.av (cV (fun z=>by cases z) fun _ z=>z),h1,h2,z true _ H _ p (.refl W.au) (.bl _)⟩)
end Ev
def uh:PyData->Bool
 | .none=>true
 |_=>false
theorem GV{nb:Addr->Prop}{H:Hp}{d:PyData}{v:V}(h:ai nb H d v):decide (v= .aC)=uh d:=by
 cases d<;>unfold ai at h
 all_goals first
  |(subst h;rfl)
  |(obtain⟨a,xs,rfl,_⟩:=h;rfl)
  |exact h.elim
namespace Ev
theorem is(h:Ev G ρ ta fun _ x=>Φ true (.bool (uh x))):Ev G ρ (dD HR ta (tC .aC)) Φ:=
 jY (h.mono fun f x p=>Ev.aC fun nb σ H u v Q W hu hv z=>⟨hv.uW,by rw[GV hu];exact z true _ H _ p (.refl W.au) (.bl _)⟩)
theorem Ml(h:Ev G ρ ta fun _ x=>Φ true (.bool !uh x)):Ev G ρ (dD uM ta (tC .aC)) Φ:=
 jY (h.mono fun f x p=>Ev.aC fun nb σ H u v Q W hu hv z=>⟨hv.uW,by rw[GV hu];exact z true _ H _ p (.refl W.au) (.bl _)⟩)
end Ev
theorem af.bU{nb:Addr->Prop}{H:Hp}{ds:List PyData}{xs:List V}{k:Int}{e:PyData}(h:af nb H ds xs)(q:L2.bU ds k=some e):∃v,L2.bU xs k=some v/\ai nb H e v:=by
 unfold L2.bU at q⊢
 rw[h.length]
 cases z:gF ds.length k with
 |none=>rw[z] at q;cases q
 |some j=>rw[z] at q;exact h.get q
namespace Ev
theorem Nj(h:Ev G ρ ta fun f x=>∃ds,x= .list ds/\Ev G ρ tb fun _ y=>∃k,y= .int k/\∃e,bU ds k=some e/\Φ f e):Ev G ρ (dD (fh K) ta tb) Φ:=
 jY (h.mono fun f x ⟨ds,ex,q⟩=>q.mono fun g y ⟨k,ey,e,he,p⟩ nb σ H u v Q W hu hv z=>by
  subst ex ey
  obtain⟨a,xs,rfl,n,hx,hd⟩:=hu.dU
  obtain⟨w,hw,hD⟩:=hd.bU he
  exact⟨a,xs,k,w,rfl,hv.bR, .of hx,hw,z f _ H _ p (.refl W.au) hD⟩)
theorem Fx(h:Ev G ρ ta fun f x=>∃ds,x= .tuple ds/\Ev G ρ tb fun _ y=>∃k,y= .int k/\∃e,bU ds k=some e/\Φ f e):Ev G ρ (dD (dX K) ta tb) Φ:=
 jY (h.mono fun f x ⟨ds,ex,q⟩=>q.mono fun g y ⟨k,ey,e,he,p⟩ nb σ H u v Q W hu hv z=>by
  subst ex ey
  obtain⟨a,xs,rfl,n,hx,hd⟩:=hu.ofT
  obtain⟨w,hw,hD⟩:=hd.bU he
  exact⟨a,xs,k,w,rfl,hv.bR, .of hx,hw,z f _ H _ p (.refl W.au) hD⟩)
theorem ND{a:Addr}(e:ρ[i]?=some (.own a f ds))(h:Ev G ρ tb fun _ y=>∃k,y= .int k/\∃e,bU ds k=some e/\Φ f e):Ev G ρ (dD (fh K) (cI i) tb) Φ:=fun nb σ H Q W z=>by
 obtain⟨x,e1,h1,h2,h3,xs,hx,hd⟩:=W.ok i _ e
 subst h1
 refine⟨.ref a,e1,h nb σ H _ W fun g w H1 y ⟨k,ey,e',he,p⟩ s1 hv=>?_⟩
 subst ey
 obtain⟨u,hu,hD⟩:=(hd.keep s1.dj).bU he
 exact⟨a,xs,k,u,rfl,hv.bR, .of (s1.1 _ _ h3 hx),hu,z f _ H1 _ p s1 hD⟩
theorem BR(h:Ev G ρ ta fun _ x=>∃b,x= .bool b/\if b=true then Ev G ρ tb Φ else Φ true (.bool false)):Ev G ρ (AF ta tb) Φ:=fun nb σ H Q W z=>
 h nb σ H _ W fun f v H1 d ⟨b,e,q⟩ s1 hv=>by
  subst e
  refine⟨b,by unfold ai at hv;exact hv,?_⟩
  cases b with
  |true=>rw[if_pos rfl] at q⊢;exact q nb σ H1 _ (W.step s1) fun f v H' d p st=>z f v H' d p (s1.trans st)
  |false=>rw[if_neg bq] at q⊢;exact z true _ H1 _ q s1 (.bl false)
theorem N3{c:TT}(h:Tv G ρ c fun b=>if b=true then Ev G ρ ta Φ else Ev G ρ tb Φ):Ev G ρ (Gd c ta tb) Φ:=fun nb σ H Q W z=>
 h nb σ H _ W fun b H1 q s1=>by
  cases b with
  |true=>rw[if_pos rfl] at q⊢;exact q nb σ H1 _ (W.step s1) fun f v H' d p st=>z f v H' d p (s1.trans st)
  |false=>rw[if_neg bq] at q⊢;exact q nb σ H1 _ (W.step s1) fun f v H' d p st=>z f v H' d p (s1.trans st)
end Ev
namespace Tv
variable{Θ:Bool->Prop}{t u:TT}
theorem test(h:Ev G ρ te fun _ x=>∃b,x= .bool b/\Θ b):Tv G ρ (xg te) Θ:=fun nb σ H Q W z=>
 h nb σ H _ W fun f v H1 d ⟨b,e,q⟩ s1 hv=>by subst e;exact⟨b,by unfold ai at hv;exact hv,z b H1 q s1⟩
theorem and(h:Tv G ρ t fun b=>if b=true then Tv G ρ u Θ else Θ false):Tv G ρ (AU t u) Θ:=fun nb σ H Q W z=>
 h nb σ H _ W fun b H1 q s1=>by
  cases b with
  |true=>rw[if_pos rfl] at q⊢;exact q nb σ H1 _ (W.step s1) fun b H' p st=>z b H' p (s1.trans st)
  |false=>rw[if_neg bq] at q⊢;exact z false H1 q s1
theorem or(h:Tv G ρ t fun b=>if b=true then Θ true else Tv G ρ u Θ):Tv G ρ (HV t u) Θ:=fun nb σ H Q W z=>
 h nb σ H _ W fun b H1 q s1=>by
  cases b with
  |false=>rw[if_neg bq] at q⊢;exact q nb σ H1 _ (W.step s1) fun b H' p st=>z b H' p (s1.trans st)
  |true=>rw[if_pos rfl] at q⊢;exact z true H1 q s1
theorem not(h:Tv G ρ t fun b=>Θ (!b)):Tv G ρ (DS t) Θ:=fun nb σ H Q W z=>h nb σ H _ W fun b H1 q s1=>z _ H1 q s1
theorem qi(h:Θ true):Tv G ρ sr Θ:=fun nb σ H Q W z=>z true H h (.refl W.au)
end Tv
def Dz(K:PySem.W.Frag)(ta:TE):TT:=fun σ H Q=>ta σ H fun x H1=>∃k,xh K x H1 k/\Q k H1
theorem Tv.J5{Θ:Bool->Prop}(h:Ev G ρ te fun _ x=>∃b,x= .bool b/\Θ b):Tv G ρ (Dz K te) Θ:=fun nb σ H Q W z=>
 h nb σ H _ W fun f v H1 d ⟨b,e,q⟩ s1 hv=>by subst e;exact⟨b,by unfold ai at hv;subst hv;rfl,z b H1 q s1⟩
namespace Av
variable{Θ:List Fd->Prop}
theorem nil(h:Θ []):Av G ρ cz Θ:=fun nb σ H Q W z=>z [] [] H h (.refl W.au) rfl
theorem cons(h:Ev G ρ te fun f d=>Av G ρ t fun es=>Θ ((f,d)::es)):Av G ρ (bC te t) Θ:=fun nb σ H Q W z=>
 h nb σ H _ W fun f v H1 d p1 s1 q1=>p1 nb σ H1 _ (W.step s1) fun es vs H2 p2 s2 q2=>z _ _ H2 p2 (s1.trans s2) ⟨v,vs,rfl,q1.keep s2.dj,q2⟩
theorem Vi{is:List Int}(h:Θ (is.map fun i=>(true, .int i))):Av G ρ (uT is) Θ:=fun nb σ H Q W z=>z _ _ H h (.refl W.au) (by
 clear h
 induction is with
 |nil=>rfl
 |cons i r ih=>exact⟨_,_,rfl, .int i,ih⟩)
end Av
def ja(es:List Fd):Bool:=es.all (·.1)
theorem jh.all{nb:Addr->Prop}{H:Hp}:∀{es:List Fd} {vs:List V} {f:Bool},jh G nb H es vs->(f=true->ja es=true)->af (G.S nb f) H (es.map (·.2)) vs
  |[],_,_,h,_=>by unfold jh at h;subst h;exact .nil
  | e :: es, _, f, h, hf => by
    obtain⟨v,ws,rfl,h1,h2⟩:=h
    refine .cons (h1.av (cV (fun z=>?_) fun _ z=>z)) (h2.all fun z=>?_)
    · have:=hf z;simp only[ja,mD,dP] at this;exact this.1
    · have:=hf z;simp only[ja,mD,dP] at this;exact this.2
theorem jh.len{nb:Addr->Prop}{H:Hp}{es:List Fd}{vs:List V}(h:jh G nb H es vs):vs.length=es.length:=by
 have:=(h.all (f:=false) (fun z=>by cases z)).length
 simpa using this
theorem aB.lst{Φ:Bool->List PyData->Prop}(h:Av G ρ t fun es=>es.length<=10000/\Φ (ja es) (es.map (·.2))):aB G ρ (pX t) Φ:=fun nb σ H Q W z=>
  h nb σ H _ W fun es vs H1 ⟨hl,p⟩ s1 q1=>⟨fq (by rw[q1.len];exact hl) (by decide),fun a ha=>by
    have W1:=W.step s1
    refine z _ a vs _ _ p (s1.trans (.same W1.au (cP ha))) ?_ bh (((q1.all fun z=>z).fresh ha).keep (aU.of (cP ha)))
    cases e:H a with
    |none=>rfl
    | some o =>
      by_cases n:NB G.B a
      · rw[s1.1 a o n e] at ha;cases ha
      · exact absurd ha (NB.mK s1.2 n)⟩
theorem Ev.lst(h:Av G ρ t fun es=>es.length<=10000/\Φ (ja es) (.list (es.map (·.2)))):Ev G ρ (pX t) Φ:=(aB.lst (Φ:=fun f ds=>Φ f (.list ds)) h).ev
end
end L2
set_option maxRecDepth 100000
set_option maxHeartbeats 1000000
namespace L2
open PySem PySem.Spec PyProof.Rows
def fQ(K:PySem.W.Frag):List V->Hp->VK->Prop:=fun xs H Q=>∃p ys,xs=[.ref p]/\(aS K H p ys\/fO K H p ys)/\Q (.int ys.length) H
theorem gZ{X:Cx}:fW X (.builtin "len") (fQ X.K):=Ht
def Be:List V->Hp->VK->Prop:=fun xs H Q=>∃i j,xs=[.int i, .int j]/\Q (.int (if j<i then j else i)) H
def HL:List V->Hp->VK->Prop:=fun xs H Q=>(∃i,xs=[.int i]/\Q (.int i) H)\/∃k,xs=[.bl k]/\Q (.int (if k then 1 else 0)) H
theorem EM{X:Cx}(hc:X.calm=true):fW X (.builtin "min") Be:=RW hc
theorem wD{X:Cx}:fW X (.type "int") HL:=MB
def gy{α:Type}(xs:List α)(lo hi:Option Int):List α:=(xs.drop (HT.dw xs.length 0 lo)).take (HT.dw xs.length xs.length hi-HT.dw xs.length 0 lo)
theorem af.cut{nb:Addr->Prop}{H:Hp}{ds:List PyData}{xs:List V}{lo hi:Option Int}(h:af nb H ds xs):af nb H (gy ds lo hi) (k8 xs lo hi):=by
 unfold gy k8
 rw[h.length]
 exact(h.drop _).take _
def eu(ds:List PyData):Bool:=ds.all iG
section
variable{G:Gx}{ρ:Rh}{Φ Ψ:Pd}{ta tb te:TE}{t:TA}{i:Nat}{f g:Bool}{d e:PyData}{ds es:List PyData}{K:PySem.W.Frag}
theorem Wd.none_of{nb:Addr->Prop}{σ:St}{H H1:Hp}{a:Addr}(W:Wd G nb ρ σ H)(s1:Step G.B H H1)(ha:H1 a=none):H a=none:=by
  cases e:H a with
  |none=>rfl
  | some o =>
    by_cases n:NB G.B a
    · rw[s1.1 a o n e] at ha;cases ha
    · exact absurd ha (NB.mK s1.2 n)
theorem aB.fin{nb:Addr->Prop}{σ:St}{H H1:Hp}{Q:VK}{Φ:Bool->List PyData->Prop}{a:Addr}{xs:List V}(W:Wd G nb ρ σ H)(s1:Step G.B H H1)(ha:H1 a=none)(hd:af (G.S nb f) H1 ds xs)(p:Φ (f||eu ds) ds)
  (z:∀f a xs H' ds,Φ f ds->Step G.B H H'->H a=none->H' a=some (.lst xs)->af (fun x=>G.S nb f x\/x=a) H' ds xs->Q (.ref a) H'):Q (.ref a) (upd H1 a (.lst xs)):=by
 refine z _ a xs _ ds p (s1.trans (.same s1.2 (cP ha))) (W.none_of s1 ha) bh ?_
 cases hs:eu ds with
 |true=>exact af.jN hs hd
 |false=>rw[m5];exact(hd.fresh ha).keep (aU.of (cP ha))
namespace Ov
variable{Θ:Option Int->Prop}
theorem none(h:Θ none):Ov G ρ Cb Θ:=fun nb σ H Q W z=>z _ H h (.refl W.au)
theorem some(h:Ev G ρ te fun _ x=>∃k,x= .int k/\Θ (some k)):Ov G ρ (CY te) Θ:=fun nb σ H Q W z=>
 h nb σ H _ W fun f v H1 d ⟨k,e,q⟩ s1 hv=>by subst e;exact⟨k,hv.bR,z _ H1 q s1⟩
end Ov
namespace aB
variable{Θ:Bool->List PyData->Prop}
theorem sl{tl th:TO}(h:Ev G ρ te fun f x=>∃ds,x= .list ds/\Ov G ρ tl fun lo=>Ov G ρ th fun hi=>Θ (f||eu (gy ds lo hi)) (gy ds lo hi)):aB G ρ (qS (kY K) te tl th) Θ:=fun nb σ H Q W z=>
 h nb σ H _ W fun f v H1 d ⟨ds,e,q⟩ s1 hv=>q nb σ H1 _ (W.step s1) fun lo H2 q2 s2=>q2 nb σ H2 _ ((W.step s1).step s2) fun hi H3 q3 s3=>by
  subst e
  obtain⟨a,xs,rfl,n,hx,hd⟩:=((hv.keep s2.dj).keep s3.dj).dU
  exact⟨a,xs,rfl, .of hx,fun p hp=>aB.fin W (s1.trans (s2.trans s3)) hp hd.cut q3 z⟩
theorem listOf(h:Ev G ρ te fun f x=>∃ds,(x= .list ds\/x= .tuple ds)/\Θ (f||eu ds) ds):aB G ρ (fJ (gR K) (bC te cz)) Θ:=fun nb σ H Q W z=>
 h nb σ H _ W fun f v H1 d ⟨ds,e,q⟩ s1 hv=>by
  rcases e with e|e
  ·subst e
   obtain⟨a,xs,rfl,n,hx,hd⟩:=hv.dU
   exact⟨a,xs,rfl, .inl (.of hx),fun p hp=>aB.fin W s1 hp hd q z⟩
  ·subst e
   obtain⟨a,xs,rfl,n,hx,hd⟩:=hv.ofT
   exact⟨a,xs,rfl, .inr (.of hx),fun p hp=>aB.fin W s1 hp hd q z⟩
theorem Bu{a:Addr}(e:ρ[i]?=some (.own a f ds))(h:Θ (f||eu ds) ds):aB G ρ (fJ (gR K) (bC (cI i) cz)) Θ:=fun nb σ H Q W z=>by
 obtain⟨x,e1,h1,h2,h3,xs,hx,hd⟩:=W.ok i _ e
 subst h1
 exact⟨.ref a,e1,a,xs,rfl, .inl (.of hx),fun p hp=>aB.fin W (.refl W.au) hp hd h z⟩
theorem cat(h:Ev G ρ ta fun f x=>∃ds,x= .list ds/\Ev G ρ tb fun g y=>∃es,y= .list es/\ds.length+es.length<=10000/\Θ ((f && g)||eu (ds++es)) (ds++es)):aB G ρ (dD Ba ta tb) Θ:=fun nb σ H Q W z=>
 h nb σ H _ W fun f v H1 d ⟨ds,e,q⟩ s1 hv=>q nb σ H1 _ (W.step s1) fun g u H2 d2 ⟨es,e2,hl,p⟩ s2 hu=>by
  subst e e2
  obtain⟨a,xs,rfl,n,hx,hd⟩:=(hv.keep s2.dj).dU
  obtain⟨c,ys,rfl,m,hy,hc⟩:=hu.dU
  refine⟨a,c,xs,ys,rfl,rfl,hx,hy,fq (by rw[hd.length,hc.length];exact hl) (by decide),fun p' hp=>aB.fin (f:=f && g) W (s1.trans s2) hp ?_ p z⟩
  exact af.append (hd.av (cV (fun z=>(dP _ _▸z).1) fun _ z=>z)) (hc.av (cV (fun z=>(dP _ _▸z).2) fun _ z=>z))
end aB
namespace Ev
theorem sl{tl th:TO}(h:Ev G ρ te fun f x=>∃ds,x= .list ds/\Ov G ρ tl fun lo=>Ov G ρ th fun hi=>Φ (f||eu (gy ds lo hi)) (.list (gy ds lo hi))):Ev G ρ (qS (kY K) te tl th) Φ:=(aB.sl (Θ:=fun f ds=>Φ f (.list ds)) h).ev
theorem listOf(h:Ev G ρ te fun f x=>∃ds,(x= .list ds\/x= .tuple ds)/\Φ (f||eu ds) (.list ds)):Ev G ρ (fJ (gR K) (bC te cz)) Φ:=(aB.listOf (Θ:=fun f ds=>Φ f (.list ds)) h).ev
theorem Bu{a:Addr}(e:ρ[i]?=some (.own a f ds))(h:Φ (f||eu ds) (.list ds)):Ev G ρ (fJ (gR K) (bC (cI i) cz)) Φ:=(aB.Bu (Θ:=fun f ds=>Φ f (.list ds)) e h).ev
theorem cat(h:Ev G ρ ta fun f x=>∃ds,x= .list ds/\Ev G ρ tb fun g y=>∃es,y= .list es/\ds.length+es.length<=10000/\Φ ((f && g)||eu (ds++es)) (.list (ds++es))):Ev G ρ (dD Ba ta tb) Φ:=(aB.cat (Θ:=fun f ds=>Φ f (.list ds)) h).ev
theorem min2(h:Ev G ρ ta fun _ x=>∃i,x= .int i/\Ev G ρ tb fun _ y=>∃j,y= .int j/\Φ true (.int (if j<i then j else i))):Ev G ρ (fJ Be (bC ta (bC tb cz))) Φ:=fun nb σ H Q W z=>
 h nb σ H _ W fun f v H1 d ⟨i,e,q⟩ s1 hv=>q nb σ H1 _ (W.step s1) fun g u H2 d2 ⟨j,e2,p⟩ s2 hu=>by
  subst e e2
  exact⟨i,j,by rw[hv.bR,hu.bR],z true _ H2 _ p (s1.trans s2) (.int _)⟩
theorem R8(h:Ev G ρ ta fun _ x=>∃b,x= .bool b/\Φ true (.int (if b then 1 else 0))):Ev G ρ (fJ HL (bC ta cz)) Φ:=fun nb σ H Q W z=>
 h nb σ H _ W fun f v H1 d ⟨b,e,q⟩ s1 hv=>by subst e;unfold ai at hv;subst hv;exact .inr ⟨b,rfl,z true _ H1 _ q s1 (.int _)⟩
end Ev
abbrev DF:=List PyData->Pd->Prop
def bT(n:Nat)(F:DF):Sp:=fun vs H Q _=>vs.length=n/\∃(nb:Addr->Prop) (ds:List PyData),jQ nb H/\af nb H ds vs/\F ds fun f d=>∀v H',cQ H H'->ai (fun a=>nb a\/(f=true/\H a≠none)) H' d v->Q v H'
def iu(n:Nat)(F:DF):Sp:=fun vs H Q _=>vs.length=n/\∃(b l:Addr) (ws:List V) (nb:Addr->Prop) (ds:List PyData),vs= .ref b::ws/\dz H b l/\jQ nb H/\nb b/\af nb H ds ws/\
 F ds fun f d=>∀v H',aU (Nb b) H H'->dz H' b l->ai (fun a=>nb a\/(f=true/\H a≠none)) H' d v->Q v H'
def eG(F:DF):Prop:=∀ds (Φ Ψ:Pd),F ds Φ->(∀f d,Φ f d->Ψ f d)->F ds Ψ
theorem Ev.e7{n:Nat}{F:DF}(hm:eG F)(h:Av G ρ t fun es=>es.length=n/\F (es.map (·.2)) fun f d=>Φ (f||ja es) d):Ev G ρ (g9 (bT n F) [] E0 t) Φ:=fun nb σ H Q W z=>
 h nb σ H _ W fun es vs H1 ⟨hl,p⟩ s1 q1=>by
  have W1:=W.step s1
  rw[jG]
  refine⟨by rw[q1.len,hl],G.S nb (ja es),es.map (·.2),W1.jn,q1.all fun z=>z,hm _ _ _ p fun f d hp v H' sm hd=>z _ v H' d hp (s1.trans (.same W1.au sm)) (hd.av fun a q=>?_)⟩
  cases f with
  |false=>rw[pV] at q;exact .inl q
  |true=>exact .inr ⟨rfl,W1.jn a q⟩
theorem Step.vF{b l:Addr}{H H':Hp}(hB:G.B=some (b,l))(bt:aU (Nb b) H H')(B':dz H' b l):Step G.B H H':=
 ⟨fun a o n e=>bt a o (n b l hB) e,fun b' l' e=>by rw[hB] at e;cases e;exact B'⟩
theorem Wd.vL{nb:Addr->Prop}{σ:St}{H:Hp}(W:Wd G nb ρ σ H)(e:ρ[i]?=some .au):∃b l,G.B=some (b,l)/\σ[i]?=some (some (.ref b))/\dz H b l:=by
 obtain⟨x,e1,b,l,hB,rfl⟩:=W.ok i _ e
 exact⟨b,l,hB,e1,W.au b l hB⟩
theorem Ev.pP{n:Nat}{F:DF}(hm:eG F)(e:ρ[i]?=some .au)(h:Av G ρ t fun es=>es.length+1=n/\F (es.map (·.2)) fun f d=>Φ (f||ja es) d):Ev G ρ (g9 (iu n F) [] E0 (bC (cI i) t)) Φ:=fun nb σ H Q W z=>by
 obtain⟨b,l,hB,e1,B⟩:=W.vL e
 refine⟨.ref b,e1,h nb σ H _ W fun es vs H1 ⟨hl,p⟩ s1 q1=>?_⟩
 have W1:=W.step s1
 show iu n F ((V.ref b::vs)++[]) H1 Q E0
 rw[jG]
 have hb:∀f,G.S nb f b:=fun f=> .inr (.inr (.inl fun n=>n b l hB rfl))
 refine⟨by rw[eB,q1.len,hl],b,l,vs,G.S nb (ja es),es.map (·.2),rfl,W1.au b l hB,W1.jn,hb _,q1.all fun z=>z,hm _ _ _ p fun f d hp v H' bt B' hd=>z _ v H' d hp (s1.trans (.vF hB bt B')) (hd.av fun a q=>?_)⟩
 cases f with
 |false=>rw[pV] at q;exact .inl q
 |true=>exact .inr ⟨rfl,W1.jn a q⟩
theorem Ev.draw(e:ρ[i]?=some .au)(h:Ev G ρ te fun _ x=>∃m:Int,x= .int m/\0<m/\Sm m/\∀r:Int,0<=r->r<m->Φ true (.int r)):Ev G ρ (g9 kO [] E0 (bC (cI i) (bC te cz))) Φ:=fun nb σ H Q W z=>by
 obtain⟨b,l,hB,e1,B⟩:=W.vL e
 refine⟨.ref b,e1,h nb σ H _ W fun f v H1 d ⟨m,ed,h1,h2,p⟩ s1 hv=>?_⟩
 subst ed
 exact⟨b,l,m,by rw[hv.bR];rfl,s1.2 b l hB,h1,h2,fun r H' r1 r2 bt B'=>z true _ H' _ (p r r1 r2) (s1.trans (.vF hB bt B')) (.int r)⟩
theorem Ev.prime(e:ρ[i]?=some .au)(h:∀p:Int,HS p->Φ true (.int p)):Ev G ρ (g9 Kz [] E0 (bC (cI i) cz)) Φ:=fun nb σ H Q W z=>by
 obtain⟨b,l,hB,e1,B⟩:=W.vL e
 exact⟨.ref b,e1,b,l,rfl,B,fun p H' hp bt B'=>z true _ H' _ (h p hp) (.vF hB bt B') (.int p)⟩
theorem Ev.total(h:Av G ρ t fun es=>∃(p:Int) (prs:List (Int×Int)) (wd:List (Option Int)),es.map (·.2)=[.int p, .list (prs.map pairD), .list (wd.map c8)]/\0<p/\(∀pr∈prs,0<=pr.1/\pr.1<wd.length/\Sm pr.2)/\(∀x,some x∈wd->Sm x)/\Φ true (.int (aQ prs wd%p))):
  Ev G ρ (g9 qb [] E0 t) Φ:=fun nb σ H Q W z=>
 h nb σ H _ W fun es vs H1 ⟨p,prs,wd,e,h1,h2,h3,q⟩ s1 q1=>by
  have hd:=q1.all (f:=false) (fun z=>by cases z)
  rw[e] at hd
  unfold af at hd
  obtain⟨y,ys,rfl,d1,hd⟩:=hd
  unfold af at hd
  obtain⟨y2,ys,rfl,d2,hd⟩:=hd
  unfold af at hd
  obtain⟨y3,ys,rfl,d3,hd⟩:=hd
  unfold af at hd
  subst hd
  exact⟨G.S nb false,p,y2,y3,prs,wd,by rw[d1.bR];rfl,d2,d3,h1,h2,h3,z true _ H1 _ q s1 (.int _)⟩
theorem Ev.whole(h:Ev G ρ te fun _ x=>∃n,x= .int n/\Φ true (.bool true)):Ev G ρ (g9 w5 [] E0 (bC te cz)) Φ:=fun nb σ H Q W z=>
 h nb σ H _ W fun f v H1 d ⟨n,e,q⟩ s1 hv=>by subst e;exact⟨n,by rw[hv.bR];rfl,z true _ H1 _ q s1 (.bl _)⟩
namespace Gv
variable{Θ:Rh->Prop}
theorem name(h:Θ (ρ.set i (.d f d))):Gv G ρ (gP i) f d Θ:=fun nb σ H v Q W hv z=>z _ _ h (W.nI hv)
theorem Jo(h:Θ (ρ.set i (.d false d))):Gv G ρ (gP i) f d Θ:=fun nb σ H v Q W hv z=>z _ _ h (W.nI (hv.av (cV (fun z=>by cases z) fun _ z=>z)))
theorem xR(hs:iG d=true)(h:Θ (ρ.set i (.d true d))):Gv G ρ (gP i) f d Θ:=fun nb σ H v Q W hv z=>z _ _ h (W.nI (hv.jN hs))
theorem pK{n:Int}(h:Θ (ρ.set i (.d true (.int n)))):Gv G ρ (gP i) f (.int n) Θ:=xR rfl h
theorem Mi{n:Bool}(h:Θ (ρ.set i (.d true (.bool n)))):Gv G ρ (gP i) f (.bool n) Θ:=xR rfl h
theorem VF(h:Θ (ρ.set i (.d true .none))):Gv G ρ (gP i) f .none Θ:=xR rfl h
theorem tup{n:Nat}{u:g7}(hl:ds.length=n)(h:rY G ρ u f ds Θ):Gv G ρ (vB K n u) f (.tuple ds) Θ:=fun nb σ H v Q W hv z=>by
 obtain⟨a,xs,rfl,m,hx,hd⟩:=hv.ofT
 exact⟨a,xs,rfl, .of hx,by rw[hd.length];exact hl,h nb σ H xs Q W hd z⟩
theorem S1(h:Θ ρ):rY G ρ yk f [] Θ:=fun nb σ H vs Q W hv z=>by unfold af at hv;exact⟨hv,z _ _ h W⟩
theorem KO{u:TG}{us:g7}(h:Gv G ρ u f d fun fY=>rY G fY us f ds Θ):rY G ρ (yo u us) f (d::ds) Θ:=fun nb σ H vs Q W hv z=>by
 unfold af at hv
 obtain⟨y,ys,rfl,h1,h2⟩:=hv
 exact⟨y,ys,rfl,h nb σ H y _ W h1 fun σ' ρ' q W'=>q nb σ' H ys Q W' h2 z⟩
end Gv
namespace Sv
variable{E:DE}{s u:TS}
theorem seq(h:Sv G ρ s {E with nx:=fun fY=>Sv G fY u E}):Sv G ρ (qX s u) E:=fun nb σ H D W K=>h nb σ H _ W ⟨fun aL ρ' σ' H' q W'=>q aL σ' H' D W' K,K.bk,K.ct,K.rt,K.rw⟩
theorem next(h:E.nx ρ):Sv G ρ Az E:=fun nb σ H D W K=>K.nx nb ρ σ H h W
theorem brk(h:E.bk ρ):Sv G ρ Vb E:=fun nb σ H D W K=>K.bk nb ρ σ H h W
theorem cont(h:E.ct ρ):Sv G ρ Kw E:=fun nb σ H D W K=>K.ct nb ρ σ H h W
theorem asg{g:TG}(h:Ev G ρ te fun f d=>Gv G ρ g f d E.nx):Sv G ρ (fS te g) E:=fun nb σ H D W K=>h nb σ H _ W fun f v H1 d q s1 hv=>q nb σ H1 v _ (W.step s1) hv fun σ' ρ' p W'=>K.nx nb ρ' σ' H1 p W'
theorem setC(h:Ev G ρ te fun f d=>E.nx (ρ.set i (.d f d))):Sv G ρ (zB i te) E:=fun nb σ H D W K=>h nb σ H _ W fun f v H1 d q s1 hv=>K.nx nb _ _ H1 q ((W.step s1).nI hv)
theorem VU(h:Ev G ρ te fun _ d=>E.nx (ρ.set i (.d false d))):Sv G ρ (zB i te) E:=fun nb σ H D W K=>h nb σ H _ W fun f v H1 d q s1 hv=>K.nx nb _ _ H1 q ((W.step s1).nI (hv.av (cV (fun z=>by cases z) fun _ z=>z)))
theorem drop(h:Ev G ρ te fun _ _=>E.nx ρ):Sv G ρ (uz te) E:=fun nb σ H D W K=>h nb σ H _ W fun f v H1 d q s1 hv=>K.nx nb ρ σ H1 q (W.step s1)
theorem ret(h:Ev G ρ te E.rt):Sv G ρ (o9 te) E:=fun nb σ H D W K=>h nb σ H _ W fun f v H1 d q s1 hv=>K.rt nb ρ σ f v H1 d q (W.step s1) (hv.av (cV (fun z=>z) fun _ z=>z.elim))
theorem Ji{a:Addr}(e:ρ[i]?=some (.own a f ds))(h:E.rt f (.list ds)):Sv G ρ (o9 (cI i)) E:=fun nb σ H D W K=>by
 obtain⟨x,e1,h1,h2,h3,xs,hx,hd⟩:=W.ok i _ e
 subst h1
 refine⟨.ref a,e1,K.rt nb ρ σ f _ H _ h W (.lst (fun z=>?_) hx (hd.av (cV (fun z=>z) fun _ z=>z.elim)))⟩
 rcases z with z|z|z|z
 ·exact z
 ·exact W.gA a z (W.dh a h2 h3)
 ·exact z h3
 ·exact z.2 (W.dh a h2 h3)
theorem nF{c:TT}(h:Tv G ρ c fun b=>if b=true then Sv G ρ s E else Sv G ρ u E):Sv G ρ (BL c s u) E:=fun nb σ H D W K=>h nb σ H _ W fun b H1 q s1=>by
 cases b with
 |true=>rw[if_pos rfl] at q⊢;exact q nb σ H1 D (W.step s1) K
 |false=>rw[if_neg bq] at q⊢;exact q nb σ H1 D (W.step s1) K
theorem HF{nb:Addr->Prop}{σ:St}{H H1:Hp}{a:Addr}{xs:List V}(W:Wd G nb ρ σ H)(s1:Step G.B H H1)(ha:H a=none)(e:H1 a=some (.lst xs))(hd:af (fun x=>G.S nb f x\/x=a) H1 ds xs):
    Wd G (fun x=>nb x\/x=a) (ρ.set i (.own a f ds)) (σ.set i (some (.ref a))) H1:=by
  have hN:NB G.B a:=fun b l e z=>by
    subst z
    obtain⟨_,_,_,_,_,h1,_⟩:=W.au _ _ e
    rw[h1] at ha;cases ha
  have hA:∀f x,G.S (fun x=>nb x\/x=a) f x->(G.S nb f x\/x=a):=fun f x z=>by
    rcases z with (z|z)|z|z|z
    · exact .inl (.inl z)
    · exact .inr z
    · exact .inl (.inr (.inl z))
    · exact .inl (.inr (.inr (.inl z)))
    · exact .inl (.inr (.inr (.inr z)))
  have W1:=W.step s1
  have W2:Wd G (fun x=>nb x\/x=a) ρ σ H1:=by
    refine⟨W1.au,fun x n=>?_,W1.old,fun x n q=>?_,W.gA,W.len,W.gB,fun h m=>(((W.gu h m).fresh ha).keep (s1.but fun x z=> .inl (.inr (.inr (.inl z))))).av (hA h.1),fun j s e'=>?_,W.apart,W.gb,W.dQ⟩
    · rcases n with n|n
      · exact W1.live x n
      · subst n;rw[e];exact iM _
    · rcases n with n|n
      · exact W.dh x n q
      · subst n
        cases z:G.H0 x with
        |none=>rfl
        |some o=>rw[W.old x o q z] at ha;cases ha
    · obtain⟨x,e1,h⟩:=W.ok j s e'
      refine⟨x,e1,?_⟩
      cases s with
      |no=>trivial
      |d f d=>obtain⟨v,e,h⟩:=h;exact⟨v,e,((h.fresh ha).keep (s1.but fun x z=> .inl (.inr (.inr (.inl z))))).av (hA f)⟩
      |own c f es=>obtain⟨e,n,q,xs,hx,hd⟩:=h;exact⟨e, .inl n,q,xs,s1.1 _ _ q hx,((hd.fresh ha).keep (s1.but fun x z=> .inl (.inr (.inr (.inl z))))).av (hA f)⟩
      |au=>exact h
      |raw v=>exact h
      |cy c f es=>obtain⟨e,n,q,xs,hx,hd⟩:=h;exact⟨e, .inl n,q,xs,s1.1 _ _ q hx,((hd.fresh ha).keep (s1.but fun x z=> .inl (.inr (.inr (.inl z))))).av (hA f)⟩
      | cu c =>
        obtain⟨e,n,q⟩:=h
        refine⟨e,fun a ha=>⟨.inl (n a ha).1,(n a ha).2⟩,c.av (hA c.f) (c.keep (.of fun x o hx e=>s1.1 x o ?_ e) (c.fresh ha q))⟩
        rcases hx with hx|hx
        · exact jF fun z=>hx (.inl (.inr (.inr (.inl z))))
        · exact(n x hx).2
  refine W2.set ⟨rfl, .inr rfl,hN,xs,e,hd.av (hA f)⟩ ?_ (fun _ _ _ z=>by cases z) (fun x hx j t hj ht hc=>?_)
  rotate_left
  · have hx:x=a:=aP.mp hx
    subst hx
    rcases hc with ⟨c,z⟩|⟨c,rfl⟩
    · cases z
    · exact fun z=>W.live x ((W.ok j _ ht).choose_spec.2.2.1 x z).1 ha
  rintro a' f' ds' ⟨rfl,rfl,rfl⟩ j c g cs hj hc z
  subst z
  obtain⟨x,e1,h1,h2,h3,ys,hy,_⟩:=W.ok j _ hc
  rw[hy] at ha;cases ha
theorem zT(h:aB G ρ te fun f ds=>∀a,E.nx (ρ.set i (.own a f ds))):Sv G ρ (fS te (gP i)) E:=fun nb σ H D W K=>h nb σ H _ W fun f a xs H1 ds q s1 ha e hd=>K.nx _ _ _ H1 (q a) (HF W s1 ha e hd)
theorem Fo{nb:Addr->Prop}{σ:St}{H:Hp}{a:Addr}{xs:List V}(W:Wd G nb ρ σ H)(e:ρ[i]?=some (.own a f ds))(hd:af (G.S nb g) H es xs):Wd G nb (ρ.set i (.own a g es)) σ (upd H a (.lst xs)):=by
  obtain⟨x,e1,h1,h2,h3,ys,hy,_⟩:=W.ok i _ e
  subst h1
  have hil:i<ρ.length:=(bW.mp e).1
  have W0:Wd G nb (ρ.set i .no) (σ.set i (some (.ref a))) H:=W.set trivial fun _ _ _ z=>by cases z
  have W1:Wd G nb (ρ.set i .no) (σ.set i (some (.ref a))) (upd H a (.lst xs)):=W0.write h2 h3 (fun j c f' cs hc=>by
    by_cases hij:i=j
    · subst hij;rw[cg hil] at hc;cases hc
    · rw[br hij] at hc
      exact(W.apart i j _ _ _ _ _ _ hij e hc).symm
   ) (fun j c f' cs hc z => by
      subst z
      have hij:i≠j:=fun z=>by subst z;rw[cg hil] at hc;cases hc
      rw[br hij] at hc
      obtain⟨_,_,_,_,_,ps,hp,_⟩:=W.ok j _ hc
      rw[hy] at hp;cases hp) (fun j c hc z=>by
      have hij:i≠j:=fun z=>by subst z;rw[cg hil] at hc;cases hc
      rw[br hij] at hc
      exact W.dQ j i c _ (bJ hij) hc e a z (aP.mpr rfl))
  have W2:=W1.set (i:=i) (s:= .own a g es) (x:=some (.ref a)) ⟨rfl,h2,h3,xs,bh,hd.keep (aU.set (.inl h2))⟩ (by
    rintro a' f' ds' ⟨rfl,rfl,rfl⟩ j c g' cs hj hc
    rw[br (bJ hj)] at hc
    exact W.apart i j _ _ _ _ _ _ (bJ hj) e hc) (fun _ _ _ z=>by cases z) (fun x hx j t hj ht hc z=>by
    rw[br (bJ hj)] at ht
    have hx:x=a:=aP.mp hx
    subst hx
    rcases hc with ⟨c,q⟩|⟨c,rfl⟩
    · cases q
    · exact W.dQ j i c _ hj ht e x z (aP.mpr rfl))
  rw[l8,l8] at W2
  have:σ.set i (some (.ref a))=σ:=by
    apply jX
    intro j
    by_cases hij:i=j
    · subst hij;rw[cg (by rw[W.len];exact hil),e1]
    · rw[br hij]
  rwa[this] at W2
theorem append{a:Addr}(e:ρ[i]?=some (.own a f ds))(h:Ev G ρ te fun g d=>ds.length<10000/\E.nx (ρ.set i (.own a (f && g) (ds++[d])))):Sv G ρ (uz (Ei K "list" Dk (cI i) (bC te cz))) E:=fun nb σ H D W KK=>by
 obtain⟨x,e1,h1,h2,h3,xs,hx,hd⟩:=W.ok i _ e
 subst h1
 refine⟨.ref a,e1, .inl ⟨rfl,_,aS.of hx⟩,h nb σ H _ W fun g v H1 d ⟨hl,q⟩ s1 hv=>?_⟩
 have W1:=W.step s1
 have tE:=s1.1 _ _ h3 hx
 refine⟨a,xs,v,rfl,rfl,tE,eE (by rw[hd.length];exact hl) (by decide),KK.nx nb _ _ _ q (Fo W1 e ?_)⟩
 exact af.snoc (hv.av (cV (fun z=>(dP _ _▸z).2) fun _ z=>z)) ((hd.keep s1.dj).av (cV (fun z=>(dP _ _▸z).1) fun _ z=>z))
theorem af.set'{nb:Addr->Prop}{H:Hp}{x:V}(hd:ai nb H d x):∀{ds:List PyData} {xs:List V} (j:Nat),af nb H ds xs->af nb H (ds.set j d) (xs.set j x)
 |[],_,j,h=>by unfold af at h;subst h;exact .nil
 |e::ds,_,0,h=>by unfold af at h;obtain⟨y,ys,rfl,h1,h2⟩:=h;exact .cons hd h2
 |e::ds,_,j+1,h=>by unfold af at h;obtain⟨y,ys,rfl,h1,h2⟩:=h;exact .cons h1 (af.set' hd j h2)
theorem xG{a:Addr}(e:ρ[i]?=some (.own a f ds))(h:Ev G ρ te fun g d=>Ev G ρ tb fun _ y=>∃k j,y= .int k/\gF ds.length k=some j/\E.nx (ρ.set i (.own a (f && g) (ds.set j d)))):Sv G ρ (fS te (pU (cI i) tb ql)) E:=fun nb σ H D W KK=>
 h nb σ H _ W fun g v H1 d q s1 hv=>by
  obtain⟨x,e1,h1,h2,h3,xs,hx,hd⟩:=(W.step s1).ok i _ e
  subst h1
  refine⟨.ref a,e1,q nb σ H1 _ (W.step s1) fun g' u H2 y ⟨k,j,ey,hj,p⟩ s2 hu=>?_⟩
  subst ey
  have W2:=(W.step s1).step s2
  refine⟨a,xs,k,j,rfl,hu.bR,s2.1 _ _ h3 hx,by rw[hd.length];exact hj,KK.nx nb _ _ _ p (Fo W2 e ?_)⟩
  exact af.set' ((hv.keep s2.dj).av (cV (fun z=>(dP _ _▸z).2) fun _ z=>z)) j ((hd.keep s2.dj).av (cV (fun z=>(dP _ _▸z).1) fun _ z=>z))
theorem share{nb:Addr->Prop}{σ:St}{H:Hp}{a:Addr}(W:Wd G nb ρ σ H)(e:ρ[i]?=some (.own a f ds)):Wd G (fun x=>nb x/\x≠a) (ρ.set i (.d f (.list ds))) σ H:=by
  obtain⟨x,e1,h1,h2,h3,xs,hx,hd⟩:=W.ok i _ e
  subst h1
  have hil:i<ρ.length:=(bW.mp e).1
  have W0:Wd G nb (ρ.set i .no) (σ.set i (some (.ref a))) H:=W.set trivial fun _ _ _ z=>by cases z
  have W1:Wd G (fun x=>nb x/\x≠a) (ρ.set i .no) (σ.set i (some (.ref a))) H:=by
    refine⟨W0.au,fun x n=>W0.live x n.1,W0.old,fun x n=>W0.dh x n.1,W0.gA,W0.len,W0.gB,fun h m=>(W0.gu h m).av (cV (fun z=>z) fun _ z=>z.1),fun j s e'=>?_,W0.apart,W0.gb,W0.dQ⟩
    obtain⟨x,mX,h⟩:=W0.ok j s e'
    refine⟨x,mX,?_⟩
    have hij:s≠ .no->i≠j:=fun n z=>by subst z;rw[cg hil] at e';cases e';exact n rfl
    cases s with
    |no=>trivial
    |d f d=>obtain⟨v,e,h⟩:=h;exact⟨v,e,h.av (cV (fun z=>z) fun _ z=>z.1)⟩
    | own c f es =>
      obtain⟨e2,n,q,xs,hx,hd⟩:=h
      have hij:=hij (by intro z;cases z)
      rw[br hij] at e'
      exact⟨e2,⟨n,(W.apart i j _ _ _ _ _ _ hij e e').symm⟩,q,xs,hx,hd.av (cV (fun z=>z) fun _ z=>z.1)⟩
    |au=>exact h
    |raw v=>exact h
    | cy c f es =>
      obtain⟨e2,n,q,ps,hp,hd⟩:=h
      have hca:c≠a:=fun z=>by subst z;rw[hx] at hp;cases hp
      exact⟨e2,⟨n,hca⟩,q,ps,hp,hd.av (cV (fun z=>z) fun _ z=>z.1)⟩
    | cu c =>
      obtain⟨e2,n,q⟩:=h
      have hij:=hij (by intro z;cases z)
      rw[br hij] at e'
      exact⟨e2,fun x hx=>⟨⟨(n x hx).1,fun z=>W.dQ j i c _ (bJ hij) e' e x hx (by rw[z];exact aP.mpr rfl)⟩,(n x hx).2⟩,c.av (cV (fun z=>z) fun _ z=>z.1) q⟩
  have W2:=W1.nI (i:=i) (f:=f) (d:= .list ds) (v:= .ref a) (.lst (fun z=>by
    rcases z with z|z|z|z
    · exact z.2 rfl
    · exact W.gA a z (W.dh a h2 h3)
    · exact z h3
    · exact z.2 (W.dh a h2 h3)) hx (hd.av (cV (fun z=>z) fun _ z=>z.1)))
  rw[l8,l8] at W2
  have:σ.set i (some (.ref a))=σ:=by
    apply jX
    intro j
    by_cases hij:i=j
    · subst hij;rw[cg (by rw[W.len];exact hil),e1]
    · rw[br hij]
  rwa[this] at W2
theorem IT{a:Addr}(i:Nat)(e:ρ[i]?=some (.own a f ds))(h:Sv G (ρ.set i (.d f (.list ds))) s E):Sv G ρ s E:=fun nb σ H D W K=>h _ σ H D (share W e) K
theorem wk{ρ':Rh}(w:Wk ρ' ρ)(h:Sv G ρ' s E):Sv G ρ s E:=fun nb σ H D W K=>h nb σ H D (W.wk w) K
end Sv
end
end L2
set_option maxRecDepth 100000
set_option maxHeartbeats 1000000
namespace L2
open PySem PySem.Spec PyProof.Rows
abbrev Gx.hd(G:Gx)(f:Bool)(d:PyData)(v:V):Gx:={G with hold:=(f, .d d,v)::G.hold}
section
variable{G:Gx}{ρ bY:Rh}{Φ Ψ:Pd}{ta tb te:TE}{t:TA}{i:Nat}{f g:Bool}{d e:PyData}{ds es:List PyData}{K:PySem.W.Frag}
theorem Wd.hd{nb:Addr->Prop}{σ:St}{H:Hp}{v:V}(W:Wd G nb ρ σ H)(h:ai (G.S nb f) H d v):Wd (G.hd f d v) nb ρ σ H:=
 ⟨W.au,W.live,W.old,W.dh,W.gA,W.len,W.gB,fun x m=>by
  rcases aG.mp m with e|m
  ·subst e;exact h
  ·exact W.gu x m,fun i s e=>by
   obtain⟨x,e1,h⟩:=W.ok i s e
   refine⟨x,e1,?_⟩
   cases s<;>exact h,W.apart,W.gb,W.dQ⟩
theorem Wd.nj{nb:Addr->Prop}{σ:St}{H:Hp}{v:V}(W:Wd (G.hd f d v) nb ρ σ H):Wd G nb ρ σ H/\ai (G.S nb f) H d v:=
 ⟨⟨W.au,W.live,W.old,W.dh,W.gA,W.len,W.gB,fun x m=>W.gu x (cH _ m),fun i s e=>by
   obtain⟨x,e1,h⟩:=W.ok i s e
   refine⟨x,e1,?_⟩
   cases s<;>exact h,W.apart,W.gb,W.dQ⟩,W.gu _ (bV ..)⟩
namespace Sv
variable{E:DE}{s:TS}{gt:TG}
def An(G:Gx)(ρ:Rh)(n:Nat)(it:Nat->PyData->Prop)(fi:Bool)(gt:TG)(s:TS)(E:DE):Prop:=
 ∃I:Nat->Rh->Prop,I 0 ρ/\(∀i d ρ',it i d->I i ρ'->Gv G ρ' gt fi d fun gK=>Sv G gK s {nx:=I (i+1),rt:=E.rt,bk:=E.nx,ct:=I (i+1),rw:=E.rw})/\∀ρ',I n ρ'->E.nx ρ'
theorem Js{lo:Int}{n:Nat}{nb:Addr->Prop}{σ:St}{H:Hp}{D:Ends}(W:Wd G nb ρ σ H)(KK:AE G E D)(h:An G ρ n (fun i d=>i<n/\d= .int (lo+i)) true gt s E):
  ∃W:Nat->Nat->St->Hp->Prop,(∃m,W 0 m σ H)/\∀i m σ H,W i m σ H->
   ((iF lo n).stop i H/\D.nx σ H)\/((iF lo n).go i H/\∃N:St->Hp->Prop,(∀σ' H',N σ' H'->∃m',m'<m/\W (i+1) m' σ' H')/\∀x H',(iF lo n).n6 i H x H'->gt x σ H' fun σ2 H2=>s {D with nx:=N,ct:=N,bk:=D.nx} σ2 H2):=by
 obtain⟨I,h0,ht,he⟩:=h
 refine zR (fun i σ H=>∃nb ρ',I i ρ'/\Wd G nb ρ' σ H) ⟨nb,ρ,h0,W⟩ ?_ ?_
 ·rintro i σ H hi ⟨nb,ρ',hI,W⟩
  refine ht i _ ρ' ⟨hi,rfl⟩ hI nb σ H _ _ W (.int _) fun σ2 gK q W2=>q nb σ2 H _ W2 ?_
  exact⟨fun nb ρ σ H q W=>⟨nb,ρ,q,W⟩,KK.nx,fun nb ρ σ H q W=>⟨nb,ρ,q,W⟩,KK.rt,KK.rw⟩
 ·rintro σ H ⟨nb,ρ',hI,W⟩
  exact KK.nx nb ρ' σ H (he ρ' hI) W
theorem AJ(h:Ev G ρ te fun _ x=>∃n:Int,x= .int n/\ -(2^62)<=n/\n<2^62/\An G ρ n.toNat (fun i d=>i<n.toNat/\d= .int (0+i)) true gt s E):Sv G ρ (vv (uR (bC te cz)) gt s) E:=fun nb σ H D W KK=>
 h nb σ H _ W fun f v H1 x ⟨n,ex,h1,h2,q⟩ s1 hv=>by
  subst ex
  rw[hv.bR]
  exact⟨n,rfl,h1,h2,Js (W.step s1) KK q⟩
theorem forL(h:Ev G ρ te fun f x=>∃ds,x= .list ds/\∀v,An (G.hd f (.list ds) v) ρ ds.length (fun i d=>ds[i]?=some d) f gt s E):Sv G ρ (vv (rz K te) gt s) E:=fun nb σ H D W KK=>
 h nb σ H _ W fun f v H1 x ⟨ds,ex,q⟩ s1 hv=>by
  subst ex
  obtain⟨I,h0,ht,he⟩:=q v
  have W1:=(W.step s1).hd hv
  obtain⟨a,xs,rfl,n,hx,hd⟩:=hv.dU
  have key:∀{nb ρ' σ H},Wd (G.hd f (.list ds) (.ref a)) nb ρ' σ H->∃xs,H a=some (.lst xs)/\af (G.S nb f) H ds xs:=fun W=>by
   obtain⟨a',xs',e',_,h',d'⟩:=W.nj.2.dU
   cases e'
   exact⟨xs',h',d'⟩
  refine⟨a,rfl,⟨xs, .of hx⟩,?_⟩
  refine⟨fun i m σ H=>m=ds.length-i/\i<=ds.length/\∃nb ρ',I i ρ'/\Wd (G.hd f (.list ds) (.ref a)) nb ρ' σ H,⟨ds.length,by simp,fG _,nb,ρ,h0,W1⟩,?_⟩
  rintro i m σ H ⟨rfl,hi,nb,ρ',hI,W⟩
  obtain⟨ys,hy,hD⟩:=key W
  have hl:=hD.length
  by_cases hlt:i<ds.length
  ·refine .inr ⟨⟨ys,ys[i]'(by omega), .of hy,aI _⟩,fun σ H=>∃nb ρ',I (i+1) ρ'/\Wd (G.hd f (.list ds) (.ref a)) nb ρ' σ H,fun σ' H' q=>⟨ds.length-(i+1),by omega,rfl,hlt,q⟩,fun x H' y=>?_⟩
   obtain⟨e,y⟩:=y
   subst e
   have hx:=y ys (.of hy)
   obtain⟨x',hx',dx⟩:=hD.get (aI hlt)
   rw[hx] at hx';cases hx'
   refine ht i _ ρ' (aI hlt) hI nb σ _ _ _ W dx fun σ2 gK q W2=>q nb σ2 _ _ W2 ?_
   exact⟨fun nb ρ σ H q W=>⟨nb,ρ,q,W⟩,fun nb ρ σ H q W=>KK.nx nb ρ σ H q W.nj.1,fun nb ρ σ H q W=>⟨nb,ρ,q,W⟩,fun nb ρ σ f v H d q W hv=>KK.rt nb ρ σ f v H d q W.nj.1 hv,fun nb ρ σ v H q W=>KK.rw nb ρ σ v H q W.nj.1⟩
  ·have e:i=ds.length:=by omega
   subst e
   exact .inl ⟨⟨ys, .of hy,by omega⟩,KK.nx nb ρ' σ H (he ρ' hI) W.nj.1⟩
theorem JT{c:TT}(I:Rh->Prop)(μ:Rh->Nat)(h0:I ρ)(h:∀ρ',I ρ'->Tv G ρ' c fun b=>if b=true then Sv G ρ' s {nx:=fun gK=>I gK/\μ gK<μ ρ',rt:=E.rt,bk:=E.nx,ct:=fun gK=>I gK/\μ gK<μ ρ',rw:=E.rw} else E.nx ρ'):Sv G ρ (zH c s) E:=fun nb σ H D W KK=>by
  refine⟨fun m σ H=>∃nb ρ',I ρ'/\Wd G nb ρ' σ H/\m=μ ρ',⟨_,nb,ρ,h0,W,rfl⟩,?_⟩
  rintro m σ H ⟨nb,ρ',hI,W,rfl⟩
  refine h ρ' hI nb σ H _ W fun b H1 q s1=>?_
  cases b with
  | true =>
    rw[if_pos rfl] at q⊢
    refine⟨fun σ' H'=>∃nb gK,(I gK/\μ gK<μ ρ')/\Wd G nb gK σ' H',fun σ' H' ⟨nb,gK,⟨q1,q2⟩,W2⟩=>⟨μ gK,q2,nb,gK,q1,W2,rfl⟩,q nb σ H1 _ (W.step s1) ?_⟩
    exact⟨fun nb ρ σ H q W=>⟨nb,ρ,q,W⟩,KK.nx,fun nb ρ σ H q W=>⟨nb,ρ,q,W⟩,KK.rt,KK.rw⟩
  |false=>rw[if_neg bq] at q⊢;exact KK.nx nb ρ' σ H1 q (W.step s1)
end Sv
def kE(mp:List (Option Nat))(ρ:Rh):Rh:=mp.map fun o=>match o with|none=> .no|some j=>match ρ[j]? with|some s=>s|none=> .no
theorem w9{mp:List (Option Nat)}(h:(mp.filterMap id).Nodup):∀{i j k:Nat},mp[i]?=some (some k)->mp[j]?=some (some k)->i=j:=by
  induction mp with
  |nil=>intro i j k e;simp at e
  | cons o r ih =>
    intro i j k e1 e2
    have hr:(r.filterMap id).Nodup:=by
      cases o with
      |none=>simpa using h
      |some x=>rw[Hs (by rfl)] at h;exact(jD.mp h).2
    have hn:∀{m:Nat},r[m]?=some (some k)->o≠some k:=fun{m} hm e=>by
      subst e
      rw[Hs (by rfl)] at h
      exact(jD.mp h).1 (yM.mpr ⟨some k,eY hm,rfl⟩)
    cases i with
    | zero =>
      cases j with
      |zero=>rfl
      |succ j=>simp at e1 e2;exact absurd e1 (hn e2)
    | succ i =>
      cases j with
      |zero=>simp at e1 e2;exact absurd e2 (hn e1)
      |succ j=>simp at e1 e2;rw[ih hr e1 e2]
theorem Wd.fZ{nb:Addr->Prop}{σ:St}{H:Hp}{mp:List (Option Nat)}(W:Wd G nb ρ σ H)(hm:(mp.filterMap id).Nodup):Wd G nb (kE mp ρ) (fZ mp σ) H:=by
  have hat:∀{i:Nat} {s:Sl},(kE mp ρ)[i]?=some s->s= .no\/∃k,mp[i]?=some (some k)/\ρ[k]?=some s:=fun{i s} e=>by
    unfold kE at e
    rw[bI] at e
    obtain⟨o,ho,e⟩:=oH.mp e
    cases o with
    |none=>exact .inl e.symm
    | some k =>
      cases hk:ρ[k]? with
      |none=>simp only[hk] at e;exact .inl e.symm
      |some s'=>simp only[hk] at e;subst e;exact .inr ⟨k,ho,hk⟩
  refine⟨W.au,W.live,W.old,W.dh,W.gA,by unfold L2.fZ kE;rw[ak,ak],W.gB,W.gu,fun i s e=>?_,fun i j a f as c g cs hij e1 e2=>?_,fun i j a f as c g cs hij e1 e2=>?_,fun i j c t hij e1 e2 a ha=>?_⟩
  · have hi:i<mp.length:=by have:=(bW.mp e).1;unfold kE at this;rwa[ak] at this
    rcases hat e with rfl|⟨k,hk,hs⟩
    · exact⟨_,by unfold L2.fZ;rw[bI,aI hi];rfl,trivial⟩
    · obtain⟨x,e1,h⟩:=W.ok k s hs
      refine⟨x,?_,h⟩
      unfold L2.fZ
      rw[bI,hk]
      simp only[Option.map_some,e1]
  · rcases hat e1 with z|⟨k,hk,hs⟩
    · cases z
    rcases hat e2 with z|⟨k',hk',hs'⟩
    · cases z
    exact W.apart k k' a f as c g cs (fun z=>by subst z;exact hij (w9 hm hk hk')) hs hs'
  · rcases hat e1 with z|⟨k,hk,hs⟩
    · cases z
    rcases hat e2 with z|⟨k',hk',hs'⟩
    · cases z
    exact W.gb k k' a f as c g cs (fun z=>by subst z;exact hij (w9 hm hk hk')) hs hs'
  · rcases hat e1 with z|⟨k,hk,hs⟩
    · cases z
    rcases hat e2 with z|⟨k',hk',hs'⟩
    · subst z;exact fun z=>by cases z
    exact W.dQ k k' c t (fun z=>by subst z;exact hij (w9 hm hk hk')) hs hs' a ha
def E9(ρ:Rh)(acc:Addr):Prop:=(∀(j:Nat) a f ds,ρ[j]?=some (.own a f ds)->a≠acc)/\∀(j:Nat) c,ρ[j]?=some (.cu c)->acc∉c.F
def eX(G:Gx)(bY:Rh)(n:Nat)(it:Nat->PyData->Prop)(fi:Bool)(gt:TG)(tc:TT)(te:TE)(Θ:Bool->List PyData->Prop):Prop:=
 ∃(fl:Bool) (I:Nat->List PyData->Prop),I 0 []/\(∀i d ds,it i d->ds.length<=i->I i ds->Gv G bY gt fi d fun fY=>Wk bY fY/\Tv G fY tc fun b=>if b=true then Ev G fY te fun f e=>(fl=true->f=true)/\I (i+1) (ds++[e]) else I (i+1) ds)/\
  ∀ds,ds.length<=n->I n ds->Θ (fl||eu ds) ds
theorem yV{gt:TG}{tc:TT}{nb:Addr->Prop}{acc:Addr}{σ:St}{H H1:Hp}{x:V}{fi fl:Bool}{I:Nat->List PyData->Prop}{xs:List V}{N:St->Hp->Prop}{ds:List PyData}{n:Nat}(hn:n<=10000)(hi:i<n)
    (W:Wd G nb bY σ H) (ha:nb acc) (hN:NB G.B acc) (hno:E9 bY acc) (st:Step G.B H1 H) (hacc:H1 acc=none) (hx:H acc=some (.lst xs)) (hd:af (G.S nb fl) H ds xs) (hl:ds.length<=i) (hxd:ai (G.S nb fi) H d x)
    (h:Gv G bY gt fi d fun fY=>Wk bY fY/\Tv G fY tc fun b=>if b=true then Ev G fY te fun f e=>(fl=true->f=true)/\I (i+1) (ds++[e]) else I (i+1) ds)
    (z:∀σ' H' ds' xs',Wd G nb bY σ' H'->Step G.B H1 H'->H' acc=some (.lst xs')->af (G.S nb fl) H' ds' xs'->ds'.length<=i+1->I (i+1) ds'->N σ' H'):
    gt x σ H fun σ2 H2=>tc σ2 H2 fun b H3=>if b=true then te σ2 H3 fun v H4=>∃ys,H4 acc=some (.lst ys)/\ys.length<sizeLine/\N σ2 (upd H4 acc (.lst (ys++[v]))) else N σ2 H3:=by
  refine h nb σ H x _ W hxd fun σ2 fY ⟨wk,q⟩ W2=>q nb σ2 H _ W2 fun b H3 q3 s3=>?_
  have Im:=s3.1 _ _ hN hx
  have IB:=hd.keep (s3.dj (nb:=nb) (f:=fl))
  cases b with
  | false =>
    rw[if_neg bq] at q3⊢
    exact z σ2 H3 ds xs ((W2.step s3).wk wk) (st.trans s3) Im IB (by omega) q3
  | true =>
    rw[if_pos rfl] at q3⊢
    refine q3 nb σ2 H3 _ (W2.step s3) fun f v H4 e ⟨hf,hI⟩ s4 hv=>?_
    have FU:=s4.1 _ _ hN Im
    have P0:=IB.keep (s4.dj (nb:=nb) (f:=fl))
    have hlen:=hd.length
    refine⟨xs,FU,eE (show xs.length<10001 by omega) (by decide),?_⟩
    have W4:Wd G nb bY σ2 H4:=((W2.step s3).step s4).wk wk
    have bt:aU (G.S nb fl) H4 (upd H4 acc (.lst (xs++[v]))):=aU.set (.inl ha)
    have W5:Wd G nb bY σ2 (upd H4 acc (.lst (xs++[v]))):=W4.write ha hN hno.1 (fun j a f ds e z=>by
      subst z
      obtain⟨_,_,_,_,_,ps,hp,_⟩:=W4.ok j _ e
      rw[FU] at hp;cases hp) hno.2
    refine z σ2 _ (ds++[e]) (xs++[v]) W5 ⟨fun a o n q=>?_,W5.au⟩ bh (af.snoc ((hv.av (cV hf fun _ z=>z)).keep bt) (P0.keep bt)) (by rw[c7,kj];omega) hI
    have hne:a≠acc:=fun z=>by subst z;rw[hacc] at q;cases q
    rw[aX hne]
    exact(st.trans (s3.trans s4)).1 a o n q
theorem wF{nb:Addr->Prop}{σ:St}{H:Hp}{a:Addr}(W:Wd G nb ρ σ H)(ha:H a=none):E9 ρ a:=by
 refine⟨fun j c f ds e z=>?_,fun j c e z=>?_⟩
 ·subst z
  obtain⟨x,e1,h1,h2,h3,ys,hy,_⟩:=W.ok j _ e
  rw[hy] at ha;cases ha
 ·obtain⟨x,e1,h1,h2,h3⟩:=W.ok j _ e
  exact W.live a (h2 a z).1 ha
theorem Qq{nb:Addr->Prop}{a:Addr}{f:Bool}:∀x,(G.S nb f x\/x=a)->G.S (fun x=>nb x\/x=a) f x:=fun x z=>by
 rcases z with (z|z|z|z)|z
 ·exact .inl (.inl z)
 ·exact .inr (.inl z)
 ·exact .inr (.inr (.inl z))
 ·exact .inr (.inr (.inr z))
 ·exact .inl (.inr z)
theorem Ab{nb:Addr->Prop}{acc:Addr}{H H1 H':Hp}{σ:St}{Q:VK}{Θ:Bool->List PyData->Prop}{xs:List V}{ds:List PyData}{fl:Bool}(W:Wd G nb ρ σ H)(s1:Step G.B H H1)(hacc:H1 acc=none)(s2:Step G.B H1 H')(hx:H' acc=some (.lst xs))(hd:af (G.S (fun x=>nb x\/x=acc) fl) H' ds xs)(p:Θ (fl||eu ds) ds)
  (z:∀f a xs H' ds,Θ f ds->Step G.B H H'->H a=none->H' a=some (.lst xs)->af (fun x=>G.S nb f x\/x=a) H' ds xs->Q (.ref a) H'):Q (.ref acc) H':=by
 refine z _ acc xs H' ds p (s1.trans s2) (W.none_of s1 hacc) hx ?_
 cases hs:eu ds with
 |true=>exact af.jN hs hd
 |false=>rw[m5];exact hd.av Qq
theorem NB.new{B:Bg}{H:Hp}{a:Addr}(h:jA B H)(ha:H a=none):NB B a:=jF fun z=>NB.mK h z ha
namespace aB
variable{Θ:Bool->List PyData->Prop}{gt:TG}{tc:TT}{mp:List (Option Nat)}
theorem DR{lo:Int}{n:Nat}{nb:Addr->Prop}{σ:St}{H H1:Hp}{Q:VK}(W:Wd G nb ρ σ H)(s1:Step G.B H H1)(hm:(mp.filterMap id).Nodup)(dH:kE mp ρ=bY)(hn:n<=10000)(h:eX G bY n (fun i d=>i<n/\d= .int (lo+i)) true gt tc te Θ)
  (z:∀f a xs H' ds,Θ f ds->Step G.B H H'->H a=none->H' a=some (.lst xs)->af (fun x=>G.S nb f x\/x=a) H' ds xs->Q (.ref a) H') (acc:Addr) (hacc:H1 acc=none):oB (iF lo n) gt tc te acc (fun H'=>Q (.ref acc) H') (fZ mp σ) (upd H1 acc (.lst [])):=by
 obtain⟨fl,I,h0,ht,he⟩:=h
 have W0:Wd G nb bY (L2.fZ mp σ) H1:=by rw[<-dH];exact(W.step s1).fZ hm
 have W1:=W0.more hacc (o:= .lst [])
 have hN:=NB.new s1.2 hacc
 have hno:=wF W0 hacc
 have cY:Step G.B H1 (upd H1 acc (.lst [])):= .same s1.2 (cP hacc)
 refine R.Hu (fun i σ H=>∃ds xs,Wd G (fun x=>nb x\/x=acc) bY σ H/\Step G.B H1 H/\H acc=some (.lst xs)/\af (G.S (fun x=>nb x\/x=acc) fl) H ds xs/\ds.length<=i/\I i ds) ⟨[],[],W1,cY,bh, .nil,aF _,h0⟩ ?_ ?_
 ·rintro i σ H hi ⟨ds,xs,W,st,hx,hd,hl,hI⟩
  exact yV hn hi W (.inr rfl) hN hno st hacc hx hd hl (.int _) (ht i _ ds ⟨hi,rfl⟩ hl hI) fun σ' H' ds' xs' W' st' hx' hd' hl' hI'=>⟨ds',xs',W',st',hx',hd',hl',hI'⟩
 ·rintro σ H' ⟨ds,xs,W',st,hx,hd,hl,hI⟩
  exact Ab W s1 hacc st hx hd (he ds hl hI) z
theorem oR{t0:TE}(hm:(mp.filterMap id).Nodup)(dH:kE mp ρ=bY)(h:Ev G ρ t0 fun _ x=>∃n:Int,x= .int n/\ -10000<=n/\n<=10000/\eX G bY n.toNat (fun i d=>i<n.toNat/\d= .int (0+i)) true gt tc te Θ):aB G ρ (lT (uR (bC t0 cz)) gt tc te mp) Θ:=fun nb σ H Q W z=>
 h nb σ H _ W fun f v H1 x ⟨n,ex,h1,h2,q⟩ s1 hv=>by
  subst ex
  rw[hv.bR]
  exact⟨n,rfl,by omega,by omega,DR W s1 hm dH (by omega) q z⟩
theorem VD{t0 t1:TE}(hm:(mp.filterMap id).Nodup)(dH:kE mp ρ=bY)(h:Ev G ρ t0 fun _ x=>∃m:Int,x= .int m/\Ev G ρ t1 fun _ y=>∃n:Int,y= .int n/\(-10000<=m/\m<=10000/\ -10000<=n/\n<=10000/\n-m<=10000)/\eX G bY (n-m).toNat (fun i d=>i<(n-m).toNat/\d= .int (m+i)) true gt tc te Θ):aB G ρ (lT (xU (bC t0 (bC t1 cz))) gt tc te mp) Θ:=fun nb σ H Q W z=>
 h nb σ H _ W fun f v H1 x ⟨m,ex,q⟩ s1 hv=>q nb σ H1 _ (W.step s1) fun f' u H2 y ⟨n,ey,hb,q⟩ s2 hu=>by
  subst ex ey
  rw[hv.bR,hu.bR]
  exact⟨m,n,rfl,by omega,DR W (s1.trans s2) hm dH (by omega) q z⟩
theorem jV{t0:TE}(hm:(mp.filterMap id).Nodup)(dH:kE mp ρ=bY)(h:Ev G ρ t0 fun fi x=>∃es,x= .list es/\es.length<=10000/\∀v,eX (G.hd fi (.list es) v) bY es.length (fun i d=>es[i]?=some d) fi gt tc te Θ):aB G ρ (lT (rz K t0) gt tc te mp) Θ:=fun nb σ H Q W z=>
 h nb σ H _ W fun fi v H1 x ⟨es,ex,hn,q⟩ s1 hv=>by
  subst ex
  obtain⟨fl,I,h0,ht,he⟩:=q v
  have W0:=(W.step s1).hd hv
  obtain⟨a,xs,rfl,n,hx,hd⟩:=hv.dU
  refine⟨a,rfl,⟨xs, .of hx⟩,fun acc hacc=>?_⟩
  have rX:Wd (G.hd fi (.list es) (.ref a)) nb bY (L2.fZ mp σ) H1:=by rw[<-dH];exact W0.fZ hm
  have W1:=rX.more hacc (o:= .lst [])
  have hN:=NB.new s1.2 hacc
  have hno:=wF rX hacc
  have cY:Step G.B H1 (upd H1 acc (.lst [])):= .same s1.2 (cP hacc)
  have p8:NB G.B a:=jF fun z=>n (.inr (.inr (.inl z)))
  refine R.DC (xs:=xs) (fun i σ H=>∃ds ys,Wd (G.hd fi (.list es) (.ref a)) (fun x=>nb x\/x=acc) bY σ H/\Step G.B H1 H/\H acc=some (.lst ys)/\af (G.S (fun x=>nb x\/x=acc) fl) H ds ys/\ds.length<=i/\I i ds) ⟨[],[],W1,cY,bh, .nil,aF _,h0⟩ ?_ ?_ ?_
  ·rintro i σ H hi ⟨ds,ys,W,st,_⟩
   exact .of (st.1 _ _ p8 hx)
  ·rintro i x σ H hi ⟨ds,ys,W,st,hy,hd',hl,hI⟩
   obtain⟨a',xs',e',_,h',d'⟩:=W.nj.2.dU
   cases e'
   rw[st.1 _ _ p8 hx] at h';cases h'
   have hil:i<es.length:=by have:=(bW.mp hi).1;have:=d'.length;omega
   obtain⟨x',hx',dx⟩:=d'.get (aI hil)
   rw[hi] at hx';cases hx'
   exact yV (G:=G.hd fi (.list es) (.ref a)) hn hil W (.inr rfl) hN hno st hacc hy hd' hl dx (ht i _ ds (aI hil) hl hI) fun σ' H' ds' xs' W' st' hx' hd' hl' hI'=>⟨ds',xs',W',st',hx',hd',hl',hI'⟩
  ·rintro σ H' ⟨ds,ys,W',st,hy,hd',hl,hI⟩
   rw[hd.length] at hl hI
   exact Ab W s1 hacc st hy hd' (he ds hl hI) z
end aB
end
end L2
set_option maxRecDepth 100000
set_option maxHeartbeats 1000000
namespace L2
open PySem PySem.Spec PyProof.Rows
section
variable{ρ:Rh}{t:TS}{N:List Str}{vs:List V}{ds:List PyData}{nb:Addr->Prop}{H:Hp}{Q:VK}{Φ:Pd}{b l:Addr}
theorem kq{xs:List V}(h:af nb H ds xs){i:Nat}{s:Sl}(e:(ds.map (Sl.d false))[i]?=some s):∃v d,xs[i]?=some v/\s= .d false d/\ai nb H d v:=by
 rw[bI] at e
 obtain⟨d,hd,e⟩:=oH.mp e
 obtain⟨v,hv,q⟩:=h.get hd
 exact⟨v,d,hv,e.symm,q⟩
theorem Sv.i7(hl:jQ nb H)(hd:af nb H ds vs)(aE:∀f d v H',Φ f d->cQ H H'->ai (fun a=>nb a\/(f=true/\H a≠none)) H' d v->Q v H')
  (dH:ρ=ds.map (Sl.d false)++List.replicate (N.length-ds.length) .no) (h:Sv ⟨none,H,nb,[]⟩ ρ t {nx:=fun _=>Φ true .none,rt:=Φ}):t {nx:=fun _ H'=>Q .aC H',rt:=Q} (start N vs) H:=by
 have hlen:=hd.length
 have sm:∀{aL ρ' σ' H'},Wd ⟨none,H,nb,[]⟩ aL ρ' σ' H'->cQ H H':=fun W a o e=>W.old a o (fun _ _ z=>(by cases z)) e
 refine h (fun _=>False) _ H _ ⟨fun _ _ z=>(by cases z),fun _ z=>z.elim,fun _ _ _ e=>e,fun _ z=>z.elim,hl,?_,fun _ _ z=>(by cases z),fun _ m=>(by cases m),fun i s e=>?_,?_,?_,?_⟩ ⟨fun aL ρ' σ' H' q W=>aE _ _ _ _ q (sm W) .aC,fun _ _ _ _ q _=>q.elim,fun _ _ _ _ q _=>q.elim,fun aL ρ' σ' f v H' d q W hv=>aE f d v H' q (sm W) (hv.av fun a z=>?_),fun _ _ _ _ _ q _=>q.elim⟩
 ·rw[dH];unfold start;simp[hlen]
 ·rw[dH] at e
  unfold start
  by_cases hi:i<ds.length
  ·rw[fF (by rw[ak];exact hi)] at e
   obtain⟨v,d,hv,rfl,q⟩:=kq hd e
   refine⟨some v,?_,v,rfl,q.av fun a z=>?_⟩
   ·rw[fF (by rw[ak,hlen];exact hi),bI,hv];rfl
   ·rcases z with z|z|z|z
    ·exact z.elim
    ·exact z
    ·exact absurd (fun _ _ z=>(by cases z)) z
    ·cases z.1
  ·rw[fX (by rw[ak];omega),gh] at e
   split at e
   ·rename_i h'
    cases e
    refine⟨none,?_,trivial⟩
    rw[ak] at h'
    rw[fX (by rw[ak];omega),gh,if_pos (by rw[ak,hlen];exact h')]
   ·cases e
 ·intro i j a f as c g cs hij e1
  rw[dH] at e1
  by_cases hi:i<ds.length
  ·rw[fF (by rw[ak];exact hi)] at e1
   obtain⟨_,_,_,z,_⟩:=kq hd e1
   cases z
  ·rw[fX (by rw[ak];omega),gh] at e1
   split at e1<;>cases e1
 ·intro i j a f as c g cs hij e1
  rw[dH] at e1
  by_cases hi:i<ds.length
  ·rw[fF (by rw[ak];exact hi)] at e1
   obtain⟨_,_,_,z,_⟩:=kq hd e1
   cases z
  ·rw[fX (by rw[ak];omega),gh] at e1
   split at e1<;>cases e1
 ·intro i j c t hij e1
  rw[dH] at e1
  by_cases hi:i<ds.length
  ·rw[fF (by rw[ak];exact hi)] at e1
   obtain⟨_,_,_,z,_⟩:=kq hd e1
   cases z
  ·rw[fX (by rw[ak];omega),gh] at e1
   split at e1<;>cases e1
 ·rcases z with z|z
  ·exact .inr (.inl z)
  ·exact .inr (.inr (.inr z))
theorem Sv.qF(hB:dz H b l)(hl:jQ nb H)(hb:nb b)(hd:af nb H ds vs)(aE:∀f d v H',Φ f d->aU (Nb b) H H'->dz H' b l->ai (fun a=>nb a\/(f=true/\H a≠none)) H' d v->Q v H')
    (dH:ρ= .au::ds.map (Sl.d false)++List.replicate (N.length-(ds.length+1)) .no) (h:Sv ⟨some (b,l),H,nb,[]⟩ ρ t {nx:=fun _=>Φ true .none,rt:=Φ}):t {nx:=fun _ H'=>Q .aC H',rt:=Q} (start N (.ref b::vs)) H:=by
  have hlen:=hd.length
  have mJ:∀a,a≠b->NB (some (b,l)) a:=fun a n b' l' e=>by cases e;exact n
  have S3:∀a,¬NB (some (b,l)) a->a=b:=fun a n=>jF fun z=>n (mJ a z)
  have bt:∀{aL ρ' σ' H'},Wd ⟨some (b,l),H,nb,[]⟩ aL ρ' σ' H'->aU (Nb b) H H':=fun W a o n e=>W.old a o (mJ a n) e
  have bg:∀{aL ρ' σ' H'},Wd ⟨some (b,l),H,nb,[]⟩ aL ρ' σ' H'->dz H' b l:=fun W=>W.au b l rfl
  refine h (fun _=>False) _ H _ ⟨fun b' l' e=>(by cases e;exact hB),fun _ z=>z.elim,fun _ _ _ e=>e,fun _ z=>z.elim,hl,?_,fun b' l' e=>(by cases e;exact hB),fun _ m=>(by cases m),fun i s e=>?_,?_,?_,?_⟩ ⟨fun aL ρ' σ' H' q W=>aE _ _ _ _ q (bt W) (bg W) .aC,fun _ _ _ _ q _=>q.elim,fun _ _ _ _ q _=>q.elim,fun aL ρ' σ' f v H' d q W hv=>aE f d v H' q (bt W) (bg W) (hv.av fun a z=>?_),fun _ _ _ _ _ q _=>q.elim⟩
  · rw[dH];unfold start;simp[hlen]
  · rw[dH] at e
    unfold start
    cases i with
    |zero=>simp at e;subst e;exact⟨some (.ref b),by simp,b,l,rfl,rfl⟩
    | succ i =>
      simp only[lG,kF,bx,eB] at e⊢
      by_cases hi:i<ds.length
      · rw[fF (by rw[ak];exact hi)] at e
        obtain⟨v,d,hv,rfl,q⟩:=kq hd e
        refine⟨some v,?_,v,rfl,q.av fun a z=>?_⟩
        · rw[fF (by rw[ak,hlen];exact hi),bI,hv];rfl
        · rcases z with z|z|z|z
          · exact z.elim
          · exact z
          · rw[S3 a z];exact hb
          · cases z.1
      · rw[fX (by rw[ak];omega),gh] at e
        split at e
        · rename_i h'
          cases e
          refine⟨none,?_,trivial⟩
          rw[ak] at h'
          rw[fX (by rw[ak];omega),gh,if_pos (by rw[ak,hlen];exact h')]
        · cases e
  · intro i j a f as c g cs hij e1
    rw[dH] at e1
    cases i with
    |zero=>simp at e1
    | succ i =>
      simp only[lG,kF] at e1
      by_cases hi:i<ds.length
      · rw[fF (by rw[ak];exact hi)] at e1
        obtain⟨_,_,_,z,_⟩:=kq hd e1
        cases z
      · rw[fX (by rw[ak];omega),gh] at e1
        split at e1<;>cases e1
  · intro i j a f as c g cs hij e1
    rw[dH] at e1
    cases i with
    |zero=>simp at e1
    | succ i =>
      simp only[lG,kF] at e1
      by_cases hi:i<ds.length
      · rw[fF (by rw[ak];exact hi)] at e1
        obtain⟨_,_,_,z,_⟩:=kq hd e1
        cases z
      · rw[fX (by rw[ak];omega),gh] at e1
        split at e1<;>cases e1
  · intro i j c t hij e1
    rw[dH] at e1
    cases i with
    |zero=>simp at e1
    | succ i =>
      simp only[lG,kF] at e1
      by_cases hi:i<ds.length
      · rw[fF (by rw[ak];exact hi)] at e1
        obtain⟨_,_,_,z,_⟩:=kq hd e1
        cases z
      · rw[fX (by rw[ak];omega),gh] at e1
        split at e1<;>cases e1
  · rcases z with z|z
    · exact .inr (.inl z)
    · exact .inr (.inr (.inr z))
def Cq(b l:Addr)(H:Hp):Gx:=⟨some (b,l),H,fun _=>False,[]⟩
theorem VJ{a:Option V}{m:Nat}(hB:dz H b l):Wd (Cq b l H) (fun _=>False) (.no:: .au::List.replicate m .no) (a::some (.ref b)::List.replicate m none) H:=by
  refine⟨fun b' l' e=>(by cases e;exact hB),fun _ z=>z.elim,fun _ _ _ e=>e,fun _ z=>z.elim,fun _ z=>z.elim,by simp,fun b' l' e=>(by cases e;exact hB),fun _ m=>(by cases m),fun i s e=>?_,?_,?_,?_⟩
  · match i with
    |0=>simp at e;subst e;exact⟨a,rfl,trivial⟩
    |1=>simp at e;subst e;exact⟨some (.ref b),rfl,b,l,rfl,rfl⟩
    | i + 2 =>
      simp only[kF,gh] at e⊢
      split at e
      · rename_i h;cases e;exact⟨none,if_pos h,trivial⟩
      · cases e
  · intro i j a f as c g cs hij e1
    match i with
    |0=>simp at e1
    |1=>simp at e1
    | i + 2 =>
      simp only[kF,gh] at e1
      split at e1<;>cases e1
  · intro i j a f as c g cs hij e1
    match i with
    |0=>simp at e1
    |1=>simp at e1
    | i + 2 =>
      simp only[kF,gh] at e1
      split at e1<;>cases e1
  · intro i j c t hij e1
    match i with
    |0=>simp at e1
    |1=>simp at e1
    | i + 2 =>
      simp only[kF,gh] at e1
      split at e1<;>cases e1
theorem Ev.WC{G:Gx}{i:Nat}{a:Addr}{ns:List Int}{K:PySem.W.Frag}(e:ρ[i]?=some (.raw (.ref a)))(hS:aS K G.H0 a (ns.map V.int))(h:Φ true (.int ns.length)):Ev G ρ (fJ (fQ K) (bC (cI i) cz)) Φ:=fun nb σ H Q W z=>by
 obtain⟨x,e1,h1⟩:=W.ok i _ e
 have h1:x=some (.ref a):=h1
 subst h1
 have hS':aS K H a (ns.map V.int):=by
  rcases hS with hr|hk
  ·have hn:NB G.B a:=fun b l hb z=>by
    subst z
    obtain⟨_,_,_,_,_,g1,_⟩:=W.gB _ _ hb
    rcases hr with hr|⟨o,hr⟩
    ·rw[g1] at hr
     have:=HO.lst.inj (iD hr)
     cases ns with
     |nil=>cases this
     |cons n r=>rw[bx] at this;cases (rS this).1
    ·rw[g1] at hr;cases hr
   rcases hr with hr|⟨o,hr⟩
   ·exact .inl (.inl (W.old _ _ hn hr))
   ·exact .inl (.inr ⟨o,W.old _ _ hn hr⟩)
  ·exact .inr hk
 refine⟨.ref a,e1,a,_,rfl, .inl hS',?_⟩
 rw[ak]
 exact z true _ H _ h (.refl W.au) (.int _)
theorem UX{D:Ends}(h1:∀σ H,D.nx σ H)(h2:∀H,D.rt (.bl true) H):AE (Cq b l H) {nx:=fun _=>True,rt:=fun _ d=>d= .bool true} D:=
 ⟨fun _ _ σ H _ _=>h1 σ H,fun _ _ _ _ q _=>q.elim,fun _ _ _ _ q _=>q.elim,fun _ _ _ f v H d q _ hv=>by subst q;unfold ai at hv;subst hv;exact h2 H,fun _ _ _ _ _ q _=>q.elim⟩
end
namespace R
theorem VX{H:Hp}{Q:VK}{i j:Int}(h:Q (.int (if j<i then j else i)) H):Be [.int i, .int j] H Q:=⟨i,j,rfl,h⟩
theorem RN{K:PySem.W.Frag}{H:Hp}{Q:VK}{p:Addr}{xs:List V}(hp:aS K H p xs)(h:Q (.int xs.length) H):fQ K [.ref p] H Q:=⟨p,xs,rfl, .inl hp,h⟩
theorem di{P:Int->Prop}{i:Int}(h:P i):∃j,PyData.int i= .int j/\P j:=⟨i,rfl,h⟩
theorem db{P:Bool->Prop}{i:Bool}(h:P i):∃j,PyData.bool i= .bool j/\P j:=⟨i,rfl,h⟩
theorem dl{P:List PyData->Prop}{i:List PyData}(h:P i):∃j,PyData.list i= .list j/\P j:=⟨i,rfl,h⟩
theorem dt{P:List PyData->Prop}{i:List PyData}(h:P i):∃j,PyData.tuple i= .tuple j/\P j:=⟨i,rfl,h⟩
theorem Lq{P:List PyData->Prop}{i:List PyData}(h:P i):∃j,(PyData.list i= .list j\/PyData.list i= .tuple j)/\P j:=⟨i, .inl rfl,h⟩
theorem O4{P:List PyData->Prop}{i:List PyData}(h:P i):∃j,(PyData.tuple i= .list j\/PyData.tuple i= .tuple j)/\P j:=⟨i, .inr rfl,h⟩
theorem P5{P:Bool->Prop}{i j:Int}(h:P (decide (i=j))):∃b,gv (.int i) (.int j) b/\P b:=⟨_, .ii i j,h⟩
theorem Q5{P:Bool->Prop}{x y:Bool}(h:P (x==y)):∃b,gv (.bool x) (.bool y) b/\P b:=⟨_, .bb x y,h⟩
theorem at_{ds:List PyData}{k:Int}{e:PyData}{P:PyData->Prop}(h:bU ds k=some e)(q:P e):∃e,bU ds k=some e/\P e:=⟨e,h,q⟩
theorem Uc{A:Prop}(q:A):([]:List Fd).length<=10000/\A:=⟨by decide,q⟩
theorem P7{C A:Prop}(c:C)(q:A):C/\A:=⟨c,q⟩
end R
theorem iP{n:Nat}{F:DF}{vs:List V}{H:Hp}{Q:VK}{E:XK}(h:bT n F vs H Q E):∃(nb:Addr->Prop) (ds:List PyData) (Φ:Pd),jQ nb H/\af nb H ds vs/\(∀f d v H',Φ f d->cQ H H'->ai (fun a=>nb a\/(f=true/\H a≠none)) H' d v->Q v H')/\F ds Φ:=by
 obtain⟨_,nb,ds,h1,h2,h3⟩:=h
 exact⟨nb,ds,_,h1,h2,fun f d v H' q=>q v H',h3⟩
theorem sC{n:Nat}{F:DF}{vs:List V}{H:Hp}{Q:VK}{E:XK}(h:iu n F vs H Q E):∃(b l:Addr) (ws:List V) (nb:Addr->Prop) (ds:List PyData) (Φ:Pd),vs= .ref b::ws/\dz H b l/\jQ nb H/\nb b/\af nb H ds ws/\(∀f d v H',Φ f d->aU (Nb b) H H'->dz H' b l->ai (fun a=>nb a\/(f=true/\H a≠none)) H' d v->Q v H')/\F ds Φ:=by
 obtain⟨_,b,l,ws,nb,ds,e,hB,h1,hb,h2,h3⟩:=h
 exact⟨b,l,ws,nb,ds,_,e,hB,h1,hb,h2,fun f d v H' q=>q v H',h3⟩
end L2
set_option maxRecDepth 100000
set_option maxHeartbeats 1000000
namespace L2
open PySem PySem.Spec PyProof.Rows
abbrev az:=List (Int×Int)
abbrev Wo:=List (Option Int)
abbrev jc(prs:az):PyData:= .list (prs.map pairD)
abbrev fN(wd:Wo):PyData:= .list (wd.map c8)
abbrev eW(p n:Int)(cs:List az):PyData:= .tuple [.int p, .int n, .list (cs.map jc)]
def uV(prs:az)(wd:Wo):Prop:=∃pr∈prs,wd[pr.1.toNat]?=some none
instance{prs:az}{wd:Wo}:Decidable (uV prs wd):=by unfold uV;infer_instance
def pC(p:Int)(prs:az)(wd:Wo):Option Int:=if uV prs wd then none else some (aQ prs wd%p)
def nE(prs:az)(m:Nat):Prop:=∀pr∈prs,0<=pr.1/\pr.1<m/\Sm pr.2
def gG(wd:Wo):Prop:=∀x,some x∈wd->Sm x
theorem Fw{α β:Type}{xs:List α}(φ:α->β){k:Int}{m:Nat}(h0:0<=k)(h1:k<m)(hm:m=xs.length):∃x,xs[k.toNat]?=some x/\bU (xs.map φ) k=some (φ x):=by
 have hk:k.toNat<xs.length:=by omega
 exact⟨xs[k.toNat],aI hk,jx h0 (by rw[bI,aI hk];rfl)⟩
theorem gH{α β:Type}{xs:List α}{φ:α->β}{i:Nat}{d:β}(h:(xs.map φ)[i]?=some d):∃x,xs[i]?=some x/\d=φ x:=by
 rw[bI] at h
 obtain⟨x,hx,e⟩:=oH.mp h
 exact⟨x,hx,e.symm⟩
theorem take_snoc{α:Type}{xs:List α}{i:Nat}{x:α}(h:xs[i]?=some x):xs.take (i+1)=xs.take i++[x]:=by
 rw[BI,h];rfl
theorem Gr(o:Option Int):uh (c8 o)=o.isNone:=by cases o<;>rfl
end L2
set_option maxRecDepth 100000
set_option maxHeartbeats 4000000
namespace L2
open PySem PySem.Spec PyProof.Rows
structure Eu(p b L lt r t:Int):Prop where
 l0:0<L
 r0:0<=r
 lp:L<=p
 rp:r<=p
 lc:∃k,L=lt*b+p*k
 rc:∃k,r=t*b+p*k
 dv:∀d,d∣L->d∣r->d∣p/\d∣b%p
 sz:(t.natAbs:Int)*L+(lt.natAbs:Int)*r<=p
theorem Eu.start{p b:Int}(hp:2<=p):Eu p b p 0 (b%p) 1:=by
 have m1:=iW b (show p≠0 by omega)
 have m2:=iX b (show 0<p by omega)
 refine⟨by omega,m1,Int.le_refl _,by omega,⟨1,by rw[Int.zero_mul,Int.zero_add,BX]⟩,⟨-(b/p),?_⟩,fun d h1 h2=>⟨h1,h2⟩,?_⟩
 ·have:=pB b p
  rw[m7,Int.mul_neg]
  omega
 ·show(1:Int)*p+0*(b%p)<=p
  rw[m7,Int.zero_mul]
  omega
theorem Eu.tb{p b L lt r t:Int}(h:Eu p b L lt r t): -p<=t/\t<=p:=by
 have h1:(t.natAbs:Int)*1<=(t.natAbs:Int)*L:=q9 (by have:=h.l0;omega) (by omega)
 have h2:0<=(lt.natAbs:Int)*r:=Int.mul_nonneg (by omega) h.r0
 have:=h.sz
 omega
theorem Eu.next{p b L lt r t:Int}(h:Eu p b L lt r t)(hr:0<r):Eu p b r t (L-L/r*r) (lt-L/r*t)/\L-L/r*r<r:=by
 have e:=pB L r
 have m1:=iW L (show r≠0 by omega)
 have m2:=iX L hr
 have e':L-L/r*r=L%r:=by rw[pD (L/r) r];omega
 have q0:0<=L/r:=zP (by have:=h.l0;omega) (by omega)
 obtain⟨k1,c1⟩:=h.lc
 obtain⟨k2,c2⟩:=h.rc
 refine⟨⟨hr,by omega,h.rp,by have:=h.rp;omega,h.rc,⟨k1-L/r*k2,?_⟩,fun d d1 d2=>?_,?_⟩,by omega⟩
 ·rw[qG,mh]
  generalize L/r=q at*
  have z:q*r=q*(t*b)+q*(p*k2):=by rw[<-Co,<-c2]
  have z1:q*(t*b)=q*t*b:=(lq q t b).symm
  have z2:q*(p*k2)=p*(q*k2):=by rw[<-lq,pD q p,lq]
  omega
 ·have dL:d∣L:=by
   have z:d∣(L-L/r*r)+L/r*r:=Int.dvd_add d2 (Int.dvd_mul_of_dvd_right d1)
   have z2:(L-L/r*r)+L/r*r=L:=by omega
   rwa[z2] at z
  exact h.dv d dL d1
 ·generalize L/r=q at*
  have a1:((lt-q*t).natAbs:Int)<=(lt.natAbs:Int)+q*(t.natAbs:Int):=by
   have b1:(lt-q*t).natAbs<=lt.natAbs+(q*t).natAbs:=by omega
   have b2:((q*t).natAbs:Int)=q*(t.natAbs:Int):=by
    rw[Int.natAbs_mul]
    have:(q.natAbs:Int)=q:=by omega
    rw[Int.natCast_mul,this]
   omega
  have a2:((lt-q*t).natAbs:Int)*r<=((lt.natAbs:Int)+q*(t.natAbs:Int))*r:=Int.mul_le_mul_of_nonneg_right a1 (by omega)
  have a3:((lt.natAbs:Int)+q*(t.natAbs:Int))*r=(lt.natAbs:Int)*r+q*(t.natAbs:Int)*r:=Int.add_mul _ _ _
  have a4:(t.natAbs:Int)*(L-q*r)=(t.natAbs:Int)*L-q*(t.natAbs:Int)*r:=by
   rw[mh,<-lq,pD (t.natAbs:Int) q]
  have:=h.sz
  omega
theorem FY{α:Type}{us:List α}(h:us.length=1):∃a,us=[a]:=by
  cases us with
  |nil=>cases h
  | cons a us =>
    cases us with
    |nil=>exact⟨a,rfl⟩
    |cons _ _=>cases h
theorem ln2{α:Type}{us:List α}(h:us.length=2):∃a b,us=[a,b]:=by
  cases us with
  |nil=>cases h
  | cons a us =>
    obtain⟨b,rfl⟩:=FY (us:=us) (uH h)
    exact⟨a,b,rfl⟩
theorem JA{α:Type}{us:List α}(h:us.length=3):∃a b c,us=[a,b,c]:=by
  cases us with
  |nil=>cases h
  | cons a us =>
    obtain⟨b,c,rfl⟩:=ln2 (us:=us) (uH h)
    exact⟨a,b,c,rfl⟩
theorem Jt{α:Type}{us:List α}(h:us.length=4):∃a b c d,us=[a,b,c,d]:=by
  cases us with
  |nil=>cases h
  | cons a us =>
    obtain⟨b,c,d,rfl⟩:=JA (us:=us) (uH h)
    exact⟨a,b,c,d,rfl⟩
theorem R1{α:Type}{us:List α}(h:us.length=5):∃a b c d e,us=[a,b,c,d,e]:=by
  cases us with
  |nil=>cases h
  | cons a us =>
    obtain⟨b,c,d,e,rfl⟩:=Jt (us:=us) (uH h)
    exact⟨a,b,c,d,e,rfl⟩
end L2
set_option maxRecDepth 100000
set_option maxHeartbeats 1000000
namespace L2
open PySem PySem.Spec PyProof.Rows
def jH(xs:Array Nat):Prop:=∀(i j x y:Nat),i<j->xs[i]?=some x->xs[j]?=some y->x<y
theorem Ke{xs:Array Nat}{q:Nat}(hr:jH xs):∀(f lo hi:Nat),hi<=xs.size->lo<=hi->hi-lo<=f->(∀i x,i<lo->xs[i]?=some x->x<q)->(∀i x,hi<=i->xs[i]?=some x->q<=x)->
    lo<=SetTable.below.go xs q f lo hi/\SetTable.below.go xs q f lo hi<=hi/\(∀i x,i<SetTable.below.go xs q f lo hi->xs[i]?=some x->x<q)/\(∀i x,SetTable.below.go xs q f lo hi<=i->xs[i]?=some x->q<=x):=by
  intro f
  induction f with
  | zero =>
    intro lo hi h1 h2 h3 h4 h5
    have e:lo=hi:=by omega
    subst e
    exact⟨aF _,aF _,h4,h5⟩
  | succ f ih =>
    intro lo hi h1 h2 h3 h4 h5
    unfold SetTable.below.go
    by_cases hlt:lo<hi
    · rw[if_pos hlt]
      have hm:(lo+hi)/2<xs.size:=by omega
      have hg:xs[(lo+hi)/2]?=some xs[(lo+hi)/2]:=j5 hm
      have hgd:xs.getD ((lo+hi)/2) q=xs[(lo+hi)/2]:=by rw[AX,hg];rfl
      dsimp only
      rw[hgd]
      by_cases hc:xs[(lo+hi)/2]<q
      · rw[if_pos hc]
        obtain⟨a1,a2,a3,a4⟩:=ih ((lo+hi)/2+1) hi h1 (by omega) (by omega) (fun i x hi' e=>by
          rcases Nat.lt_or_ge i ((lo+hi)/2) with z|z
          · exact qD (hr i _ x _ z e hg) hc
          · have:i=(lo+hi)/2:=by omega
            subst this;rw[hg] at e;cases e;exact hc) h5
        exact⟨by omega,a2,a3,a4⟩
      · rw[if_neg hc]
        obtain⟨a1,a2,a3,a4⟩:=ih lo ((lo+hi)/2) (by omega) (by omega) (by omega) h4 (fun i x hi' e=>by
          rcases Nat.lt_or_ge ((lo+hi)/2) i with z|z
          · exact jP (vG (Bj hc) (hr _ i _ x z hg e))
          · have:i=(lo+hi)/2:=by omega
            subst this;rw[hg] at e;cases e;exact Bj hc)
        exact⟨a1,by omega,a3,a4⟩
    · rw[if_neg hlt]
      have e:lo=hi:=by omega
      subst e
      exact⟨aF _,aF _,h4,h5⟩
theorem below_at{xs:Array Nat}{q:Nat}(hr:jH xs):SetTable.below xs q<=xs.size/\(∀i x,i<SetTable.below xs q->xs[i]?=some x->x<q)/\(∀i x,SetTable.below xs q<=i->xs[i]?=some x->q<=x):=by
 obtain⟨_,h2,h3,h4⟩:=Ke (q:=q) hr xs.size 0 xs.size (aF _) (fG _) (by omega) (fun i x h=>absurd h (Nat.not_lt_zero _)) (fun i x h e=>by
  have:=(qt.mp e).1;omega)
 exact⟨h2,h3,h4⟩
theorem Wx{α:Type}{xs:Array α}{p:Nat}{x:α}(hp:p<=xs.size)(i:Nat):(SetTable.insertAt xs p x)[i]?=if i<p then xs[i]? else if i=p then some x else xs[i-1]?:=by
 unfold SetTable.insertAt
 rw[Jr]
 have e1:((xs.extract 0 p).push x).size=p+1:=by rw[qj,fu];omega
 rw[e1]
 by_cases h1:i<p
 ·rw[if_pos (show i<p+1 by omega),if_pos h1,A0,if_neg (by rw[fu];omega),EI (by omega)]
  simp
 ·rw[if_neg h1]
  by_cases h2:i=p
  ·rw[if_pos (show i<p+1 by omega),if_pos h2,A0,if_pos (by rw[fu];omega)]
  ·rw[if_neg (show¬i<p+1 by omega),if_neg h2]
   by_cases h3:i-(p+1)<xs.size-p
   ·rw[EI (by omega),<-j5,show p+(i-(p+1))=i-1 by omega]
   ·rw[zW (by rw[fu];omega),zW (by omega)]
theorem jH.insert{xs:Array Nat}{q:Nat}(hr:jH xs)(hq:xs[SetTable.below xs q]?≠some q):jH (SetTable.insertAt xs (SetTable.below xs q) q):=by
 obtain⟨h1,h2,h3⟩:=below_at (q:=q) hr
 have h3':∀i x,SetTable.below xs q<=i->xs[i]?=some x->q<x:=fun i x hi e=>by
  rcases zq (h3 i x hi e) with z|z
  ·exact z
  ·subst z
   rcases zq hi with z|z
   ·have hb:SetTable.below xs q<xs.size:=eE z (jP (qt.mp e).1)
    have hg:xs[SetTable.below xs q]?=some xs[SetTable.below xs q]:=j5 hb
    have:=hr _ i _ q z hg e
    have:=h3 _ _ (aF _) hg
    omega
   ·rw[<-z] at e;exact absurd e hq
 intro i j x y hij ex ey
 rw[Wx h1] at ex ey
 by_cases a:i<SetTable.below xs q
 ·rw[if_pos a] at ex
  by_cases b:j<SetTable.below xs q
  ·rw[if_pos b] at ey;exact hr i j x y hij ex ey
  ·rw[if_neg b] at ey
   by_cases c:j=SetTable.below xs q
   ·rw[if_pos c] at ey;cases ey;exact h2 i x a ex
   ·rw[if_neg c] at ey;exact hr i (j-1) x y (by omega) ex ey
 ·rw[if_neg a] at ex
  by_cases c:i=SetTable.below xs q
  ·rw[if_pos c] at ex;cases ex
   rw[if_neg (by omega),if_neg (by omega)] at ey
   exact h3' (j-1) y (by omega) ey
  ·rw[if_neg c] at ex
   rw[if_neg (by omega),if_neg (by omega)] at ey
   exact hr (i-1) (j-1) x y (by omega) ex ey
theorem Ly{t:SetTable}{ha:Nat->Int}{h:Int}:∀(f:Nat) (p:SetTable.Probe) (j:Nat) (dm:Option Nat),(∀d,p.dummy=some d->t.slot d= .dummy)->SetTable.probe.go t ha h f p=some (.empty j dm)->t.slot j= .empty/\∀d,dm=some d->t.slot d= .dummy:=by
  intro f
  induction f with
  |zero=>intro p j dm _ e;unfold SetTable.probe.go at e;cases e
  | succ f ih =>
    intro p j dm hd e
    have Ij:∀p:SetTable.Probe,(t.advance p).dummy=p.dummy:=fun p=>by unfold SetTable.advance;split<;>rfl
    unfold SetTable.probe.go at e
    cases hs:t.slot p.j with
    |empty=>rw[hs] at e;cases e;exact⟨hs,hd⟩
    |dummy=>rw[hs] at e;exact ih _ j dm (fun d h'=>by rw[Ij] at h';cases h';exact hs) e
    | live i =>
      rw[hs] at e
      dsimp only at e
      split at e
      · cases e
      · exact ih _ j dm (fun d h'=>by rw[Ij] at h';exact hd d h') e
theorem Iv{t:SetTable}{h:Int}{j:Nat}{wd:Bool}(e:t.freeSlot h=some (j,wd)):∀i,t.slot j≠ .live i:=by
 unfold SetTable.freeSlot SetTable.probe at e
 intro i z
 split at e
 ·rename_i j0 dm he
  obtain⟨h1,h2⟩:=Ly (10*SetTable.turns t.mask) (t.probeStart h) j0 dm (fun d h'=>by unfold SetTable.probeStart at h';cases h') he
  cases dm with
  |none=>cases e;simp at z;rw[h1] at z;cases z
  |some d=>cases e;simp at z;rw[h2 d rfl] at z;cases z
 ·cases e
structure dM(bt:Bool)(t:SetTable):Prop where
 led:bt=false->t.led=true
 yP:t.plain=true->jH t.place
theorem dM.standIn{bt:Bool}{t:SetTable}(h:dM bt t)(n:Nat):dM bt (t.standIn n):=⟨h.led,fun z=>by cases z⟩
theorem dM.off{bt:Bool}{t:SetTable}(h:dM bt t):dM bt {t with plain:=false}:=⟨h.led,fun z=>by cases z⟩
theorem dM.put{bt:Bool}{t:SetTable}{j:Nat}(h:dM bt t)(hj:∀i,t.slot j≠ .live i):dM bt (t.put j).1:=by
 refine⟨h.led,fun z=>?_⟩
 refine jH.insert (h.yP z) fun e=>hj (SetTable.below t.place j) ?_
 unfold SetTable.slot
 dsimp only
 rw[if_pos (by rw[e];exact beq_self_eq_true _)]
theorem dM.layNew{bt:Bool}{t:SetTable}{es:Array (Int×Value)}{h:Int}{x:Value}(ok:dM bt t):dM bt (layNew t es h x).2.1:=by
 unfold PySem.layNew
 split
 ·rename_i slot wd e
  dsimp only
  unfold SetTable.orStandIn
  split
  ·exact ok.put (Iv e)
  ·exact(ok.put (Iv e)).standIn _
 ·exact ok.standIn _
theorem Lv(n:Nat)(φ:Nat->Option Nat):jH (((List.range n).filterMap fun j=>(φ j).map (j,·)).map (·.1)).toArray:=by
  have hp:(((List.range n).filterMap fun j=>(φ j).map (j,·)).map (·.1)).Pairwise (· < ·):=by
    have hs:List.Sublist (((List.range n).filterMap fun j=>(φ j).map (j,·)).map (·.1)) (List.range n):=by
      induction List.range n with
      |nil=>simp
      | cons a r ih =>
        rw[oS]
        cases φ a with
        |none=>exact ih.cons a
        |some y=>exact ih.cons₂ a
    exact HZ.sublist hs
  intro i j x y hij ex ey
  rw[EW] at ex ey
  obtain⟨hi,rfl⟩:=bW.mp ex
  obtain⟨hj,rfl⟩:=bW.mp ey
  exact Ca.mp hp i j hi hj hij
theorem dM.LL{bt:Bool}{t:SetTable}{es:Array (Int×Value)}{n:Nat}(ok:dM bt t):dM bt (relayAll t es n).2.1:=by
  unfold relayAll
  split
  · rename_i t' order e
    dsimp only
    split
    · unfold SetTable.relaid SetTable.laid at e
      cases hl:SetTable.layClean (SetTable.sizeAbove n-1) (es.map (·.1)) with
      |none=>rw[hl] at e;cases e
      | some owner =>
        rw[hl] at e
        cases e
        exact⟨ok.led,fun _=>Lv _ _⟩
    · exact ok.standIn _
  · exact ok.standIn _
theorem dM.fresh{bt:Bool}:dM bt (.fresh 0 0 (!bt)):=⟨fun h=>by rw[h];rfl,fun _ i j x y _ e=>by simp[SetTable.fresh] at e⟩
end L2
set_option maxRecDepth 100000
set_option maxHeartbeats 4000000
namespace L2
open PySem PySem.Spec PyProof.Rows
def fT(bt:Bool)(h:Heap)(a:Addr):Prop:=∀o es ep t,h.get? a=some o->o.data= .set es ep t->dM bt t
theorem fT.of{bt:Bool}{h:Heap}{a:Addr}{o:Obj}{es:Array (Int×Value)}{ep:Nat}{t:SetTable}(e:h.get? a=some o)(d:o.data= .set es ep t)(k:dM bt t):fT bt h a:=fun o' es' uU t' e' d'=>by
 rw[e] at e';cases e';rw[d] at d';cases d';exact k
theorem fT.keep{bt:Bool}{h h':Heap}{a:Addr}{o:Obj}(k:fT bt h a)(e:h.get? a=some o)(e':h'.get? a=some o):fT bt h' a:=fun o1 es ep t x d=>by
 rw[e'] at x;cases x;exact k o es ep t e d
section
variable{prog:Program}{w:World}{A:Around}{E:Value->Shared->Prop}{s:Shared}{a:Addr}{bt:Bool}
abbrev IK(prog:Program)(w:World):=intKind prog w
theorem Gs{o:Obj}{es es':Array (Int×Value)}{ep:Nat}{t t':SetTable}{T:Int->Bool}{h:Heap}(g1:h.get? a=some o)(g2:o.ExactSet)(g3:o.data= .set es ep t)(l1:ElemsOf (IK prog w) es'.toList)
  (l2:∀k,T k=true↔∃e∈es'.toList,(IK prog w).is k e.2=true) (l3:es'.size<scanBound) (l4:t'.fits es'.size=true) (tk:dM bt t'):
  (∃o',(h.update a (Obj.putSet es' t')).get? a=some o'/\o'.ExactSet/\o'.data= .set es' (ep+1) t')/\(h.update a (Obj.putSet es' t')).SetOf (IK prog w) a T es'.size/\fT bt (h.update a (Obj.putSet es' t')) a:=by
 obtain⟨q1,q2⟩:=SetOf_store (knd:=IK prog w) (es':=es') (t':=t') (S':=T) g1 g2 g3 l1 l2 l3 l4
 exact⟨⟨_,q1,g2,rfl⟩,q2, .of q1 rfl tk⟩
theorem Iu{gg:Bool->Sem Unit}(V4:∀(b:Bool) (s₁:Shared) (Q₁:Unit->Shared->Prop),Q₁ () s₁->wpAny (model prog w) A (gg b) Q₁ E s₁){o:Obj}{es:Array (Int×Value)}{ep:Nat}{t:SetTable}
    (g1:s.heap.get? a=some o) (g2:o.ExactSet) (g3:o.data= .set es ep t) {es1:Array (Int×Value)} {t2:SetTable} {T:Int->Bool} (l1:ElemsOf (IK prog w) es1.toList) (l2:∀k,T k=true↔∃e∈es1.toList,(IK prog w).is k e.2=true)
    (l3:es1.size<scanBound) (l4:t2.fits es1.size=true) (tk:dM bt t2) {wd:Bool} {R:Option Bool->Shared->Prop}
    (fin:∀h',Heap.SameBut a s.heap h'->h'.SetOf (IK prog w) a T es1.size->fT bt h' a->R (some true) {s with heap:=h'}):
    wpAny (model prog w) A (do storeSet a es1 t2
                               if(!wd && t2.tooFull)=true then do
                                 gg (relayAll t2 es1 (SetTable.grown es1.size)).2.2
                                 storeSet a (relayAll t2 es1 (SetTable.grown es1.size)).1 (relayAll t2 es1 (SetTable.grown es1.size)).2.1
                                 pure (some true)
                               else pure (some true)) R E s:=by
  obtain⟨⟨o1,k1,k2,k3⟩,q1,q2⟩:=Gs (T:=T) g1 g2 g3 l1 l2 l3 l4 tk
  have sb:=Heap.SameBut.update s.heap a (Obj.putSet es1 t2)
  refine wpAny_bind (wpAny_storeSet_of g1 g3 ?_ (fits_of_scanBound l3))
  by_cases c:(!wd && t2.tooFull)=true
  · rw[if_pos c]
    have pp:=relayAll_perm t2 es1 (SetTable.grown es1.size)
    have pf:=relayAll_fits t2 es1 (SetTable.grown es1.size)
    have pt:=tk.LL (es:=es1) (n:=SetTable.grown es1.size)
    generalize relayAll t2 es1 (SetTable.grown es1.size)=Z at pp pf pt⊢
    obtain⟨Dn,t3,Nt⟩:=Z
    dsimp only at pp pf pt⊢
    have sz:Dn.size=es1.size:=by have:=pp.length_eq;rwa[cU,cU] at this
    have KC:∀k,T k=true↔∃e∈Dn.toList,(IK prog w).is k e.2=true:=fun k=>(l2 k).trans ⟨fun⟨e,m,z⟩=>⟨e,pp.mem_iff.mpr m,z⟩,fun⟨e,m,z⟩=>⟨e,pp.mem_iff.mp m,z⟩⟩
    obtain⟨_,r1,r2⟩:=Gs (T:=T) k1 k2 k3 (l1.perm pp) KC (by rw[sz];exact l3) pf pt
    refine wpAny_bind (V4 _ _ _ (wpAny_bind (wpAny_storeSet_of k1 k3 ?_ (fits_of_scanBound (by rw[sz];exact l3)))))
    rw[sz] at r1
    exact wpAny_pure (fin _ (sb.trans (Heap.SameBut.update _ a _)) r1 r2)
  · rw[if_neg c]
    exact wpAny_pure (fin _ sb q1 q2)
theorem R4{S:Int->Bool}{n:Nat}{k:Int}{x:Value}{Q:Bool->Shared->Prop}(hx:(IK prog w).is k x=true)(sc:x.scannable=true)(hS:s.heap.SetOf (IK prog w) a S n)(hT:fT bt s.heap a)(room:n+1<scanBound)
    (fin:∀h',Heap.SameBut a s.heap h'->h'.SetOf (IK prog w) a (fun j=>S j||decide (j=k)) (if S k then n else n+1)->fT bt h' a->Q (!S k) {s with heap:=h'}):
    wpAny (model prog w) A (setAddHashed a x ((IK prog w).hash k)) Q E s:=by
  obtain⟨o,es,ep,t,g1,g2,g3,l1,l2,l3,l4,sz⟩:=hS
  have tk:=hT o es ep t g1 g3
  unfold setAddHashed setAddHashedIn
  refine wpAny_holding (wpAny_bind (wpAny_setState_of g1 g3 l4 ?_))
  dsimp only
  rw[if_pos (byScan_of sc l3 l1)]
  unfold setAddByScan
  refine wpAny_bind (wpAny_bind (wpAny_rule (wpAny_bind (wpAny_setScan_of hx g1 g3 l4 l1 ?_))))
  cases fr:List.findIdx? (fun e=>(IK prog w).is k e.2) es.toList with
  | some j =>
    obtain⟨hj,pj,_⟩:=List.findIdx?_eq_some_iff_getElem.mp fr
    have yes:S k=true:=(l2 k).mpr ⟨_,gx hj,pj⟩
    have z:=fin s.heap (.refl a s.heap) ⟨o,es,ep,t,g1,g2,g3,l1,fun j=>by
      rw[Bool.or_eq_true,decide_eq_true_eq,<-l2 j]
      exact⟨fun q=>q.elim id fun e=>e▸yes, .inl⟩,l3,l4,by rw[if_pos yes];exact sz⟩ hT
    rw[yes] at z
    exact wpAny_pure (wpAny_pure z)
  | none =>
    have no:S k=false:=by
      cases q:S k with
      |false=>rfl
      | true =>
        obtain⟨e,m,p⟩:=(l2 k).mp q
        rw[List.findIdx?_eq_none_iff.mp fr e m] at p;cases p
    have pp:=layNew_perm t es ((IK prog w).hash k) x
    have pf:=layNew_fits t es ((IK prog w).hash k) x
    have pt:=tk.layNew (es:=es) (h:=(IK prog w).hash k) (x:=x)
    dsimp only
    generalize layNew t es ((IK prog w).hash k) x=Z at pp pf pt⊢
    obtain⟨es1,t1,wd,Nt⟩:=Z
    dsimp only at pp pf pt⊢
    rw[jK] at pp
    have ly:es1.size=n+1:=by have:=pp.length_eq;rw[c7,cU,cU,sz] at this;exact this
    have fin':∀h',Heap.SameBut a s.heap h'->h'.SetOf (IK prog w) a (fun j=>S j||decide (j=k)) es1.size->fT bt h' a->Q true {s with heap:=h'}:=fun h' x1 x2 x3=>by
      have:=fin h' x1;rw[no,if_neg bq] at this;rw[ly] at x2;exact this x2 x3
    have gw:∀(b:Bool) (s₁:Shared) (Q₁:Unit->Shared->Prop),Q₁ () s₁->wpAny (model prog w) A (match b with|true=>rule "set.scan.the-table-gave-way" |false=>pure ()) Q₁ E s₁:=fun b s₁ Q₁ q=>by
      cases b
      · exact wpAny_pure q
      · exact wpAny_rule q
    refine wpAny_bind (gw _ _ _ ?_)
    have e1:=(l1.push hx sc).perm pp
    have e2:=mem_push_iff hx l2 pp
    have e3:es1.size<scanBound:=by rw[ly];exact room
    by_cases pl:t1.plain=true
    · rw[if_pos pl,hashByValue_scannable 8 sc]
      refine wpAny_bind (wpAny_pure ?_)
      refine Iu gw g1 g2 g3 e1 e2 e3 ?_ ?_ fun h' x1 x2 x3=>wpAny_pure (fin' h' x1 x2 x3)
      · split
        · exact pf
        · exact SetTable.fits_plain_off pf
      · split
        · exact pt
        · exact pt.off
    · rw[if_neg pl]
      refine wpAny_bind (wpAny_pure ?_)
      rw[if_pos rfl]
      exact Iu gw g1 g2 g3 e1 e2 e3 pf pt fun h' x1 x2 x3=>wpAny_pure (fin' h' x1 x2 x3)
end
end L2
set_option maxRecDepth 100000
set_option maxHeartbeats 4000000
namespace L2
open PySem PySem.Spec PyProof.Rows
section
variable{prog:Program}{w:World}{A:Around}{R:Result->Shared->Prop}{I:Addr}{fp wr:List Addr}{G:Array GenState->Array GenState->Prop}{n:Nat}{P:Nat->Value->Prop}{St:Nat->Shared->Prop}{bt:Bool}
abbrev met(val:Nat->Int)(i:Nat):Int->Bool:=fun k=>(firstMet val i).any (· ==k)
theorem KQ(W:WalksS prog w A.in1 I fp wr G n P St)(C:Addr)(nC:C∉fp)(val:Nat->Int)(hv:∀i v,P i v->∃t,v= .int (val i) t)(room:n+1<scanBound)(fuel:Nat):
    ∀(i:Nat) (s:Shared),n-i=fuel->i<=n->St i s->s.heap.SetOf (IK prog w) C (met val i) (firstMet val i).length->fT bt s.heap C->
      (∀s',Moved (C::wr) G s s'->s'.heap.SetOf (IK prog w) C (met val n) (firstMet val n).length->fT bt s'.heap C->R (.ok (.ret .none)) s')->
      codeAny (model prog w) A (.builtin "set.update.loop" ⟨[.ref C, .ref I],[]⟩) R s:=by
  have nw:C∉wr:=fun z=>nC (W.sub _ z)
  have up:∀b∈wr,b∈C::wr:=fun b z=>cH _ z
  have mv:∀{s s':Shared} {T:Int->Bool} {m:Nat},Moved wr G s s'->s.heap.SetOf (IK prog w) C T m->fT bt s.heap C->s'.heap.SetOf (IK prog w) C T m/\fT bt s'.heap C:=fun mo q tt=>by
    obtain⟨o,es,ep,t,ho,r⟩:=q
    exact⟨⟨o,es,ep,t,mo.heap C _ nw ho,r⟩,tt.keep ho (mo.heap C _ nw ho)⟩
  induction fuel with
  | zero =>
    intro i s e1 e2 st q tt fin
    obtain rfl:i=n:=by omega
    refine codeAny_builtin F.entry_set_update_loop ?_
    rw[nK BP _]
    refine wpAny_bind (W.done s _ _ st fun s' mo=>?_)
    exact wpAny_pure (fin s' (mo.mono up) (mv mo q tt).1 (mv mo q tt).2)
  | succ fuel ih =>
    intro i s e1 e2 st q tt fin
    have lt:i<n:=by omega
    refine codeAny_builtin F.entry_set_update_loop ?_
    rw[nK BP _]
    refine wpAny_bind (W.item i s _ _ lt st fun v s' hP st' mo=>?_)
    obtain⟨tok,rfl⟩:=hv i v hP
    obtain⟨q',Nm⟩:=mv mo q tt
    show wpAny _ A.in1 (holding [Value.int (val i) tok] (setAdd C (.int (val i) tok))>>=_) _ _ s'
    unfold setAdd
    refine wpAny_bind (wpAny_holding (wpAny_holding (wpAny_bind ((IK prog w).pyHash (k:=val i) (intKind_is _ _ _ _) ?_))))
    refine R4 (bt:=bt) (s:={s' with toks:=s'.toks+1}) (intKind_is _ _ _ _) rfl q' Nm (by have:=firstMet_length_le val i;omega) fun h' sb q2 Pz=>?_
    have q3:h'.SetOf (IK prog w) C (met val (i+1)) (firstMet val (i+1)).length:=SetOf_congr q2 (fun j=>by unfold met;rw[firstMet_succ,step_any]) (by rw[firstMet_succ,step_length])
    refine wpAny_pure ⟨plainId_quiet BP _,ih (i+1) _ (by omega) lt (W.frame _ s' _ _ st' (oV _) fun b hb o e=>?_) q3 Pz fun s2 SQ q4 SR=>?_⟩
    · rw[sb.2 b fun z:b=C=>nC (z▸hb)];exact e
    · refine fin s2 (Moved.trans W.gtrans ((mo.mono up).then_heap (oV _) fun b o hb e=>?_) SQ) q4 SR
      rw[sb.2 b fun z:b=C=>hb (z▸bV)];exact e
end
section
variable{prog:Program}{w:World}{A:Around}{E:Value->Shared->Prop}{s:Shared}
abbrev fk(w:World):Bool:=w.params.followText "set-order"
abbrev kI(w:World):Obj:={cls:= .type "set",dict:=none,data:= .set #[] 0 (.fresh 0 0 (!fk w))}
theorem VH(a:Value){Q₁:Value->Shared->Prop}(fin:Q₁ (.ref s.heap.objs.size) {s with heap:=s.heap.push (kI w)}):codeAny (model prog w) A (.call (.builtin "set.__new__") ⟨[.type "set",a],[]⟩) (wants Q₁ E) s:=by
 refine codeAny_of_tree ?_
 show wpAny _ A.in1 (do checkBuiltinCall "set.__new__" ⟨[.type "set",a],[]⟩;again (.builtin "set.__new__" ⟨[.type "set",a],[]⟩)) _ _ s
 refine wpAny_bind (wpAny_of_eq (F.newCall_set_1 a) (wpAny_pure ⟨plainId_quiet F.plain_set_new _,codeAny_builtin F.entry_set_new ?_⟩))
 rw[nK F.plain_set_new _]
 unfold Builtin.«set.__new__» Builtin.Frozenset.newClass
 have hsub:=sub_set_self
 obtain⟨hp,g,d,tk,os⟩:=s
 dsimp only at fin⊢
 wp_walk
 refine wpAny_askSetting (wpAny_pure ?_)
 dsimp only
 simp only[newObj]
 exact wpAny_bind (wpAny_alloc (wpAny_pure (wpAny_pure fin)))
theorem Pf{l:Addr}{items:Array Value}{ns:List Int}{Q:Value->Shared->Prop}(hh:A.handled=none)(hl:s.heap.IsList l items)(hi:IntsAre items.toList ns)(room:items.size+1<scanBound)
    (fin:∀(h':Heap) (tk:Nat),h'.SetOf (IK prog w) s.heap.objs.size (met (fun i=>ns.getD i 0) items.size) (firstMet (fun i=>ns.getD i 0) items.size).length->fT (fk w) h' s.heap.objs.size->
      (∀b o,b<s.heap.objs.size->s.heap.get? b=some o->h'.get? b=some o)->Q (.ref s.heap.objs.size) {s with heap:=h',toks:=tk}):wpAny (model prog w) A (call (.type "set") [.ref l]) Q E s:=by
  obtain⟨c,tl,Xn⟩:=lY.mro
  have hmade:=lY.made
  have hsub:=lY.sub
  have h1:=lY.notType
  have h2:=lY.canCreate
  have hct:=F.typeCall_set_1 (.ref l)
  refine wpAny_call (codeAny_of_tree ?_)
  show wpAny _ _ (callAny (.type "set") _) _ _ _
  refine wpAny_pure ⟨Code.quiet_builtin _ (by decide+kernel),codeAny_builtin F.entry_type_call ?_⟩
  rw[Around.under_plain (weight_type_call_type "set" [.ref l] []) rfl]
  repeat (any_goals (first|assumption|wp_step))
  refine codeAny_mono (VH (.ref l) (E:=E) (Q₁:=fun obj s₁=>obj= .ref s.heap.objs.size/\s₁={s with heap:=s.heap.push (kI w)}) ⟨rfl,rfl⟩) fun r s₁ hr=>?_
  cases r with
  |error e=>exact hr
  | ok fl =>
    cases fl with
    | ret obj =>
      obtain⟨rfl,rfl⟩:=hr
      have hS:(s.heap.push (kI w)).get? s.heap.objs.size=some (kI w):=fP _ rfl
      have hT:Shared.TypeIs {s with heap:=s.heap.push (kI w)} (.ref s.heap.objs.size) "set":=⟨_,hS,rfl⟩
      have hli:=lY.init.lookup
      have hbi:=lY.init.bind (.ref s.heap.objs.size)
      repeat (any_goals (first|assumption|wp_step))
      refine codeAny_mono (codeAny_call_builtin (R:=wants (fun r s₂=>r= .none/\∃h' tk,s₂={s with heap:=h',toks:=tk}/\h'.SetOf (IK prog w) s.heap.objs.size (met (fun i=>ns.getD i 0) items.size) (firstMet (fun i=>ns.getD i 0) items.size).length/\fT (fk w) h' s.heap.objs.size/\
          (∀b o,b<s.heap.objs.size->s.heap.get? b=some o->h'.get? b=some o)) E) lY.init.plain F.entry_set_init (check_set_init_1 hT ?_)) fun r₂ s₂ Cs=>?_
      · obtain⟨ol,cS,hcl,nl,hdl⟩:=hl
        obtain⟨WZ,WW,WR,WV⟩:=ol
        simp only at hcl hdl
        subst hcl;subst hdl
        have K7:=bQ (kI w) cS
        have Xa:=F.sub_list_set
        have WY:=F.sub_list_frozenset
        have hne:(Value.type "list"==Value.type "dict")=false:=by decide
        have hl1:(s.heap.push (kI w)).IsList l items:=⟨_,K7,rfl,nl,rfl⟩
        unfold Builtin.«set.__init__» noKeywords Builtin.Frozenset.updateFrom
        generalize R7:pyIter=PI
        wp_walk
        subst R7
        refine wpAny_pyIter_list hl1 (wpAny_bind (wpAny_runValue ?_))
        have hlS:l<s.heap.objs.size:=bw cS
        have ly:(s.heap.push (kI w)).objs.size=s.heap.objs.size+1:=j6 ..
        have n1:l≠(s.heap.push (kI w)).objs.size:=by rw[ly];exact cW (lZ hlS)
        have n2:s.heap.objs.size∉[(s.heap.push (kI w)).objs.size,l]:=by
          rw[ly];intro z;rcases aG.mp z with z|z
          · exact absurd z (cW (nu _))
          · exact absurd (aP.mp z) (pN hlS)
        have h3:A.in1.in1.in1.handled=none:=by simp[hh]
        have hS':=bQ ({cls:= .type "list_iterator",data:= .fields #[.ref l, .int 0 0]}:Obj) hS
        refine KQ (bt:=fk w) ((Walks.list h3 _ l n1 items).toS) s.heap.objs.size n2 (fun i=>ns.getD i 0) (fun i v e=>IntsAre.int_at hi i v (by rw[jC];exact e)) room (items.size-0) 0 _ (by omega) (fG _)
          ⟨⟨_,fP _ rfl,rfl,rfl⟩,(hl1.push _)⟩ (SetOf_congr ((setObjOf_fresh (knd:=IK prog w) (!fk w)).setOf hS' (by unfold scanBound;omega)) (fun _=>rfl) rfl) (.of hS' rfl .fresh) ?_
        intro s' mo q tt
        obtain⟨h',g',d',tk',os'⟩:=s'
        obtain rfl:g'=s.gens:=mo.gens
        obtain rfl:d'=s.drawn:=mo.drawn
        obtain rfl:os'=s.os:=mo.os
        refine wpAny_pure (wpAny_pure ⟨rfl,h',tk',rfl,q,tt,fun b o hb e=>?_⟩)
        refine mo.heap b o (fun z=>?_) (bQ _ (bQ _ e))
        rcases aG.mp z with z|z
        · exact absurd z (cW hb)
        · rw[ly] at z;exact absurd (aP.mp z) (cW (lZ hb))
      · cases r₂ with
        |error e=>exact Cs
        | ok fl₂ =>
          cases fl₂ with
          | ret r =>
            obtain⟨rfl,h',tk,rfl,q1,q2,q3⟩:=Cs
            repeat (any_goals (first|assumption|wp_step))
            exact fin _ _ q1 q2 q3
          |_=>exact Cs.elim
    |_=>exact hr.elim
end
end L2
set_option maxRecDepth 100000
set_option maxHeartbeats 4000000
namespace L2
open PySem PySem.Spec PyProof.Rows
theorem i6:Slot "set_iterator" "__next__" "set_iterator.__next__":= .of (owner:="set_iterator") (n:="__next__") (by rw[typeLookup_type,builtinLookup_eq_fast];kernel_rfl) (by decide+kernel) (by decide+kernel) (by decide+kernel) (by first|exact .inl (by decide+kernel)|exact .inr (by decide+kernel)) (by rw[isSubtype_type];kernel_rfl)
theorem sX:entryFor table "set_iterator.__next__"=some Builtin.«set_iterator.__next__» :=entryFor_of_tree (by kernel_rfl)
theorem v7(a:Value):argsOk "set_iterator.__next__" ⟨[a],[]⟩:=by unfold argsOk;kernel_rfl
theorem Hf:Slot "set" "__iter__" "set.__iter__":= .of (owner:="set") (n:="__iter__") (by rw[typeLookup_type,builtinLookup_eq_fast];kernel_rfl) (by decide+kernel) (by decide+kernel) (by decide+kernel) (by first|exact .inl (by decide+kernel)|exact .inr (by decide+kernel)) (by rw[isSubtype_type];kernel_rfl)
theorem Qo:entryFor table "set.__iter__"=some Builtin.«frozenset.__iter__» :=entryFor_alias (id':="frozenset.__iter__") (by kernel_rfl) rfl (by decide+kernel) (by kernel_rfl)
theorem Ud(a:Value):argsOk "set.__iter__" ⟨[a],[]⟩:=by unfold argsOk;kernel_rfl
theorem pT:Slot "set_iterator" "__iter__" "set_iterator.__iter__":= .of (owner:="set_iterator") (n:="__iter__") (by rw[typeLookup_type,builtinLookup_eq_fast];kernel_rfl) (by decide+kernel) (by decide+kernel) (by decide+kernel) (by first|exact .inl (by decide+kernel)|exact .inr (by decide+kernel)) (by rw[isSubtype_type];kernel_rfl)
theorem z4:entryFor table "set_iterator.__iter__"=some Builtin.«dict_keyiterator.__iter__» :=entryFor_alias (id':="dict_keyiterator.__iter__") (by kernel_rfl) rfl (by decide+kernel) (by kernel_rfl)
theorem Bt(a:Value):argsOk "set_iterator.__iter__" ⟨[a],[]⟩:=by unfold argsOk;kernel_rfl
end L2
set_option maxRecDepth 100000
set_option maxHeartbeats 4000000
namespace L2
open PySem PySem.Spec PyProof.Rows
section
variable{prog:Program}{w:World}{A:Around}{E:Value->Shared->Prop}{s:Shared}{a it tp:Addr}{o:Obj}{es:Array (Int×Value)}{ep:Nat}{t:SetTable}
theorem CB{α:Type}:∀{l:List α} {i:Nat} (h:i<l.length),(l[i]::l.eraseIdx i).Perm l
  |b::r,0,_=>by simp
  | b :: r, i + 1, h => by
    have:=CB (l:=r) (i:=i) (by simpa using h)
    simp only[List.getElem_cons_succ,List.eraseIdx_cons_succ]
    exact(List.Perm.swap b _ _).trans (this.cons b)
theorem AG{α:Type}(nx:Nat->Nat):∀(f k:Nat) (l:List α) (out:Array α),l.length<=f->(pickOrder.go nx f k l out).toList.Perm (out.toList++l):=by
  intro f
  induction f with
  | zero =>
    intro k l out h
    have:l=[]:=qc.mp (by omega)
    subst this
    unfold pickOrder.go
    simp
  | succ f ih =>
    intro k l out h
    unfold pickOrder.go
    cases l with
    |nil=>simp
    | cons b r =>
      have hlt:nx k%(b::r).length<(b::r).length:=sR _ (by simp)
      rw[aI hlt]
      dsimp only
      refine(ih (k+1) _ _ (by rw[C8 hlt];omega)).trans ?_
      rw[jK,eV]
      refine kH _ ?_
      exact CB hlt
theorem Hr(bt:fk w=true)(g1:s.heap.get? a=some o)(g3:o.data= .set es ep t)(g4:t.fits es.size=true){i sl:Nat}{Q:Option (Value×Nat)->Shared->Prop}
  (h:Q (((pickOrder (w.params.setOrder a ep) es)[i]?).map fun e=>(e.2,sl)) s):wpAny (model prog w) A (setNext a sl i ep) Q E s:=by
 unfold setNext
 refine wpAny_bind (wpAny_setState_of g1 g3 g4 ?_)
 dsimp only
 unfold setsByText
 refine wpAny_bind (wpAny_bind (wpAny_askSetting (wpAny_pure ?_)))
 show wpAny _ _ (if fk w=true then _ else _) _ _ _
 rw[if_pos bt]
 rw[if_neg (by simp)]
 refine wpAny_bind ?_
 unfold setWalk
 refine wpAny_bind (wpAny_setState_of g1 g3 g4 ?_)
 dsimp only
 unfold setsByText
 refine wpAny_bind (wpAny_bind (wpAny_askSetting (wpAny_pure ?_)))
 show wpAny _ _ (if fk w=true then _ else _) _ _ _
 rw[if_pos bt]
 refine wpAny_bind (wpAny_askSetting (wpAny_pure ?_))
 exact wpAny_pure h
theorem GN(bt:fk w=false)(g1:s.heap.get? a=some o)(g3:o.data= .set es ep t)(g4:t.fits es.size=true)(tk:dM (fk w) t)(pl:t.plain=true\/es.size<=1){i sl:Nat}{Q:Option (Value×Nat)->Shared->Prop}
  (h:Q (match es[SetTable.below t.place sl]?,t.place[SetTable.below t.place sl]? with|some (_,x),some j=>some (x,j+1)|_,_=>none) s):wpAny (model prog w) A (setNext a sl i ep) Q E s:=by
 unfold setNext
 refine wpAny_bind (wpAny_setState_of g1 g3 g4 ?_)
 dsimp only
 unfold setsByText
 refine wpAny_bind (wpAny_bind (wpAny_askSetting (wpAny_pure ?_)))
 show wpAny _ _ (if fk w=true then _ else _) _ _ _
 rw[bt,if_neg bq]
 show wpAny _ _ (if(!t.plain && decide (es.size>1))=true then _ else _) _ _ _
 rw[if_neg (by
  intro z
  rw[dP,Bool.not_eq_true',decide_eq_true_eq] at z
  rcases pl with p|p
  ·rw[p] at z;cases z.1
  ·omega)]
 refine wpAny_bind ?_
 show wpAny _ _ (if(!t.led && !es.isEmpty)=true then _ else _) _ _ _
 rw[if_neg (by rw[tk.led bt];simp)]
 refine wpAny_pure ?_
 exact wpAny_pure h
theorem OX(g1:s.heap.get? a=some o)(g3:o.data= .set es ep t)(g4:t.fits es.size=true){pl:Nat}{hx:Int}{x:Value}{Q:Value->Shared->Prop}(e:es[pl]?=some (hx,x))(h:Q x s):wpAny (model prog w) A (setNextDrawn a pl ep) Q E s:=by
 unfold setNextDrawn
 refine wpAny_bind (wpAny_setState_of g1 g3 g4 ?_)
 dsimp only
 rw[if_neg (by simp)]
 rw[e]
 exact wpAny_pure h
def jz(h:Heap)(it a:Addr)(first:Value)(i n ep:Nat):Prop:=∃o,h.get? it=some o/\o.cls= .type "set_iterator" /\o.data= .fields #[first, .int i 0, .ref a, .int n 0, .int ep 0]
theorem jz.ty{first:Value}{i n:Nat}(h:jz s.heap it a first i n ep):s.TypeIs (.ref it) "set_iterator":=let ⟨o,e,c,_⟩:=h;⟨o,e,c⟩
theorem vo{first:Value}{i n:Nat}{QQ:Fin->Shared->Prop}{EE:Value->Shared->Prop}(hit:jz s.heap it a first i n ep)(g1:s.heap.get? a=some o)(g3:o.data= .set es ep t)(g4:t.fits es.size=true)(hn:es.size=n)
    (h:wpAny (model prog w) A (match first with
      | .int slot _ => (do
        match<-setNext a slot.toNat i ep with
        | some (x, next) => do
          setField (.ref it) 0 (rawInt next)
          setField (.ref it) 1 (rawInt ((i:Int)+1))
          ret x
        | none => do
          setField (.ref it) 2 .none
          raiseNew (<-newExc (.type "StopIteration") []))
      | _ => (do
        let some places<-seqItems? first|unsupported "internal:set_iterator"
        match places[i]? with
        | some (.int place _) => do
          let x<-setNextDrawn a place.toNat ep
          setField (.ref it) 1 (rawInt ((i:Int)+1))
          ret x
        |some _=>unsupported "internal:set_iterator"
        | none => do
          setField (.ref it) 0 (rawInt 0)
          setField (.ref it) 2 .none
          raiseNew (<-newExc (.type "StopIteration") []))) QQ EE s):wpAny (model prog w) A (Builtin.«set_iterator.__next__» ⟨[.ref it],[]⟩) QQ EE s:=by
  obtain⟨oi,ho,hc,hd⟩:=hit
  unfold Builtin.«set_iterator.__next__»
  refine wpAny_bind (wpAny_pure ?_)
  refine wpAny_bind (wpAny_fieldsOf ho hd ?_)
  dsimp only
  refine wpAny_bind (wpAny_setEntries_of g1 g3 g4 ?_)
  rw[if_neg (by rw[hn];simp)]
  cases first<;>exact h
theorem vd{h:Heap}{first:Value}{i n k:Nat}{x:Value}{oi:Obj}{vs:Array Value}(ho:h.get? it=some oi)(hc:oi.cls= .type "set_iterator")(hd:oi.data= .fields vs):
  (h.update it (Obj.mapFields (·.setIfInBounds k x))).get? it=some (Obj.mapFields (·.setIfInBounds k x) oi)/\(Obj.mapFields (·.setIfInBounds k x) oi).cls= .type "set_iterator" /\(Obj.mapFields (·.setIfInBounds k x) oi).data= .fields (vs.setIfInBounds k x):=by
 refine⟨uO _ ho (Obj.isFreed_of_fields (Obj.data_mapFields hd _)),(Obj.cls_mapFields ..).trans hc,Obj.data_mapFields hd _⟩
theorem Jm{sl i n nx:Nat}{x:Value}{Q:Option Value->Shared->Prop}(hit:jz s.heap it a (.int sl 0) i n ep)(g1:s.heap.get? a=some o)(g3:o.data= .set es ep t)(g4:t.fits es.size=true)(hn:es.size=n)
  (hN:∀(Q:Option (Value×Nat)->Shared->Prop) (E:Value->Shared->Prop),Q (some (x,nx)) s->wpAny (model prog w) A.in1 (setNext a sl i ep) Q E s)
  (hQ:∀h',jz h' it a (.int nx 0) (i+1) n ep->(∀b,b≠it->h'.get? b=s.heap.get? b)->Q (some x) {s with heap:=h'}):wpAny (model prog w) A (pyNext (.ref it)) Q E s:=by
 obtain⟨oi,ho,hc,hd⟩:=id hit
 unfold pyNext
 refine wpAny_bind (wpAny_attempt (wpAny_callSpecial?_slot (name:=Str.ofString "__next__") hit.ty i6 (wpAny_call_entry i6 hit.ty sX ?_ (v7 _))))
 refine vo hit g1 g3 g4 hn ?_
 dsimp only
 refine wpAny_bind (hN _ _ ?_)
 dsimp only
 obtain⟨u1,u2,u3⟩:=vd (first:= .none) (i:=0) (n:=0) (k:=0) (x:=rawInt nx) ho hc hd
 obtain⟨w1,w2,w3⟩:=vd (first:= .none) (i:=0) (n:=0) (k:=1) (x:=rawInt ((i:Int)+1)) u1 u2 u3
 refine wpAny_bind (wpAny_setField ho hd (by simp) ?_)
 refine wpAny_bind (wpAny_setField u1 u3 (by simp) ?_)
 refine wpAny_pure ⟨x,rfl,wpAny_pure (hQ _ ⟨_,w1,w2,?_⟩ fun b hb=>?_)⟩
 ·rw[w3];simp[rawInt]
 ·exact((kh _ _ (bJ hb))).trans (kh _ _ (bJ hb))
theorem Es{QQ:Fin->Shared->Prop}{B:Around}{Q:Option Value->Shared->Prop}(hh:B.handled=none)(hQ:∀o1 o2,Q none {s with heap:=(s.heap.push o1).push o2}):wpAny (model prog w) B (do raiseNew (<-newExc (.type "StopIteration") [])) QQ
  (fun e s'=>wpAny (model prog w) A (do if<-isInstance e (.type "StopIteration") then pure none else throw e) Q E s') s:=by
 refine wpAny_bind ?_
 simp only[newExc,newTuple]
 refine wpAny_bind (wpAny_newObj_type ?_ (by size_fits))
 refine wpAny_bind (m:=firstArgMember _ _) (wpAny_of_eq (a:=Value.none) (by first|rfl|(simp only[firstArgMember];rfl)) (wpAny_newObj_type ?_ (by size_fits)))
 simp only[raiseNew]
 refine wpAny_bind (wpAny_handled ?_)
 rw[hh]
 refine wpAny_bind (wpAny_pure (wpAny_throw ?_))
 refine wpAny_bind (wpAny_isInstance (b:=true) (T:="StopIteration") ⟨_,fP _ rfl,rfl⟩ isSubtype_stop ?_)
 exact wpAny_pure (hQ _ _)
theorem De{sl i n:Nat}{Q:Option Value->Shared->Prop}(hh:A.handled=none)(hit:jz s.heap it a (.int sl 0) i n ep)(g1:s.heap.get? a=some o)(g3:o.data= .set es ep t)(g4:t.fits es.size=true)(hn:es.size=n)
  (hN:∀(Q:Option (Value×Nat)->Shared->Prop) (E:Value->Shared->Prop),Q none s->wpAny (model prog w) A.in1 (setNext a sl i ep) Q E s)
  (hQ:∀h',(∀b o,b≠it->s.heap.get? b=some o->h'.get? b=some o)->Q none {s with heap:=h'}):wpAny (model prog w) A (pyNext (.ref it)) Q E s:=by
 obtain⟨oi,ho,hc,hd⟩:=id hit
 unfold pyNext
 refine wpAny_bind (wpAny_attempt (wpAny_callSpecial?_slot (name:=Str.ofString "__next__") hit.ty i6 (wpAny_call_entry i6 hit.ty sX ?_ (v7 _))))
 refine vo hit g1 g3 g4 hn ?_
 dsimp only
 refine wpAny_bind (hN _ _ ?_)
 dsimp only
 refine wpAny_bind (wpAny_setField ho hd (by simp) ?_)
 exact Es (B:=A.in1) hh fun o1 o2=>hQ _ fun b o hb e=>bQ _ (bQ _ ((kh _ _ (bJ hb)).trans e))
theorem O9{i n pl:Nat}{hx:Int}{x:Value}{qI:Array Value}{Q:Option Value->Shared->Prop}(hit:jz s.heap it a (.ref tp) i n ep)(g1:s.heap.get? a=some o)(g3:o.data= .set es ep t)(g4:t.fits es.size=true)(hn:es.size=n)
  (htp:∃ot m,s.heap.get? tp=some ot/\ot.data= .seq qI m) (hp:qI[i]?=some (.int pl 0)) (he:es[pl]?=some (hx,x))
  (hQ:∀h',jz h' it a (.ref tp) (i+1) n ep->(∀b,b≠it->h'.get? b=s.heap.get? b)->Q (some x) {s with heap:=h'}):wpAny (model prog w) A (pyNext (.ref it)) Q E s:=by
 obtain⟨oi,ho,hc,hd⟩:=id hit
 obtain⟨ot,m,t1,t2⟩:=htp
 unfold pyNext
 refine wpAny_bind (wpAny_attempt (wpAny_callSpecial?_slot (name:=Str.ofString "__next__") hit.ty i6 (wpAny_call_entry i6 hit.ty sX ?_ (v7 _))))
 refine vo hit g1 g3 g4 hn ?_
 dsimp only
 refine wpAny_bind (wpAny_seqItems t1 t2 ?_)
 dsimp only
 rw[hp]
 dsimp only
 refine wpAny_bind (OX g1 g3 g4 (by simpa using he) ?_)
 obtain⟨w1,w2,w3⟩:=vd (first:= .none) (i:=0) (n:=0) (k:=1) (x:=rawInt ((i:Int)+1)) ho hc hd
 refine wpAny_bind (wpAny_setField ho hd (by simp) (wpAny_pure ⟨x,rfl,wpAny_pure (hQ _ ⟨_,w1,w2,?_⟩ fun b hb=>kh _ _ (bJ hb))⟩))
 rw[w3];simp[rawInt]
theorem Uv{i n:Nat}{qI:Array Value}{Q:Option Value->Shared->Prop}(hh:A.handled=none)(hit:jz s.heap it a (.ref tp) i n ep)(g1:s.heap.get? a=some o)(g3:o.data= .set es ep t)(g4:t.fits es.size=true)(hn:es.size=n)
  (htp:∃ot m,s.heap.get? tp=some ot/\ot.data= .seq qI m) (hp:qI[i]?=none)
  (hQ:∀h',(∀b o,b≠it->s.heap.get? b=some o->h'.get? b=some o)->Q none {s with heap:=h'}):wpAny (model prog w) A (pyNext (.ref it)) Q E s:=by
 obtain⟨oi,ho,hc,hd⟩:=id hit
 obtain⟨ot,m,t1,t2⟩:=htp
 unfold pyNext
 refine wpAny_bind (wpAny_attempt (wpAny_callSpecial?_slot (name:=Str.ofString "__next__") hit.ty i6 (wpAny_call_entry i6 hit.ty sX ?_ (v7 _))))
 refine vo hit g1 g3 g4 hn ?_
 dsimp only
 refine wpAny_bind (wpAny_seqItems t1 t2 ?_)
 dsimp only
 rw[hp]
 dsimp only
 obtain⟨u1,u2,u3⟩:=vd (first:= .none) (i:=0) (n:=0) (k:=0) (x:=rawInt 0) ho hc hd
 refine wpAny_bind (wpAny_setField ho hd (by simp) (wpAny_bind (wpAny_setField u1 u3 (by simp) ?_)))
 exact Es (B:=A.in1) hh fun o1 o2=>hQ _ fun b o hb e=>bQ _ (bQ _ ((kh _ _ (bJ hb)).trans ((kh _ _ (bJ hb)).trans e)))
end
end L2
set_option maxRecDepth 100000
set_option maxHeartbeats 4000000
namespace L2
open PySem PySem.Spec PyProof.Rows
def slotAt(xs:Array Nat):Nat->Nat
 |0=>0
 |i+1=>xs.getD i 0+1
theorem JL(xs:Array Nat):slotAt xs 0=0:=rfl
theorem Gh(xs:Array Nat)(i:Nat):slotAt xs (i+1)=xs.getD i 0+1:=rfl
theorem Fg{xs:Array Nat}(hr:jH xs){i:Nat}(hi:i<=xs.size):SetTable.below xs (slotAt xs i)=i:=by
  obtain⟨h1,h2,h3⟩:=below_at (q:=slotAt xs i) hr
  have g:∀{j:Nat},j<xs.size->∃y,xs[j]?=some y/\xs.getD j 0=y:=fun{j} hj=>⟨xs[j],j5 hj,by rw[AX,j5 hj];rfl⟩
  rcases Nat.lt_trichotomy (SetTable.below xs (slotAt xs i)) i with z|z|z
  · obtain⟨y,e,_⟩:=g (eE z hi)
    have:=h3 _ y (aF _) e
    cases i with
    |zero=>omega
    | succ i =>
      obtain⟨y',e',d'⟩:=g (j:=i) (by omega)
      have es:=Gh xs i
      rw[d'] at es
      rcases zq (Nat.le_of_lt_succ z) with z|z
      · have:=hr _ _ _ _ z e e';omega
      · rw[z,e'] at e;cases e;omega
  · exact z
  · obtain⟨y,e,d⟩:=g (j:=i) (by omega)
    have:=h2 i y z e
    cases i with
    |zero=>rw[JL] at this;omega
    | succ i =>
      obtain⟨y',e',d'⟩:=g (j:=i) (by omega)
      rw[Gh,d'] at this
      have:=hr i (i+1) _ _ (by omega) e' e
      omega
section
variable{prog:Program}{w:World}{a I tp:Addr}{o:Obj}{es:Array (Int×Value)}{ep:Nat}{t:SetTable}
theorem GR(h:t.fits es.size=true):t.place.size=es.size:=by
 unfold SetTable.fits at h
 rw[dP] at h
 exact eq_of_beq h.1
theorem SN{A:Around}(hh:A.handled=none)(bt:fk w=true)(g3:o.data= .set es ep t)(g4:t.fits es.size=true)(hne:a≠I):
  Walks prog w A I [I,a] [I] es.size (fun i v=>((pickOrder (w.params.setOrder a ep) es).toList.map (·.2))[i]?=some v) (fun i h=>jz h I a (.int (0:Nat) 0) i es.size ep/\h.get? a=some o) where
 sub:=fun b hb=>by simp at hb;simp[hb]
 frame:=fun i h h' st hk=>by
  obtain⟨⟨oi,h1,h2,h3⟩,h4⟩:=st
  exact⟨⟨oi,hk I (by simp) _ h1,h2,h3⟩,hk a (by simp) _ h4⟩
 item:=fun i s Q E hi st hQ=>by
  have hsz:(pickOrder (w.params.setOrder a ep) es).toList.length=es.size:=by
   have:=(AG (w.params.setOrder a ep) es.size 0 es.toList #[] (by simp)).length_eq
   simpa[pickOrder] using this
  have hlt:i<(pickOrder (w.params.setOrder a ep) es).toList.length:=by omega
  have e1:(pickOrder (w.params.setOrder a ep) es)[i]?=some (pickOrder (w.params.setOrder a ep) es).toList[i]:=by rw[<-jC];exact aI hlt
  refine Jm st.1 st.2 g3 g4 rfl (x:=(pickOrder (w.params.setOrder a ep) es).toList[i].2) (nx:=0) (fun Q E q=>Hr bt st.2 g3 g4 (by rw[e1];exact q)) fun h' x1 x2=>?_
  refine hQ _ h' s.toks (by rw[bI,aI hlt];rfl) ⟨x1,(x2 a hne).trans st.2⟩ fun b o' hb e=>(x2 b (fun z=>hb (by simp[z]))).trans e
 done:=fun s Q E st hQ=>by
  have hsz:(pickOrder (w.params.setOrder a ep) es).toList.length=es.size:=by
   have:=(AG (w.params.setOrder a ep) es.size 0 es.toList #[] (by simp)).length_eq
   simpa[pickOrder] using this
  refine De hh st.1 st.2 g3 g4 rfl (fun Q E q=>Hr bt st.2 g3 g4 (by rw[<-jC,gM (by omega)];exact q)) fun h' x1=>hQ h' s.toks fun b o' hb e=>x1 b o' (fun z=>hb (by simp[z])) e
 self:=fun i s Q E st hQ=>by
  refine wpAny_pyIter_slot st.1.ty pT (wpAny_call_entry pT st.1.ty z4 ?_ (Bt _))
  exact wpAny_pure ⟨_,rfl,"set_iterator",_,st.1.ty,i6.lookup,hQ⟩
theorem Q8{A:Around}(hh:A.handled=none)(bt:fk w=false)(g3:o.data= .set es ep t)(g4:t.fits es.size=true)(tk:dM (fk w) t)(pl:t.plain=true\/es.size<=1)(hne:a≠I):
  Walks prog w A I [I,a] [I] es.size (fun i v=>(es.toList.map (·.2))[i]?=some v) (fun i h=>jz h I a (.int (slotAt t.place i) 0) i es.size ep/\h.get? a=some o) where
 sub:=fun b hb=>by simp at hb;simp[hb]
 frame:=fun i h h' st hk=>by
  obtain⟨⟨oi,h1,h2,h3⟩,h4⟩:=st
  exact⟨⟨oi,hk I (by simp) _ h1,h2,h3⟩,hk a (by simp) _ h4⟩
 item:=fun i s Q E hi st hQ=>by
  have hps:=GR g4
  have hr:jH t.place:=by
   rcases pl with p|p
   ·exact tk.yP p
   ·intro i j x y hij ex ey
    have:=(qt.mp ey).1;omega
  have hlt:i<es.toList.length:=by simpa using hi
  have e1:es[i]?=some es.toList[i]:=by rw[<-jC];exact aI hlt
  have e2:t.place[i]?=some (t.place.getD i 0):=by rw[AX,j5 (by omega)];rfl
  refine Jm st.1 st.2 g3 g4 rfl (x:=es.toList[i].2) (nx:=slotAt t.place (i+1)) (fun Q E q=>GN bt st.2 g3 g4 tk pl (by rw[Fg hr (by omega),e1,e2];exact q)) fun h' x1 x2=>?_
  refine hQ _ h' s.toks (by rw[bI,aI hlt];rfl) ⟨x1,(x2 a hne).trans st.2⟩ fun b o' hb e=>(x2 b (fun z=>hb (by simp[z]))).trans e
 done:=fun s Q E st hQ=>by
  have hps:=GR g4
  have hr:jH t.place:=by
   rcases pl with p|p
   ·exact tk.yP p
   ·intro i j x y hij ex ey
    have:=(qt.mp ey).1;omega
  refine De hh st.1 st.2 g3 g4 rfl (fun Q E q=>GN bt st.2 g3 g4 tk pl (by rw[Fg hr (by omega),zW (aF _)];exact q)) fun h' x1=>hQ h' s.toks fun b o' hb e=>x1 b o' (fun z=>hb (by simp[z])) e
 self:=fun i s Q E st hQ=>by
  refine wpAny_pyIter_slot st.1.ty pT (wpAny_call_entry pT st.1.ty z4 ?_ (Bt _))
  exact wpAny_pure ⟨_,rfl,"set_iterator",_,st.1.ty,i6.lookup,hQ⟩
theorem UN{A:Around}{ks:List Nat}(hh:A.handled=none)(g3:o.data= .set es ep t)(g4:t.fits es.size=true)(hk:ks.Perm (List.range es.size))(hne:a≠I)(hnt:tp≠I):
    Walks prog w A I [I,a,tp] [I] es.size (fun i v=>((ks.filterMap (es[·]?)).map (·.2))[i]?=some v) (fun i h=>jz h I a (.ref tp) i es.size ep/\h.get? a=some o/\∃ot m,h.get? tp=some ot/\ot.data= .seq (ks.map fun(k:Nat)=>rawInt k).toArray m) where
  sub:=fun b hb=>by simp at hb;simp[hb]
  frame:=fun i h h' st hk=>by
    obtain⟨⟨oi,h1,h2,h3⟩,h4,ot,m,h5,h6⟩:=st
    exact⟨⟨oi,hk I (by simp) _ h1,h2,h3⟩,hk a (by simp) _ h4,ot,m,hk tp (by simp) _ h5,h6⟩
  item:=fun i s Q E hi st hQ=>by
    have hlen:ks.length=es.size:=by rw[hk.length_eq];simp
    have hin:∀k∈ks,k<es.size:=fun k m=>by simpa using hk.mem_iff.mp m
    have hi':i<ks.length:=by omega
    have hki:=hin ks[i] (gx hi')
    have e1:es[ks[i]]?=some es[ks[i]]:=j5 hki
    have fm:∀(l:List Nat),(∀k∈l,k<es.size)->∀j (hj:j<l.length),(l.filterMap (es[·]?))[j]?=es[l[j]]?:=by
      intro l
      induction l with
      |nil=>intro _ j hj;simp at hj
      | cons b r ih =>
        intro hl j hj
        have hb:=hl b (bV ..)
        rw[oS,j5 hb]
        cases j with
        |zero=>simp[j5 hb]
        |succ j=>simpa using ih (fun k m=>hl k (cH _ m)) j (by simpa using hj)
    refine O9 st.1 st.2.1 g3 g4 rfl st.2.2 (pl:=ks[i]) (hx:=es[ks[i]].1) (x:=es[ks[i]].2) (by simp[aI hi',rawInt]) e1 fun h' x1 x2=>?_
    obtain⟨ot,m,t1,t2⟩:=st.2.2
    refine hQ _ h' s.toks ?_ ⟨x1,(x2 a hne).trans st.2.1,ot,m,(x2 tp hnt).trans t1,t2⟩ fun b o' hb e=>(x2 b (fun z=>hb (by simp[z]))).trans e
    rw[bI,fm ks hin i hi',e1];rfl
  done:=fun s Q E st hQ=>by
    have hlen:ks.length=es.size:=by rw[hk.length_eq];simp
    exact Uv hh st.1 st.2.1 g3 g4 rfl st.2.2 (by simp;omega) fun h' x1=>hQ h' s.toks fun b o' hb e=>x1 b o' (fun z=>hb (by simp[z])) e
  self:=fun i s Q E st hQ=>by
    refine wpAny_pyIter_slot st.1.ty pT (wpAny_call_entry pT st.1.ty z4 ?_ (Bt _))
    exact wpAny_pure ⟨_,rfl,"set_iterator",_,st.1.ty,i6.lookup,hQ⟩
end
section
variable{prog:Program}{w:World}{A:Around}{E:Value->Shared->Prop}{s:Shared}{a:Addr}{o:Obj}{es:Array (Int×Value)}{ep:Nat}{t:SetTable}
theorem IQ{α:Type}:∀l:List α,(List.range l.length).filterMap (fun i=>l[i]?)=l
  |[]=>rfl
  | x :: l => by
    have:=IQ l
    rw[eB,IA,oS,List.filterMap_map]
    simpa[Function.comp_def] using this
theorem JJ{src:Source}{n:Nat}{Q:Nat->Shared->Prop}(hn:n≠0)(h:∀i d',i<n->Q i {s with drawn:=d'}):wpAny (model prog w) A (choose src n) Q E s:=fun Γ p _=>⟨hn,h _ _ (sR _ (Nat.pos_of_ne_zero hn))⟩
theorem Ic{α:Type}:∀(n:Nat) (xs:List α) (s:Shared) (Q:List α->Shared->Prop),xs.length<=n->(∀ks d',ks.Perm xs->Q ks {s with drawn:=d'})->wpAny (model prog w) A (drawOrder n xs) Q E s
  | 0, xs, s, Q, hl, h => by
    have:xs=[]:=qc.mp (by omega)
    subst this
    unfold drawOrder
    exact wpAny_pure (h [] s.drawn .nil)
  | n + 1, [], s, Q, hl, h => by
    unfold drawOrder
    exact wpAny_pure (h [] s.drawn .nil)
  | n + 1, x :: xs, s, Q, hl, h => by
    unfold drawOrder
    refine wpAny_bind (JJ (by simp) fun i d' hi=>?_)
    rw[aI hi]
    dsimp only
    refine wpAny_bind (Ic n _ _ _ (by rw[C8 hi];simp at hl⊢;omega) fun ks d2 hk=>?_)
    exact wpAny_pure (h _ d2 ((hk.cons _).trans (CB hi)))
theorem Sz(g1:s.heap.get? a=some o)(g3:o.data= .set es ep t)(g4:t.fits es.size=true){Q:Bool->Shared->Prop}(h:Q (!fk w &&(!t.plain && decide (es.size>1))) s):wpAny (model prog w) A (setDrawn a) Q E s:=by
 unfold setDrawn
 refine wpAny_bind (wpAny_setState_of g1 g3 g4 ?_)
 dsimp only
 unfold setsByText
 refine wpAny_bind (wpAny_bind (wpAny_askSetting (wpAny_pure ?_)))
 exact wpAny_pure h
theorem HN(g1:s.heap.get? a=some o)(g3:o.data= .set es ep t)(g4:t.fits es.size=true){Q:Nat->Shared->Prop}(h:Q ep s):wpAny (model prog w) A (setEpoch a) Q E s:=by
 unfold setEpoch
 exact wpAny_bind (wpAny_setState_of g1 g3 g4 (wpAny_pure h))
theorem Pe{Q:Value->Shared->Prop}(hb:es.size<scanBound)(g1:s.heap.get? a=some o)(g2:o.ExactSet)(g3:o.data= .set es ep t)(g4:t.fits es.size=true)(tk:dM (fk w) t)
    (hQ:∀(I:Addr) (h':Heap) d' (items:List Value) (fp:List Addr) (St:Nat->Heap->Prop),(∀b o,s.heap.get? b=some o->h'.get? b=some o)->s.heap.objs.size<=I->(∀b∈fp,b=a\/s.heap.objs.size<=b)->I∈fp->(∀b∈fp,b<h'.objs.size)->items.Perm (es.toList.map (·.2))->
      (∀B:Around,B.handled=none->Walks prog w B I fp [I] items.length (fun i v=>items[i]?=some v) St)->St 0 h'->Q (.ref I) {s with heap:=h',drawn:=d'}):wpAny (model prog w) A (pyIter (.ref a)) Q E s:=by
  have hT:s.TypeIs (.ref a) "set":=⟨o,g1,g2.1⟩
  have hlt:=bw g1
  refine wpAny_pyIter_slot hT Hf (wpAny_call_entry Hf hT Qo ?_ (Ud _))
  unfold Builtin.«frozenset.__iter__»
  unfold Builtin.Frozenset.slot0 slotArgs
  simp only[List.isEmpty_nil,se,ku,↓reduceIte,bind_assoc,BF,bne_self_eq_false]
  unfold Builtin.Frozenset.addrOf Builtin.Frozenset.sizeOf
  refine wpAny_bind (wpAny_pure ?_)
  try dsimp only
  refine wpAny_bind (wpAny_pure ?_)
  refine wpAny_bind (wpAny_bind (wpAny_setEntries_of g1 g3 g4 (wpAny_pure ?_)))
  refine wpAny_bind (Sz g1 g3 g4 ?_)
  by_cases c:(!fk w &&(!t.plain && decide (es.size>1)))=true
  · rw[if_pos c]
    refine wpAny_bind (Ic es.size (List.range es.size) s _ (by simp) fun ks d' hk=>?_)
    unfold newTuple
    refine wpAny_bind (wpAny_newObj_type ?_ ?_)
    rotate_left
    · have hk0:ks.length=es.size:=by rw[hk.length_eq];simp
      show(List.map (fun(i:Nat)=>rawInt i) ks).toArray.size<=sizeLine
      rw[dg,ak,hk0]
      exact fits_of_scanBound hb
    have qk:=bQ ({cls:= .type "tuple",data:= .seq (ks.map fun(i:Nat)=>rawInt i).toArray}:Obj) g1
    refine wpAny_bind (HN (s:={s with heap:=_,drawn:=d'}) qk g3 g4 ?_)
    unfold newFields
    refine wpAny_bind (wpAny_newObj_type ?_)
    have hk0:ks.length=es.size:=by rw[hk.length_eq];simp
    have fin:=hQ
    clear hQ
    have ly:(s.heap.push ({cls:= .type "tuple",data:= .seq (ks.map fun(i:Nat)=>rawInt i).toArray}:Obj)).objs.size=s.heap.objs.size+1:=j6 ..
    have gT:(s.heap.push ({cls:= .type "tuple",data:= .seq (ks.map fun(i:Nat)=>rawInt i).toArray}:Obj)).get? s.heap.objs.size=some {cls:= .type "tuple",data:= .seq (ks.map fun(i:Nat)=>rawInt i).toArray}:=fP _ rfl
    have gO:∀b o,s.heap.get? b=some o->(s.heap.push ({cls:= .type "tuple",data:= .seq (ks.map fun(i:Nat)=>rawInt i).toArray}:Obj)).get? b=some o:=fun b o e=>bQ _ e
    generalize T5:s.heap.push ({cls:= .type "tuple",data:= .seq (ks.map fun(i:Nat)=>rawInt i).toArray}:Obj)=h1 at qk ly gT gO⊢
    have gI:(h1.push ({cls:= .type "set_iterator",data:= .fields #[.ref s.heap.objs.size,rawInt 0, .ref a,rawInt es.size,rawInt ep]}:Obj)).get? h1.objs.size=some {cls:= .type "set_iterator",data:= .fields #[.ref s.heap.objs.size,rawInt 0, .ref a,rawInt es.size,rawInt ep]}:=fP _ rfl
    have gS:=bQ ({cls:= .type "set_iterator",data:= .fields #[.ref s.heap.objs.size,rawInt 0, .ref a,rawInt es.size,rawInt ep]}:Obj) qk
    have MZ:=bQ ({cls:= .type "set_iterator",data:= .fields #[.ref s.heap.objs.size,rawInt 0, .ref a,rawInt es.size,rawInt ep]}:Obj) gT
    have R5:(h1.push ({cls:= .type "set_iterator",data:= .fields #[.ref s.heap.objs.size,rawInt 0, .ref a,rawInt es.size,rawInt ep]}:Obj)).objs.size=h1.objs.size+1:=j6 ..
    subst T5
    refine wpAny_pure ⟨_,rfl,"set_iterator",_,⟨_,gI,rfl⟩,i6.lookup,?_⟩
    have pp:(ks.filterMap (es[·]?)).Perm es.toList:=by
      have:=hk.filterMap (es[·]?)
      have e:(List.range es.size).filterMap (es[·]?)=es.toList:=by
        have:=IQ es.toList
        simpa using this
      rwa[e] at this
    have hn:((ks.filterMap (es[·]?)).map (·.2)).length=es.size:=by rw[ak,pp.length_eq];simp
    have oq:=CD (nu s.heap.objs.size) ly.symm
    refine fin _ _ d' ((ks.filterMap (es[·]?)).map (·.2)) [_,a,s.heap.objs.size] _ (fun b o e=>bQ _ (gO b o e)) (jP oq) (fun b m=>?_) (bV ..) (fun b m=>?_) (pp.map _) (fun B hB=>by rw[hn];exact UN hB g3 g4 hk (cW (qD hlt oq)) (cW oq)) ?_
    · rcases aG.mp m with e|m
      · exact .inr (by rw[e];exact jP oq)
      · rcases aG.mp m with e|m
        · exact .inl e
        · exact .inr (mz (aP.mp m).symm)
    · refine CD ?_ R5.symm
      rcases aG.mp m with e|m
      · rw[e];exact nu _
      · rcases aG.mp m with e|m
        · rw[e];exact lZ (qD hlt oq)
        · rw[aP.mp m];exact lZ oq
    · exact⟨⟨_,gI,rfl,rfl⟩,gS,_,_,MZ,rfl⟩
  · rw[if_neg c]
    refine wpAny_bind (wpAny_pure ?_)
    refine wpAny_bind (HN g1 g3 g4 ?_)
    unfold newFields
    refine wpAny_bind (wpAny_newObj_type ?_)
    have gI:(s.heap.push ({cls:= .type "set_iterator",data:= .fields #[rawInt 0,rawInt 0, .ref a,rawInt es.size,rawInt ep]}:Obj)).get? s.heap.objs.size=some {cls:= .type "set_iterator",data:= .fields #[rawInt 0,rawInt 0, .ref a,rawInt es.size,rawInt ep]}:=fP _ rfl
    have gS:=bQ ({cls:= .type "set_iterator",data:= .fields #[rawInt 0,rawInt 0, .ref a,rawInt es.size,rawInt ep]}:Obj) g1
    have hfp:∀b∈[s.heap.objs.size,a],b=a\/s.heap.objs.size<=b:=fun b m=>by
      rcases aG.mp m with e|m
      · exact .inr (mz e.symm)
      · exact .inl (aP.mp m)
    have hsz:(s.heap.push ({cls:= .type "set_iterator",data:= .fields #[rawInt 0,rawInt 0, .ref a,rawInt es.size,rawInt ep]}:Obj)).objs.size=s.heap.objs.size+1:=j6 ..
    have Ib:∀b∈[s.heap.objs.size,a],b<(s.heap.push ({cls:= .type "set_iterator",data:= .fields #[rawInt 0,rawInt 0, .ref a,rawInt es.size,rawInt ep]}:Obj)).objs.size:=fun b m=>by
      rw[hsz]
      rcases aG.mp m with e|m
      · rw[e];exact nu _
      · rw[aP.mp m];exact lZ hlt
    refine wpAny_pure ⟨_,rfl,"set_iterator",_,⟨_,gI,rfl⟩,i6.lookup,?_⟩
    cases bt:fk w with
    | true =>
      have pp:(pickOrder (w.params.setOrder a ep) es).toList.Perm es.toList:=by simpa[pickOrder] using AG (w.params.setOrder a ep) es.size 0 es.toList #[] (by simp)
      have hn:((pickOrder (w.params.setOrder a ep) es).toList.map (·.2)).length=es.size:=by rw[ak,pp.length_eq];simp
      refine hQ _ _ s.drawn ((pickOrder (w.params.setOrder a ep) es).toList.map (·.2)) [s.heap.objs.size,a] _ (fun b o e=>bQ _ e) (aF _) hfp (by simp) Ib (pp.map _) (fun B hB=>by rw[hn];exact SN hB bt g3 g4 (cW hlt)) ?_
      exact⟨⟨_,gI,rfl,rfl⟩,gS⟩
    | false =>
      have pl:t.plain=true\/es.size<=1:=by
        rw[bt,Bool.not_false,Cg] at c
        cases hp:t.plain with
        |true=>exact .inl rfl
        | false =>
          rw[hp,Bool.not_false,Cg,decide_eq_true_eq] at c
          exact .inr (by omega)
      have hn:(es.toList.map (·.2)).length=es.size:=by simp
      refine hQ _ _ s.drawn (es.toList.map (·.2)) [s.heap.objs.size,a] _ (fun b o e=>bQ _ e) (aF _) hfp (by simp) Ib (.refl _) (fun B hB=>by rw[hn];exact Q8 hB bt g3 g4 tk pl (cW hlt)) ?_
      exact⟨⟨_,gI,rfl,rfl⟩,gS⟩
end
end L2
set_option maxRecDepth 100000
set_option maxHeartbeats 4000000
namespace L2
open PySem PySem.Spec PyProof.Rows
section
variable{prog:Program}{w:World}{A:Around}{E:Value->Shared->Prop}{s:Shared}{a:Addr}{o:Obj}{es:Array (Int×Value)}{ep:Nat}{t:SetTable}
theorem Lw{Q:Bool->Shared->Prop}(hT:s.TypeIs (.ref a) "set")(h:Q false s):wpAny (model prog w) A (Builtin.List.listLengthHint (.ref a)) Q E s:=by
 unfold Builtin.List.listLengthHint
 refine wpAny_bind (wpAny_specialOf hT PySem.F.slot_set_len.lookup ?_)
 generalize hid:("set.__len__":String)=id0
 wp_delta
 rw[show splitId id0=some ("set","__len__") from by subst hid;decide+kernel]
 subst hid
 refine wpAny_bind (wpAny_isInstance (b:=true) (T:="set") hT (by rw[isSubtype_type];kernel_rfl) ?_)
 refine wpAny_ite_split (fun z=>absurd z (by decide)) fun _=>wpAny_ite_split (fun _=>?_) fun z=>absurd (by decide+kernel) z
 exact wpAny_bind (wpAny_typeOf hT (wpAny_pure h))
theorem UB{items:List Value}{acc:Array Value}(h:ItemsOf (fun i v=>items[i]?=some v) acc items.length):acc.toList=items:=by
 apply jX
 intro i
 by_cases hi:i<acc.size
 ·have e:acc[i]?=some acc[i]:=j5 hi
  rw[jC,e,h.2 i _ e]
 ·have:=h.1
  rw[gM (by simp;omega),gM (by omega)]
theorem Lf{Q:List Value->Shared->Prop}(hh:A.handled=none)(hb:es.size<scanBound)(g1:s.heap.get? a=some o)(g2:o.ExactSet)(g3:o.data= .set es ep t)(g4:t.fits es.size=true)(tk:dM (fk w) t)
  (hQ:∀h' d' tk' items,(∀b o,s.heap.get? b=some o->h'.get? b=some o)->s.heap.objs.size<=h'.objs.size->items.Perm (es.toList.map (·.2))->Q items {s with heap:=h',drawn:=d',toks:=tk'}):wpAny (model prog w) A (collect (.ref a)) Q E s:=by
 have hlt:=bw g1
 unfold collect
 refine wpAny_bind (wpAny_runValue (codeAny_builtin Ec ?_))
 rw[nK Gj _]
 show wpAny _ A.in1 (newList []>>=fun l=>again (.builtin "list.__iadd__" ⟨[l, .ref a],[]⟩)) _ _ s
 refine wpAny_bind (wpAny_newObj_type ?_)
 refine wpAny_pure ⟨plainId_quiet uX _,codeAny_builtin Dm ?_⟩
 rw[nK uX _]
 have gL:(s.heap.push ({cls:= .type "list",data:= .seq ([]:List Value).toArray}:Obj)).get? s.heap.objs.size=some {cls:= .type "list",data:= .seq ([]:List Value).toArray}:=fP _ rfl
 have gA:=bQ ({cls:= .type "list",data:= .seq ([]:List Value).toArray}:Obj) g1
 have FH:(s.heap.push ({cls:= .type "list",data:= .seq ([]:List Value).toArray}:Obj)).objs.size=s.heap.objs.size+1:=j6 ..
 show wpAny _ A.in1 (Builtin.List.listExtendWith (.ref s.heap.objs.size) (.ref a) (.ref s.heap.objs.size)) _ _ {s with heap:=s.heap.push ({cls:= .type "list",data:= .seq ([]:List Value).toArray}:Obj)}
 have hkeep:∀b o,s.heap.get? b=some o->(s.heap.push ({cls:= .type "list",data:= .seq ([]:List Value).toArray}:Obj)).get? b=some o:=fun b o e=>bQ _ e
 generalize s.heap.push ({cls:= .type "list",data:= .seq ([]:List Value).toArray}:Obj)=h1 at gL gA FH hkeep⊢
 unfold Builtin.List.listExtendWith
 refine wpAny_bind (wpAny_typeOf (T:="set") ⟨o,gA,g2.1⟩ ?_)
 have n1:Builtin.List.listSameRef (.ref s.heap.objs.size) (.ref a)=false:=by
  show(s.heap.objs.size==a)=false
  exact beq_eq_false_iff_ne.mpr (pN hlt)
 have n2:(Value.type "set"==Value.type "list")=false:=by decide
 have n3:(Value.type "set"==Value.type "tuple")=false:=by decide
 simp only[n1,n2,n3,m5,ku,if_false]
 refine wpAny_bind (Pe (s:={s with heap:=h1}) hb gA g2 g3 g4 tk fun I h2 d' items fp St k1 k2 k3 k4 k5 pp W st=>?_)
 have LB:=k1 _ _ gA
 have zN:=k1 _ _ gL
 refine wpAny_bind (wpAny_holding (Lw (s:={s with heap:=h2,drawn:=d'}) ⟨o,LB,g2.1⟩ ?_))
 have lS:s.heap.objs.size<h1.objs.size:=CD (nu _) FH.symm
 have nS:s.heap.objs.size∉fp:=fun m=>by
  rcases k3 _ m with e|e
  ·exact absurd e (pN hlt)
  ·exact absurd (eE lS e) (iR _)
 have hil:items.length<=sizeLine:=by
  rw[pp.length_eq,ak,cU];exact fits_of_scanBound hb
 have key:∀(h3:Heap) (c:Nat),St 0 h3->(∀b o,b≠s.heap.objs.size->h2.get? b=some o->h3.get? b=some o)->h3.get? s.heap.objs.size=some {cls:= .type "list",data:= .seq #[] c}->
   codeAny (model prog w) A (.builtin "list.extend.loop" ⟨[.ref s.heap.objs.size, .ref I, .ref s.heap.objs.size],[]⟩) (fun r s'=>match r with
    | .ok (.ret v)=>wpAny (model prog w) A (match v with| .ref x=>(do match(<-load x).data with| .seq xs _=>pure xs.toList|_=>unsupported "internal:collect")|_=>unsupported "internal:collect") Q E s'
    | .ok _=>False
    | .error e=>E e s') {s with heap:=h3,drawn:=d'}:=by
  intro h3 c st3 q1 q2
  refine codeAny_extend_loopS ((W A.in1 hh).toS) hil _ nS _ items.length 0 _ #[] c rfl (fG _) st3 q2 (ItemsOf.nil _) fun s' acc c' mo q3 q4=>?_
  refine wpAny_bind (wpAny_load q3 (wpAny_pure ?_))
  rw[UB q4,Moved.eq_with mo]
  refine hQ s'.heap d' s'.toks items (fun b o e=>?_) ?_ pp
  ·have nb:b≠s.heap.objs.size:=cW (bw e)
   refine mo.heap b o (fun m=>?_) (q1 b o nb (k1 b o (hkeep b o e)))
   rcases aG.mp m with z|z
   ·exact nb z
   ·have z:=aP.mp z
    rw[z] at e
    exact absurd (eE (qD (bw e) lS) k2) (iR _)
  ·exact jP (bw q3)
 refine wpAny_ite_split (fun _=>?_) fun _=>wpAny_pure ⟨plainId_quiet II _,key h2 _ st (fun _ _ _ e=>e) zN⟩
 refine wpAny_bind (wpAny_rule (wpAny_bind ?_))
 show wpAny _ A.in1 (updateSeq s.heap.objs.size (·.push .none)>>=fun _=>updateSeq s.heap.objs.size (·.pop)) _ _ _
 have u1:=uO (Obj.mapSeq (·.push Value.none)) zN rfl
 have u2:=uO (Obj.mapSeq (·.pop)) u1 rfl
 refine wpAny_bind (wpAny_updateSeq zN rfl (wpAny_updateSeq (hz:=by seq_fits) u1 rfl ?_))
 have Ju:∀b o,b≠s.heap.objs.size->h2.get? b=some o->((h2.update s.heap.objs.size (Obj.mapSeq (·.push Value.none))).update s.heap.objs.size (Obj.mapSeq (·.pop))).get? b=some o:=fun b o nb e=>(kh _ _ (bJ nb)).trans ((kh _ _ (bJ nb)).trans e)
 exact wpAny_pure ⟨plainId_quiet II _,key _ _ ((W A.in1 hh).frame 0 _ _ st fun b m o e=>Ju b o (fun z=>nS (z▸m)) e) Ju u2⟩
theorem Ex{ks:List Int->Prop}:∀{vs:List Value},(∀v∈vs,∃k t,v= .int k t)->∃ns,IntsAre vs ns
  |[],_=>⟨[], .nil⟩
  | v :: vs, h => by
    obtain⟨k,t,rfl⟩:=h v (bV ..)
    obtain⟨ns,hn⟩:=Ex (ks:=ks) fun v m=>h v (cH _ m)
    exact⟨k::ns, .cons k t hn⟩
theorem HW:∀{vs:List Value} {ns:List Int},IntsAre vs ns->∀k,k∈ns↔∃t, .int k t∈vs
  |_,_, .nil,k=>by simp
  | _, _, .cons j t h, k => by
    rw[aG,HW h k]
    constructor
    · rintro(rfl|⟨t',m⟩)
      · exact⟨_,bV ..⟩
      · exact⟨t',cH _ m⟩
    · rintro⟨t',m⟩
      rcases aG.mp m with e|m
      · cases e;exact .inl rfl
      · exact .inr ⟨t',m⟩
theorem Li{S:Int->Bool}{n:Nat}{Q:Value->Shared->Prop}(hh:A.handled=none)(hS:s.heap.SetOf (IK prog w) a S n)(hT:fT (fk w) s.heap a)(h64:n<64)
  (h : ∀ h' d' tk' (l : Addr) (out : List Value) (ns : List Int) (e : Nat), (∀ b o, s.heap.get? b = some o -> h'.get? b = some o) -> s.heap.objs.size <= l -> h'.get? l = some (seqObj "list" out.toArray e) -> IntsAre out ns -> ns.Pairwise (· <= ·) -> (∀ k, S k = true ↔ k ∈ ns) -> ns.length = n ->
   Q (.ref l) {s with heap:=h',drawn:=d',toks:=tk'}):wpAny (model prog w) A (call (.builtin "sorted") [.ref a]) Q E s:=by
 obtain⟨o,es,ep,t,g1,g2,g3,l1,l2,l3,l4,sz⟩:=hS
 refine Gb kind_sorted plain_sorted entry_sorted (args_sorted1 _) ?_
 unfold Builtin.«sorted»
 refine wpAny_bind (m:=checkCount "sorted" 1 1 _) (wpAny_pure (wpAny_bind ?_))
 refine Lf (A:=A.in1) hh l3 g1 g2 g3 l4 (hT o es ep t g1 g3) fun h1 d1 zd items k1 k2 pp=>?_
 have hint:∀v∈items,∃k t,v= .int k t:=fun v m=>by
  obtain⟨e,m',rfl⟩:=cZ.mp (pp.mem_iff.mp m)
  obtain⟨⟨k,hk,_⟩,_⟩:=l1 e m'
  obtain⟨t,ht⟩:=vh hk
  exact⟨k,t,ht⟩
 obtain⟨ns,hI⟩:=Ex (ks:=fun _=>True) hint
 have hlen:items.length=n:=by rw[pp.length_eq,ak,cU,sz]
 refine wpAny_bind (wpAny_newList ?_)
 have gL:(h1.push (seqObj "list" items.toArray 0)).get? h1.objs.size=some (seqObj "list" items.toArray 0):=fP _ rfl
 refine wpAny_bind (wpAny_holding (wpAny_call_entry slot_list_sort ⟨_,gL,rfl⟩ entry_list_sort (list_sort_tree gL hI (by omega) fun out ns' a1 a2 a3=>⟨_,rfl,?_⟩) (args_list_sort _)))
 obtain⟨e,he⟩:=sortedHeap_at (out:=out) gL
 refine wpAny_pure ⟨_,rfl,h _ d1 zd h1.objs.size out.toList ns' e (fun b o q=>?_) k2 (by simpa using he) a1 a3 (fun k=>?_) ?_⟩
 ·have lb:=bw (k1 b o q)
  rw[sortedHeap_old (cW lb) (by rw[j6];exact lZ lb)]
  exact bQ _ (k1 b o q)
 ·rw[a2.mem_iff,HW hI,l2 k]
  constructor
  ·rintro⟨e,m,q⟩
   obtain⟨t,ht⟩:=vh q
   exact⟨t,pp.mem_iff.mpr (ht▸cZ.mpr ⟨e,m,rfl⟩)⟩
  ·rintro⟨t,m⟩
   obtain⟨e,m',q⟩:=cZ.mp (pp.mem_iff.mp m)
   exact⟨e,m',by rw[q];exact intKind_is _ _ _ _⟩
 ·rw[a2.length_eq,<-hI.length,hlen]
end
end L2
set_option maxRecDepth 100000
set_option maxHeartbeats 4000000
namespace L2
open PySem PySem.Spec PyProof.Rows
def sE(P:Program)(w:World)(a:Addr)(S:Int->Bool)(n:Nat):HO:= .ext fun h=>h.SetOf (IK P w) a S n/\fT (fk w) h a
theorem Inv.dr{X:Cx}{pins:List (Addr×Obj)}{σ:St}{H:Hp}{s:Shared}(I:Inv X pins σ H s)(d:Drawn):Inv X pins σ H {s with drawn:=d}:=
 ⟨I.ok,I.os,I.bare,I.base,I.loc,I.cell,I.free,I.jU,I.pin,I.hok,I.len⟩
theorem w6:∀{ns:List Int} {us:List Value},Vals (ns.map V.int) us->IntsAre us ns
  |[],_, .nil=> .nil
  | n :: ns, _, .cons r t => by
    obtain⟨k,rfl⟩:=r
    exact .cons n k (w6 t)
theorem xO:∀{us:List Value} {ns:List Int},IntsAre us ns->Vals (ns.map V.int) us
 |_,_, .nil=> .nil
 |_,_, .cons k t h=> .cons ⟨t,rfl⟩ (xO h)
theorem Nl{σ:List Int}{k:Int}(h:σ.Nodup):(step_dedup σ k).Nodup:=by
 unfold step_dedup
 split
 ·exact h
 ·rename_i q
  rw[ue]
  refine⟨h,by simp,fun x hx y hy=>?_⟩
  rw[aP.mp hy]
  intro e
  subst e
  exact q (by simp[hx])
theorem Ep(val:Nat->Int):∀i,(firstMet val i).Nodup
 |0=>List.nodup_nil
 |i+1=>by rw[firstMet_succ];exact Nl (Ep val i)
theorem ET:∀{ds ns:List Int},ds.Nodup->(∀k∈ds,k∈ns)->ns.length<=ds.length->ds.Perm ns
  | [], ns, _, _, hl => by
    have:ns=[]:=qc.mp (by simpa using hl)
    rw[this]
  | d :: ds, ns, hd, hs, hl => by
    have hm:=hs d (bV ..)
    obtain⟨h1,h2⟩:=jD.mp hd
    have hp:=List.perm_cons_erase hm
    refine(List.Perm.cons d (ET h2 (fun k hk=>?_) ?_)).trans hp.symm
    · rcases aG.mp (hp.mem_iff.mp (hs k (cH _ hk))) with e|e
      · subst e;exact absurd hk h1
      · exact e
    · have:=hp.length_eq;simp at this hl⊢;omega
def xq(P:Program)(w:World)(K:PySem.W.Frag):List V->Hp->VK->Prop:=fun xs H Q=>∃p,∃ns:List Int,xs=[.ref p]/\aS K H p (ns.map V.int)/\ns.length<=4000/\∀a (ms:List Int),H a=none->ms.Nodup->(∀k,k∈ms↔k∈ns)->Q (.ref a) (upd H a (sE P w a (fun k=>ms.any (· ==k)) ms.length))
def zG(P:Program)(w:World):List V->Hp->VK->Prop:=fun xs H Q=>∃a,∃ms:List Int,xs=[.ref a]/\H a=some (sE P w a (fun k=>ms.any (· ==k)) ms.length)/\ms.Nodup/\ms.length<64/\
 ∀l (rs:List Int),H l=none->rs.Pairwise (· < ·)->(∀k,k∈rs↔k∈ms)->Q (.ref l) (upd H l (.lst (rs.map V.int)))
section
variable{X:Cx}
theorem QD(hc:X.calm=true):fW X (.type "set") (xq X.prog X.w X.K):=by
 intro pins s σ H xs us Q I rv h
 obtain⟨p,ns,rfl,hp,hn,q⟩:=h
 obtain⟨u,rfl,ru⟩:=vals1 rv
 cases ru
 obtain⟨its,rs,il,hz⟩:=I.list hp
 have hI:=w6 rs
 have hlen:=hI.length
 refine Pf (I.ok.hd hc) il.isList (by simpa using hI) (by rw[dg];unfold scanBound;omega) fun h' tk q1 q2 q3=>?_
 have hmem:∀k,k∈firstMet (fun i=>ns.getD i 0) its.toArray.size↔k∈ns:=fun k=>by
  have e:=firstMet_any (fun i=>ns.getD i 0) its.toArray.size k
  have e2:(List.range its.toArray.size).map (fun i=>ns.getD i 0)=ns:=by
   rw[dg,hlen]
   apply List.ext_getElem
   ·simp
   ·intro i h1 h2
    simp[dW,aI h2]
  rw[e2] at e
  have a1:∀(l:List Int),(l.any (· ==k))=true↔k∈l:=fun l=>by
   rw[sP]
   exact⟨fun⟨x,m,z⟩=>(beq_iff_eq.mp z)▸m,fun m=>⟨k,m,beq_self_eq_true _⟩⟩
  rw[<-a1,<-a1,e]
 have kp:∀b u,s.heap.get? b=some u->h'.get? b=some u:=fun b u e=>q3 b u (bw e) e
 have new:cA X.prog X.w (upd H s.heap.objs.size (sE X.prog X.w s.heap.objs.size (fun k=>(firstMet (fun i=>ns.getD i 0) its.toArray.size).any (· ==k)) (firstMet (fun i=>ns.getD i 0) its.toArray.size).length)) h' s.heap.objs.size (sE X.prog X.w s.heap.objs.size (fun k=>(firstMet (fun i=>ns.getD i 0) its.toArray.size).any (· ==k)) (firstMet (fun i=>ns.getD i 0) its.toArray.size).length):=by
  refine⟨⟨q1,q2⟩,?_,fun h1 h2 z k=>?_⟩
  ·obtain⟨o,_,_,_,ho,_⟩:=q1;exact⟨o,ho⟩
  ·obtain⟨⟨o,es,ep,t,ho,r⟩,tt⟩:=z
   exact⟨⟨o,es,ep,t,k o ho,r⟩,tt.keep ho (k o ho)⟩
 exact⟨.ref s.heap.objs.size,_,I.laid (t':=tk) kp (aF _) new,rfl,q _ _ (I.hok.fresh (aF _)) (Ep _ _) hmem⟩
theorem MI(hc:X.calm=true):fW X (.builtin "sorted") (zG X.prog X.w):=by
 intro pins s σ H xs us Q I rv h
 obtain⟨a,ms,rfl,hH,nd,h64,q⟩:=h
 obtain⟨u,rfl,ru⟩:=vals1 rv
 cases ru
 obtain⟨⟨q1,q2⟩,_,_⟩:=I.hok a _ hH
 refine Li (I.ok.hd hc) q1 q2 h64 fun h' d' tk' l out ns e kp hl gl hI pw hm hn=>?_
 have a1:∀k,(ms.any (· ==k))=true↔k∈ms:=fun k=>by
  rw[sP]
  exact⟨fun⟨x,m,z⟩=>(beq_iff_eq.mp z)▸m,fun m=>⟨k,m,beq_self_eq_true _⟩⟩
 have hm':∀k,k∈ns↔k∈ms:=fun k=>by rw[<-hm k,a1]
 have pp:=ET nd (fun k m=>(hm' k).mpr m) (mz hn)
 have UY:ns.Nodup:=pp.nodup_iff.mp nd
 have lt:ns.Pairwise (· < ·):=by
  have:=pw.and UY
  exact this.imp fun⟨x,y⟩=>by omega
 have new:cA X.prog X.w (upd H l (.lst (ns.map V.int))) h' l (.lst (ns.map V.int)):=by
  refine⟨?_,out,e,xO hI,gl⟩
  rw[ak,hn];exact fq (jP h64) (by decide)
 exact⟨.ref l,_,(I.laid (t':=tk') kp hl new).dr d',rfl,q _ _ (I.hok.fresh hl) lt hm'⟩
end
theorem aB.Rv{G:Gx}{ρ:Rh}{te:TE}{P:Program}{w:World}{K:PySem.W.Frag}{Θ:Bool->List PyData->Prop}(h:Ev G ρ te fun _ x=>∃ns:List Int,x= .list (ns.map .int)/\ns.length<64/\∀rs:List Int,rs.Pairwise (· < ·)->(∀k,k∈rs↔k∈ns)->Θ true (rs.map .int)):
  aB G ρ (fJ (zG P w) (bC (fJ (xq P w K) (bC te cz)) cz)) Θ:=fun nb σ H Q W z=>
 h nb σ H _ W fun f v H1 x ⟨ns,ex,hn,q⟩ s1 hv=>by
  subst ex
  obtain⟨a,xs,rfl,na,hx,hd⟩:=hv.dU
  have e:=sQ hd
  subst e
  refine⟨a,ns,rfl, .of hx,by omega,fun b ms hb nd hm=>?_⟩
  have hms:ms.length<=ns.length:=HG nd fun k m=>(hm k).mp m
  refine⟨b,ms,rfl,bh,nd,by omega,fun l rs hl lt hm'=>?_⟩
  have s2:Step G.B H1 (upd H1 b (sE P w b (fun k=>ms.any (· ==k)) ms.length)):= .same s1.2 (cP hb)
  exact aB.fin (f:=true) W (s1.trans s2) hl (AO rs) (q rs lt fun k=>(hm' k).trans (hm k)) z
theorem BY{ms:List Int}{m:Int}(nd:ms.Nodup)(h:∀k∈ms,0<=k/\k<m):ms.length<=m.toNat:=by
 have:=HG nd (l₂:=(List.range m.toNat).map fun(i:Nat)=>(i:Int)) fun k hk=>by
  have:=h k hk
  exact cZ.mpr ⟨k.toNat,pQ.mpr (by omega),by omega⟩
 rwa[ak,pR] at this
end L2
set_option maxRecDepth 100000
set_option maxHeartbeats 4000000
namespace L2
open PySem PySem.Spec PyProof.Rows
def lz:Bool->Keyed->Array Keyed->Nat->Nat->Nat->StateT SortSt Sem (Option Nat):=sortPriv%PySem.Builtin.gallop
def AY:Array Keyed->Array Keyed->StateT SortSt Sem (Array Keyed):=sortPriv%PySem.Builtin.mergeLo
def BQ:Array Keyed->Array Keyed->StateT SortSt Sem (Array Keyed):=sortPriv%PySem.Builtin.mergeHi
def nO:Nat->StateT SortSt Sem Unit:=sortPriv%PySem.Builtin.setMinGallop
def nq(left:Bool)(key:Keyed)(arr:Array Keyed)(base:Nat)(i:Nat):StateT SortSt Sem (Option Bool):=do
 let x<-elem' arr (base+i)
 if left then lt' x key else return (<-lt' key x).map (!·)
theorem KJ(left:Bool)(key:Keyed)(arr:Array Keyed)(base n hint:Nat):lz left key arr base n hint=(do
 let mut vM:=0
 let mut ji:=1
 let mut lo:=0
 let mut hi:=0
 let some right<-nq left key arr base hint|return none
 if right then
  let qm:=n-hint
  for _ in[0:n] do
   if ji≥qm then break
   let some more<-nq left key arr base (hint+ji)|return none
   if !more then break
   vM:=ji
   ji:=2*ji+1
  lo:=hint+vM+1
  hi:=hint+min ji qm
 else
  let qm:=hint+1
  for _ in[0:n] do
   if ji≥qm then break
   let some found<-nq left key arr base (hint-ji)|return none
   if found then break
   vM:=ji
   ji:=2*ji+1
  lo:=hint+1-min ji qm
  hi:=hint-vM
 for _ in[0:n] do
  if lo≥hi then break
  let m:=lo+(hi-lo)/2
  let some more<-nq left key arr base m|return none
  if more then lo:=m+1 else hi:=m
 return some hi):=rfl
theorem UI(g:Nat):nO g=modify fun s=>SortSt.mk' (kindOf s) (arrOf s) (pendingOf s) g (failedOf s):=rfl
theorem Ry(a b:Array Keyed):AY a b=(do
 rule "list.sort.merge-lo"
 let total:=a.size+b.size
 let done (out:Array Keyed) (ia ib:Nat):=out++a.extract ia a.size++b.extract ib b.size
 let vS (out:Array Keyed) (ia ib:Nat):=out++b.extract ib b.size++a.extract ia a.size
 let mut out:Array Keyed:= #[<-elem' b 0]
 let mut ia:=0
 let mut ib:=1
 if ib==b.size then return done out ia ib
 if ia+1==a.size then return vS out ia ib
 let mut minGallop:=gallopOf (<-get)
 for _ in[0:total] do
  let mut iT:=0
  let mut iQ:=0
  for _ in[0:total] do
   let some bWins<-lt' (<-elem' b ib) (<-elem' a ia)|return done out ia ib
   if bWins then
    out:=out.push (<-elem' b ib);ib:=ib+1;iQ:=iQ+1;iT:=0
    if ib==b.size then return done out ia ib
    if iQ≥minGallop then break
   else
    out:=out.push (<-elem' a ia);ia:=ia+1;iT:=iT+1;iQ:=0
    if ia+1==a.size then return vS out ia ib
    if iT≥minGallop then break
  rule "list.sort.gallop"
  minGallop:=minGallop+1
  for _ in[0:total] do
   if minGallop>1 then minGallop:=minGallop-1
   nO minGallop
   let some k<-lz false (<-elem' b ib) a ia (a.size-ia) 0|return done out ia ib
   iT:=k
   if k>0 then
    out:=out++a.extract ia (ia+k);ia:=ia+k
    if ia+1==a.size then return vS out ia ib
    if ia==a.size then return done out ia ib
   out:=out.push (<-elem' b ib);ib:=ib+1
   if ib==b.size then return done out ia ib
   let some k<-lz true (<-elem' a ia) b ib (b.size-ib) 0|return done out ia ib
   iQ:=k
   if k>0 then
    out:=out++b.extract ib (ib+k);ib:=ib+k
    if ib==b.size then return done out ia ib
   out:=out.push (<-elem' a ia);ia:=ia+1
   if ia+1==a.size then return vS out ia ib
   if iT<7 && iQ<7 then break
  minGallop:=minGallop+1
  nO minGallop
 unsupported "internal:list.sort.merge-bound"):=rfl
def kG(x:Keyed):Prop:=∃n t,x.1= .int n t
def dI(xs:Array Keyed):Prop:=∀(i:Nat) (x:Keyed),xs[i]?=some x->kG x
section
variable{prog:Program}{w:World}{A:Around}{E:Value->Shared->Prop}{s:Shared}{st:SortSt}
theorem lK{arr:Array Keyed}{i:Nat}{Q:Keyed->SortSt->Prop}(hi:i<arr.size)(h:Q arr[i] st):wpS (model prog w) A E s (elem' arr i) Q st:=by
 rw[elem'_eq,getElem?_pos arr i hi]
 exact wpS_pure h
theorem dI.at{arr:Array Keyed}(h:dI arr){i:Nat}(hi:i<arr.size):kG arr[i]:=h i _ (getElem?_pos arr i hi)
def eT(st st':SortSt):Prop:=kindOf st'=kindOf st/\arrOf st'=arrOf st/\pendingOf st'=pendingOf st/\failedOf st'=failedOf st
theorem eT.trans{s1 s2 s3:SortSt}(h:eT s1 s2)(g:eT s2 s3):eT s1 s3:=⟨g.1.trans h.1,g.2.1.trans h.2.1,g.2.2.1.trans h.2.2.1,g.2.2.2.trans h.2.2.2⟩
theorem eT.refl(s1:SortSt):eT s1 s1:=⟨rfl,rfl,rfl,rfl⟩
def Mg(a b:Array Keyed)(i j:Nat)(out:Array Keyed):Prop:=out.toList.Perm (a.toList.take i++b.toList.take j)
theorem BK{l:List Keyed}{i:Nat}(h:i<l.length):l.take (i+1)=l.take i++[l[i]]:=by rw[List.take_succ,aI h];rfl
theorem Mg.jl{a b:Array Keyed}{i j:Nat}{out:Array Keyed}(h:Mg a b i j out)(hj:j<b.size):Mg a b i (j+1) (out.push b[j]):=by
 unfold Mg at*
 rw[jK,BK (l:=b.toList) (by simpa using hj),<-eV]
 exact h.append (by simp)
theorem Mg.jd{a b:Array Keyed}{i j:Nat}{out:Array Keyed}(h:Mg a b i j out)(hi:i<a.size):Mg a b (i+1) j (out.push a[i]):=by
 unfold Mg at*
 rw[jK,BK (l:=a.toList) (by simpa using hi),eV]
 refine(h.append (xB [a[i]])).trans ?_
 rw[eV]
 refine kH _ ?_
 simpa using kT
theorem ju(a:Array Keyed)(i j:Nat):(a.extract i j).toList=(a.toList.take j).drop i:=by
 rw[Array.toList_extract,List.extract_eq_take_drop,List.drop_take]
theorem Mg.l7{a b:Array Keyed}{i j k:Nat}{out:Array Keyed}(h:Mg a b i j out):Mg a b (i+k) j (out++a.extract i (i+k)):=by
 unfold Mg at*
 rw[gV,ju]
 have e:a.toList.take (i+k)=a.toList.take i++(a.toList.take (i+k)).drop i:=by
  have:=(kL i (a.toList.take (i+k))).symm
  rwa[List.take_take,Ad (by omega)] at this
 generalize (a.toList.take (i+k)).drop i=z at e⊢
 rw[e]
 refine(h.append_right z).trans ?_
 rw[eV,eV]
 exact kH _ kT
theorem Mg.lQ{a b:Array Keyed}{i j k:Nat}{out:Array Keyed}(h:Mg a b i j out):Mg a b i (j+k) (out++b.extract j (j+k)):=by
 unfold Mg at*
 rw[gV,ju]
 have e:b.toList.take (j+k)=b.toList.take j++(b.toList.take (j+k)).drop j:=by
  have:=(kL j (b.toList.take (j+k))).symm
  rwa[List.take_take,Ad (by omega)] at this
 generalize (b.toList.take (j+k)).drop j=z at e⊢
 rw[e,<-eV]
 exact h.append_right _
theorem JE(a:Array Keyed)(i:Nat):(a.extract i a.size).toList=a.toList.drop i:=by
 rw[ju,nQ (by simp)]
theorem Mg.done{a b:Array Keyed}{i j:Nat}{out:Array Keyed}(h:Mg a b i j out):(out++a.extract i a.size++b.extract j b.size).toList.Perm (a.toList++b.toList):=by
 unfold Mg at h
 rw[gV,gV,JE,JE]
 have ea:=(kL i a.toList).symm
 have eb:=(kL j b.toList).symm
 rw[show a.toList++b.toList=(a.toList.take i++a.toList.drop i)++(b.toList.take j++b.toList.drop j) by rw[<-ea,<-eb]]
 refine((h.append_right _).append_right _).trans ?_
 simp only[eV]
 refine kH _ ?_
 rw[<-eV,<-eV]
 exact xF _ kT
theorem Mg.last{a b:Array Keyed}{i j:Nat}{out:Array Keyed}(h:Mg a b i j out):(out++b.extract j b.size++a.extract i a.size).toList.Perm (a.toList++b.toList):=by
 refine List.Perm.trans ?_ h.done
 rw[gV,gV,gV,gV,eV,eV]
 exact kH _ kT
theorem Wu{g:Nat}{Q:Unit->SortSt->Prop}(h:∀st',eT st st'->Q () st'):wpS (model prog w) A E s (nO g) Q st:=by
 rw[UI]
 exact wpS_modify (h _ ⟨rfl,rfl,rfl,rfl⟩)
theorem jZ{x y:Nat}{α:Type}{t e:StateT SortSt Sem α}{Q:α->SortSt->Prop}(h1:x=y->wpS (model prog w) A E s t Q st)(h2:x≠y->wpS (model prog w) A E s e Q st):wpS (model prog w) A E s (if(x==y)=true then t else e) Q st:=by
 by_cases c:x=y
 ·rw[if_pos (by simpa using c)];exact h1 c
 ·rw[if_neg (by simpa using c)];exact h2 c
theorem gk{c:Prop}[Decidable c]{α:Type}{t e:StateT SortSt Sem α}{Q:α->SortSt->Prop}(h1:c->wpS (model prog w) A E s t Q st)(h2:¬c->wpS (model prog w) A E s e Q st):wpS (model prog w) A E s (if c then t else e) Q st:=by
 by_cases c:c
 ·rw[if_pos c];exact h1 c
 ·rw[if_neg c];exact h2 c
theorem JF{c:Bool}{α:Type}{t e:StateT SortSt Sem α}{Q:α->SortSt->Prop}(h1:wpS (model prog w) A E s t Q st)(h2:wpS (model prog w) A E s e Q st):wpS (model prog w) A E s (if c=true then t else e) Q st:=by
 cases c
 ·exact h2
 ·exact h1
variable{cY:SortSt}
theorem vj{g:Nat}{α:Type}{f:Unit->StateT SortSt Sem α}{Q:α->SortSt->Prop}(S:eT cY st)(h:∀st',eT cY st'->wpS (model prog w) A E s (f ()) Q st'):wpS (model prog w) A E s (nO g>>=f) Q st:=
 wpS_bind (Wu fun st' z=>h st' (S.trans z))
theorem o5{arr:Array Keyed}{i:Nat}{α:Type}{f:Keyed->StateT SortSt Sem α}{Q:α->SortSt->Prop}(hi:i<arr.size)(h:wpS (model prog w) A E s (f arr[i]) Q st):wpS (model prog w) A E s (elem' arr i>>=f) Q st:=wpS_bind (lK hi h)
end
end L2
set_option maxRecDepth 100000
set_option maxHeartbeats 4000000
namespace L2
open PySem PySem.Spec PyProof.Rows
section
variable{prog:Program}{w:World}{A:Around}{E:Value->Shared->Prop}{s:Shared}{st:SortSt}{cY:SortSt}
theorem Q3(a b:Array Keyed):BQ a b=(do
 rule "list.sort.merge-hi"
 let total:=a.size+b.size
 let done (out:Array Keyed) (na nb:Nat):=a.extract 0 na++b.extract 0 nb++out.reverse
 let uG (out:Array Keyed) (na nb:Nat):=b.extract 0 nb++a.extract 0 na++out.reverse
 let mut na:=a.size-1
 let mut nb:=b.size
 let mut out:Array Keyed:= #[<-elem' a na]
 if na==0 then return done out na nb
 if nb==1 then return uG out na nb
 let mut minGallop:=gallopOf (<-get)
 for _ in[0:total] do
  let mut iT:=0
  let mut iQ:=0
  for _ in[0:total] do
   let some aWins<-lt' (<-elem' b (nb-1)) (<-elem' a (na-1))|return done out na nb
   if aWins then
    na:=na-1;out:=out.push (<-elem' a na);iT:=iT+1;iQ:=0
    if na==0 then return done out na nb
    if iT≥minGallop then break
   else
    nb:=nb-1;out:=out.push (<-elem' b nb);iQ:=iQ+1;iT:=0
    if nb==1 then return uG out na nb
    if iQ≥minGallop then break
  rule "list.sort.gallop"
  minGallop:=minGallop+1
  for _ in[0:total] do
   if minGallop>1 then minGallop:=minGallop-1
   nO minGallop
   let some at_<-lz false (<-elem' b (nb-1)) a 0 na (na-1)|return done out na nb
   let k:=na-at_
   iT:=k
   if k>0 then
    out:=out++(a.extract at_ na).reverse;na:=at_
    if na==0 then return done out na nb
   nb:=nb-1;out:=out.push (<-elem' b nb)
   if nb==1 then return uG out na nb
   let some at_<-lz true (<-elem' a (na-1)) b 0 nb (nb-1)|return done out na nb
   let k:=nb-at_
   iQ:=k
   if k>0 then
    out:=out++(b.extract at_ nb).reverse;nb:=at_
    if nb==1 then return uG out na nb
    if nb==0 then return done out na nb
   na:=na-1;out:=out.push (<-elem' a na)
   if na==0 then return done out na nb
   if iT<7 && iQ<7 then break
  minGallop:=minGallop+1
  nO minGallop
 unsupported "internal:list.sort.merge-bound"):=rfl
def Mh(a b:Array Keyed)(i j:Nat)(out:Array Keyed):Prop:=out.toList.Perm (a.toList.drop i++b.toList.drop j)
theorem Ao{l:List Keyed}{i:Nat}(h:i<l.length):l.drop i=l[i]::l.drop (i+1):=qB h
theorem Mh.jl{a b:Array Keyed}{i j:Nat}{out:Array Keyed}(h:Mh a b i j out)(hj:j-1<b.size)(h1:1<=j):Mh a b i (j-1) (out.push b[j-1]):=by
 unfold Mh at*
 rw[jK,Ao (l:=b.toList) (i:=j-1) (by simpa using hj),show j-1+1=j by omega]
 refine(h.append_right _).trans ?_
 rw[eV]
 refine kH _ ?_
 simp
theorem Mh.jd{a b:Array Keyed}{i j:Nat}{out:Array Keyed}(h:Mh a b i j out)(hi:i-1<a.size)(h1:1<=i):Mh a b (i-1) j (out.push a[i-1]):=by
 unfold Mh at*
 rw[jK,Ao (l:=a.toList) (i:=i-1) (by simpa using hi),show i-1+1=i by omega]
 refine(h.append_right _).trans ?_
 refine kT.trans ?_
 simp
theorem Mh.Qm{a b:Array Keyed}{i j:Nat}{out:Array Keyed}(h:Mh a b i (j+1) out)(hj:j<b.size):Mh a b i j (out.push b[j]):=Mh.jl (j:=j+1) h hj (by omega)
theorem Mh.NL{a b:Array Keyed}{i j:Nat}{out:Array Keyed}(h:Mh a b (i+1) j out)(hi:i<a.size):Mh a b i j (out.push a[i]):=Mh.jd (i:=i+1) h hi (by omega)
theorem tS{l:List Keyed}{k i:Nat}(h:k<=i):l.drop k=(l.take i).drop k++l.drop i:=by
 have e:=(kL i l).symm
 conv=>lhs;rw[e]
 rw[List.drop_append]
 by_cases hl:k<=(l.take i).length
 ·rw[show k-(l.take i).length=0 by omega];rfl
 ·have:l.length<=k:=by rw[jw] at hl;omega
  rw[Ac (l:=l) (i:=i) (by omega)];simp
theorem Mh.l7{a b:Array Keyed}{i j k:Nat}{out:Array Keyed}(h:Mh a b i j out)(hk:k<=i):Mh a b k j (out++(a.extract k i).reverse):=by
 unfold Mh at*
 rw[gV,Cz,ju,tS (l:=a.toList) hk]
 refine(h.append (Al _)).trans ?_
 refine kT.trans ?_
 rw[eV]
theorem Mh.lQ{a b:Array Keyed}{i j k:Nat}{out:Array Keyed}(h:Mh a b i j out)(hk:k<=j):Mh a b i k (out++(b.extract k j).reverse):=by
 unfold Mh at*
 rw[gV,Cz,ju,tS (l:=b.toList) hk]
 refine(h.append (Al _)).trans ?_
 rw[eV]
 exact kH _ kT
theorem Mh.done{a b:Array Keyed}{i j:Nat}{out:Array Keyed}(h:Mh a b i j out):(a.extract 0 i++b.extract 0 j++out.reverse).toList.Perm (a.toList++b.toList):=by
 unfold Mh at h
 rw[gV,gV,ju,ju,Cz,oJ,oJ]
 have ea:=(kL i a.toList).symm
 have eb:=(kL j b.toList).symm
 rw[show a.toList++b.toList=(a.toList.take i++a.toList.drop i)++(b.toList.take j++b.toList.drop j) by rw[<-ea,<-eb]]
 refine(kH _ ((Al _).trans h)).trans ?_
 simp only[eV]
 refine kH _ ?_
 rw[<-eV,<-eV]
 exact xF _ kT
theorem Mh.first{a b:Array Keyed}{i j:Nat}{out:Array Keyed}(h:Mh a b i j out):(b.extract 0 j++a.extract 0 i++out.reverse).toList.Perm (a.toList++b.toList):=by
 refine List.Perm.trans ?_ h.done
 rw[gV,gV,gV,gV]
 exact xF _ kT
end
end L2
set_option maxRecDepth 100000
set_option maxHeartbeats 4000000
namespace L2
open PySem PySem.Spec PyProof.Rows
theorem JQ(i:Nat):mergeAt' i=(do
 let s<-get
 let (some (sa,na,power),some (sb,nb,_)):=((pendingOf s)[i]?,(pendingOf s)[i+1]?)|unsupported "internal:list.sort.pending"
 set (setPending s (((pendingOf s).setIfInBounds i (sa,na+nb,power)).eraseIdxIfInBounds (i+1)))
 let some k<-lz false (<-elem' (arrOf s) sb) (arrOf s) sa na 0|return false
 let (sa,na):=(sa+k,na-k)
 if na==0 then return true
 let some nb<-lz true (<-elem' (arrOf s) (sa+na-1)) (arrOf s) sb nb (nb-1)|return false
 if nb==0 then return true
 let x:=(arrOf s).extract sa sb
 let y:=(arrOf s).extract sb (sb+nb)
 let merged<-if na<=nb then AY x y else BQ x y
 modify fun s=>setArr s (merged.toList.zipIdx.foldl (fun a (p,j)=>a.setIfInBounds (sa+j) p) (arrOf s))
 return (failedOf (<-get)).isNone):=rfl
def Ch:List (Nat×Nat×Nat)->Nat->Nat->Prop
 |[],x,y=>x=y
 |(s,n,_)::r,x,y=>s=x/\1<=n/\Ch r (x+n) y
theorem Ch.append:∀{l r:List (Nat×Nat×Nat)} {x z:Nat},Ch (l++r) x z↔∃y,Ch l x y/\Ch r y z
  |[],r,x,z=>⟨fun h=>⟨x,rfl,h⟩,fun⟨y,e,h⟩=>by cases e;exact h⟩
  | (s, n, p) :: l, r, x, z => by
    show(s=x/\1<=n/\Ch (l++r) (x+n) z)↔∃y,(s=x/\1<=n/\Ch l (x+n) y)/\Ch r y z
    rw[Ch.append]
    exact⟨fun⟨a,b,y,c,d⟩=>⟨y,⟨a,b,c⟩,d⟩,fun⟨y,⟨a,b,c⟩,d⟩=>⟨a,b,y,c,d⟩⟩
theorem Ch.le:∀{l:List (Nat×Nat×Nat)} {x y:Nat},Ch l x y->x<=y
 |[],x,y,h=>mz h
 |(s,n,p)::l,x,y,⟨a,b,c⟩=>by have:=Ch.le c;omega
theorem Ch.two{l:List (Nat×Nat×Nat)}{lo i:Nat}{sa na pw sb nb lA:Nat}(h:Ch l 0 lo)(e1:l[i]?=some (sa,na,pw))(e2:l[i+1]?=some (sb,nb,lA)):
  sb=sa+na/\1<=na/\1<=nb/\sb+nb<=lo/\Ch ((l.set i (sa,na+nb,pw)).eraseIdx (i+1)) 0 lo:=by
 have hi:i<l.length:=(bW.mp e1).1
 have hi2:i+1<l.length:=(bW.mp e2).1
 have g1:=(bW.mp e1).2
 have g2:=(bW.mp e2).2
 have el:l=l.take i++(sa,na,pw)::(sb,nb,lA)::l.drop (i+2):=by
  have:=(kL i l).symm
  rwa[qB hi,qB hi2,g1,g2] at this
 have hl:(l.take i).length=i:=by rw[jw];omega
 generalize l.take i=A1 at*
 generalize l.drop (i+2)=A2 at*
 subst el
 obtain⟨y,c1,a1,a2,a3,a4,a5⟩:=Ch.append.mp h
 have:=a5.le
 refine⟨by omega,a2,a4,by omega,?_⟩
 have e:((A1++(sa,na,pw)::(sb,nb,lA)::A2).set i (sa,na+nb,pw)).eraseIdx (i+1)=A1++(sa,na+nb,pw)::A2:=by
  rw[HB _ _ (by omega),hl,wM,List.set_cons_zero,GY (by omega),show i+1-A1.length=1 by omega]
  rfl
 rw[e]
 exact Ch.append.mpr ⟨y,c1,a1,by omega,by rwa[<-Nat.add_assoc]⟩
theorem yf(sa:Nat):∀(ms:List Keyed) (k:Nat) (arr:Array Keyed),sa+k+ms.length<=arr.size->
    ((ms.zipIdx k).foldl (fun(a:Array Keyed) (pj:Keyed×Nat)=>a.setIfInBounds (sa+pj.2) pj.1) arr).toList=arr.toList.take (sa+k)++ms++arr.toList.drop (sa+k+ms.length)
  |[],k,arr,h=>by simp
  | m :: ms, k, arr, h => by
    rw[eB] at h
    rw[List.zipIdx_cons,List.foldl_cons,yf sa ms (k+1) _ (by rw[Array.size_setIfInBounds];omega)]
    have hs:(arr.setIfInBounds (sa+k) m).toList=arr.toList.set (sa+k) m:=Dt ..
    show List.take _ ((arr.setIfInBounds (sa+k) m).toList)++ms++List.drop _ ((arr.setIfInBounds (sa+k) m).toList)=_
    rw[hs]
    have h2:sa+k<arr.toList.length:=by simp;omega
    have e1:(arr.toList.set (sa+k) m).take (sa+(k+1))=arr.toList.take (sa+k)++[m]:=by
      rw[show sa+(k+1)=sa+k+1 by omega,List.take_succ,cg h2,List.take_set_of_le (aF _)]
      rfl
    have e2:(arr.toList.set (sa+k) m).drop (sa+(k+1)+ms.length)=arr.toList.drop (sa+k+(ms.length+1)):=by
      rw[List.drop_set_of_lt (by omega),show sa+(k+1)+ms.length=sa+k+(ms.length+1) by omega]
    rw[e1,e2,eB]
    simp
theorem Ob{arr:Array Keyed}{merged:Array Keyed}{sa sb nb:Nat}(h1:sa<=sb)(h2:sb+nb<=arr.size)(hm:merged.toList.Perm ((arr.extract sa sb).toList++(arr.extract sb (sb+nb)).toList)):
  (merged.toList.zipIdx.foldl (fun(a:Array Keyed) (pj:Keyed×Nat)=>a.setIfInBounds (sa+pj.2) pj.1) arr).toList.Perm arr.toList:=by
 have hl:=hm.length_eq
 rw[c7,ju,ju,qv,qv,jw,jw,cU,cU] at hl
 have e:=yf sa merged.toList 0 arr (by rw[cU];omega)
 rw[cU,p7,show sa+merged.size=sb+nb by omega] at e
 rw[e]
 have e2:arr.toList=arr.toList.take sa++((arr.extract sa sb).toList++(arr.extract sb (sb+nb)).toList)++arr.toList.drop (sb+nb):=by
  rw[ju,ju]
  have a1:=tS (l:=arr.toList) (k:=sb) (i:=sb+nb) (by omega)
  have a2:=tS (l:=arr.toList) (k:=sa) (i:=sb) h1
  rw[eV,eV,<-a1,<-a2,kL]
 conv=>rhs;rw[e2]
 exact(kH _ hm).append_right _
structure SI(a₀:Array Keyed)(lo:Nat)(st:SortSt):Prop where
 perm:(arrOf st).toList.Perm a₀.toList
 kind:kindOf st=oneType'
 failed:failedOf st=none
 ch:Ch (pendingOf st).toList 0 lo
theorem dI.perm{a b:Array Keyed}(h:dI a)(p:b.toList.Perm a.toList):dI b:=fun i x e=>by
 have:x∈b.toList:=by rw[u9];exact Ce e
 have:x∈a.toList:=p.mem_iff.mp this
 obtain⟨j,hj⟩:=pI this
 exact h j x (by rw[<-jC];exact hj)
theorem dI.ext{a:Array Keyed}(h:dI a)(i j:Nat):dI (a.extract i j):=fun k x e=>by
 have:x∈(a.extract i j).toList:=by rw[u9];exact Ce e
 rw[ju] at this
 have:x∈a.toList:=wW (List.mem_of_mem_drop this)
 obtain⟨j,hj⟩:=pI this
 exact h j x (by rw[<-jC];exact hj)
theorem SI.size{a₀:Array Keyed}{lo:Nat}{st:SortSt}(h:SI a₀ lo st):(arrOf st).size=a₀.size:=by have:=h.perm.length_eq;simpa using this
section
variable{prog:Program}{w:World}{A:Around}{E:Value->Shared->Prop}{s:Shared}{st:SortSt}{a₀:Array Keyed}{lo:Nat}
theorem Wi{st':SortSt}{Q:PUnit->SortSt->Prop}(h:Q ⟨⟩ st'):wpS (model prog w) A E s (set st':StateT SortSt Sem PUnit) Q st:=by
 unfold wpS;rw[StateT.run_set];exact wpAny_pure ⟨rfl,h⟩
theorem SI.arr{xs:Array Keyed}(hI:SI a₀ lo st)(hp:xs.Perm (arrOf st)):SI a₀ lo (setArr st xs):=⟨(Array.perm_iff_toList_perm.mp hp).trans hI.perm,hI.kind,hI.failed,hI.ch⟩
theorem Ch.pw{f:Nat×Nat×Nat->Nat×Nat×Nat}(hf:∀v,(f v).1=v.1/\(f v).2.1=v.2.1){l:List (Nat×Nat×Nat)}{i x y:Nat}(h:Ch l x y):Ch (l.modify i f) x y:=by
  induction l generalizing i x with
  |nil=>cases i<;>exact h
  | cons v l ih =>
    obtain⟨s,n,p⟩:=v
    obtain⟨a,b,c⟩:=h
    cases i with
    | zero =>
      have:=hf (s,n,p)
      rw[List.modify_zero_cons]
      generalize f (s,n,p)=u at this
      obtain⟨s2,n2,p2⟩:=u
      dsimp only at this
      exact⟨this.1.trans a,by omega,by rw[this.2];exact c⟩
    |succ i=>rw[List.modify_succ_cons];exact⟨a,b,ih c⟩
theorem Pp{c:Prop}[Decidable c]{a:Nat}:(if c then a-1 else a)<=a:=by split<;>omega
end
end L2
set_option maxRecDepth 100000
set_option maxHeartbeats 4000000
namespace L2
open PySem PySem.Spec PyProof.Rows
theorem MV{vs:List Value}{ns:List Int}(hI:IntsAre vs ns){xs:Array Keyed}(hp:xs.toList.Perm (pairsOf vs).toList):
  ∃ns',IntsAre (xs.map (·.2)).toList ns'/\ns'.Perm ns:=by
 have hl:xs.toList.Perm (vs.zip vs):=by rw[<-pairsOf_toList];exact hp
 have hmem:∀p,p∈xs.toList->p.1=p.2/\p.1∈vs:=fun p nL=>mem_zip_self (hl.mem_iff.mp nL)
 refine⟨xs.toList.map (fun p=>numOf p.1),?_,?_⟩
 ·have e:(xs.map (·.2)).toList=xs.toList.map (·.1):=by
   rw[Array.toList_map];exact v5 fun p nL=>(hmem p nL).1.symm
  rw[e]
  have h1:=intsAre_map (xs.toList.map (·.1)) (by
   intro v hv
   obtain⟨p,nL,rfl⟩:=cZ.mp hv
   exact hI.all _ (hmem p nL).2)
  rwa[iz] at h1
 ·have h1:=hl.map (fun p=>numOf p.1)
  have e2:(vs.zip vs).map (fun p=>numOf p.1)=ns:=by
   have:(vs.zip vs).map (fun p=>numOf p.1)=((vs.zip vs).map Prod.fst).map numOf:=by rw[iz];rfl
   rw[this,List.map_fst_zip (aF _),hI.nums]
  rwa[e2] at h1
theorem TL{vs:List Value}{ns:List Int}(hI:IntsAre vs ns):dI (pairsOf vs):=fun i x e=>by
 have:x∈(pairsOf vs).toList:=by rw[u9];exact Ce e
 rw[pairsOf_toList] at this
 exact hI.all _ (mem_zip_self this).2
end L2
set_option maxRecDepth 100000
set_option maxHeartbeats 4000000
set_option maxRecDepth 100000
set_option maxHeartbeats 4000000
namespace L2
open PySem PySem.Spec PyProof.Rows
def kd(x:Keyed):Int:=match x.1 with| .int n _=>n|_=>0
def kz(a:Array Keyed)(i:Nat):Int:=match a[i]? with|some x=>kd x|none=>0
theorem dG{a:Array Keyed}{i:Nat}(h:i<a.size):kz a i=kd a[i]:=by unfold kz;rw[getElem?_pos a i h]
def Ra(a:Array Keyed)(lo hi:Nat):Prop:=∀i j,lo<=i->i<=j->j<hi->kz a i<=kz a j
def bF(left:Bool)(key:Keyed)(v:Int):Prop:=if left=true then v<kd key else v<=kd key
theorem pM{left:Bool}{key:Keyed}{u v:Int}(h:bF left key v)(hu:u<=v):bF left key u:=by
 unfold bF at*
 cases left with
 |true=>rw[if_pos rfl] at*;omega
 |false=>rw[if_neg bq] at*;omega
section
variable{prog:Program}{w:World}{A:Around}{E:Value->Shared->Prop}{s:Shared}{st:SortSt}
theorem vY{x y:Keyed}{Q:Option Bool->SortSt->Prop}(hk:kindOf st=oneType')(hx:kG x)(hy:kG y)(h1:kd x<kd y->Q (some true) st)(h2:kd y<=kd x->Q (some false) st):wpS (model prog w) A E s (lt' x y) Q st:=by
 obtain⟨n,t,e1⟩:=hx
 obtain⟨m,u,e2⟩:=hy
 have d1:kd x=n:=by unfold kd;rw[e1]
 have d2:kd y=m:=by unfold kd;rw[e2]
 rw[lt'_eq]
 refine wpS_bind (wpS_get ?_)
 rw[hk,keyLt'_oneType,e1,e2]
 refine wpS_bind (wpS_lift (wpAny_attempt (oneLt_int ⟨rfl,?_⟩)))
 refine wpS_pure ?_
 by_cases c:n<m
 ·rw[decide_eq_true c];exact h1 (by omega)
 ·rw[decide_eq_false c];exact h2 (by omega)
theorem uo{left:Bool}{key:Keyed}{arr:Array Keyed}{base i:Nat}{Q:Option Bool->SortSt->Prop}(hk:kindOf st=oneType')(hy:kG key)(ha:dI arr)(hi:base+i<arr.size)(h1:bF left key (kz arr (base+i))->Q (some true) st)(h2:¬bF left key (kz arr (base+i))->Q (some false) st):wpS (model prog w) A E s (nq left key arr base i) Q st:=by
  unfold nq
  refine wpS_bind (lK hi ?_)
  rw[dG hi] at h1 h2
  unfold bF at h1 h2
  cases left with
  | true =>
    simp only[if_true] at h1 h2⊢
    exact vY hk (ha.at hi) hy h1 fun z=>h2 (by omega)
  | false =>
    simp only[ku,if_false] at h1 h2⊢
    exact wpS_bind (vY hk hy (ha.at hi) (fun z=>wpS_pure (h2 (by omega))) fun z=>wpS_pure (h1 z))
theorem Du{left:Bool}{key:Keyed}{arr:Array Keyed}{base n lo hi:Nat}{Q:Option (Option Nat)×Nat×Nat->SortSt->Prop}(hk:kindOf st=oneType')(hy:kG key)(ha:dI arr)(hb:base+n<=arr.size)(hR:Ra arr base (base+n))(hn:hi<=n)(hl:lo<=hi)(p1:∀x<lo,bF left key (kz arr (base+x)))(p2:∀x,hi<=x->x<n->¬bF left key (kz arr (base+x)))
    (h:∀l k,k<=n->(∀x<k,bF left key (kz arr (base+x)))->(∀x,k<=x->x<n->¬bF left key (kz arr (base+x)))->Q (none,l,k) st):
    wpS (model prog w) A E s (forIn [0:n] ((none,lo,hi):Option (Option Nat)×Nat×Nat) fun x __s=>
                if __s.snd.fst≥__s.snd.snd then pure (ForInStep.done (none,__s.snd.fst,__s.snd.snd))
                else do
                  let __x<-nq left key arr base (__s.snd.fst+(__s.snd.snd-__s.snd.fst)/2)
                  match __x with
                    | some more =>
                      if more=true then
                        pure (ForInStep.yield (none,__s.snd.fst+(__s.snd.snd-__s.snd.fst)/2+1,__s.snd.snd))
                      else pure (ForInStep.yield (none,__s.snd.fst,__s.snd.fst+(__s.snd.snd-__s.snd.fst)/2))
                    |_=>pure (ForInStep.done (some none,__s.snd.fst,__s.snd.snd))) Q st:=by
  refine wpS_forRange (I:=fun x c st'=>st'=st/\∃l k,c=(none,l,k)/\k<=n/\l<=k/\k-l+x<=n/\(∀y<l,bF left key (kz arr (base+y)))/\∀y,k<=y->y<n->¬bF left key (kz arr (base+y))) ?_ ?_ ⟨rfl,lo,hi,rfl,hn,hl,by omega,p1,p2⟩
  · rintro x c st' _ hx ⟨rfl,l,k,rfl,hkn,hlk,hm,q1,q2⟩
    dsimp only
    by_cases hge:l≥k
    · rw[if_pos hge];exact wpS_pure (h l k hkn (fun y hy=>q1 y (by omega)) q2)
    · rw[if_neg hge]
      obtain⟨m,em⟩:∃m,l+(k-l)/2=m:=⟨_,rfl⟩
      rw[em]
      refine wpS_bind (uo hk hy ha (by omega) (fun b=>?_) fun b=>?_)
      · exact wpS_pure ⟨rfl,_,_,rfl,hkn,by omega,by omega,fun y hy=>pM b (hR _ _ (by omega) (by omega) (by omega)),q2⟩
      · exact wpS_pure ⟨rfl,_,_,rfl,by omega,by omega,by omega,q1,fun y h1 h2 z=>b (pM z (hR _ _ (by omega) (by omega) (by omega)))⟩
  · rintro c st' ⟨rfl,l,k,rfl,hkn,hlk,hm,q1,q2⟩
    exact h l k hkn (fun y hy=>q1 y (by omega)) q2
theorem yC{left:Bool}{key:Keyed}{arr:Array Keyed}{base n hint:Nat}{Q:Option Nat->SortSt->Prop}(hk:kindOf st=oneType')(hy:kG key)(ha:dI arr)(hb:base+n<=arr.size)(hR:Ra arr base (base+n))(hh:hint<n)
  (h:∀k,k<=n->(∀x<k,bF left key (kz arr (base+x)))->(∀x,k<=x->x<n->¬bF left key (kz arr (base+x)))->Q (some k) st):wpS (model prog w) A E s (lz left key arr base n hint) Q st:=by
 rw[KJ]
 refine wpS_bind (uo hk hy ha (by omega) (fun b0=>?_) fun b0=>?_)
 ·dsimp only
  simp only[if_true]
  refine wpS_bind (wpS_mono (wpS_forRange (I:=fun x c st'=>st'=st/\∃l k,c=(none,l,k)/\hint+l<n/\l<k/\x+1<=k/\bF left key (kz arr (base+(hint+l)))) (Q:=fun c st'=>st'=st/\∃l k,c=(none,l,k)/\hint+l<n/\l<k/\bF left key (kz arr (base+(hint+l)))/\(n-hint<=k\/¬bF left key (kz arr (base+(hint+k))))) ?_ ?_ ⟨rfl,_,_,rfl,by omega,by omega,by omega,b0⟩) ?_)
  ·rintro x c st' _ hx ⟨rfl,l,k,rfl,i1,i2,i3,i4⟩
   dsimp only
   by_cases hge:k≥n-hint
   ·rw[if_pos hge];exact wpS_pure ⟨rfl,_,_,rfl,i1,i2,i4, .inl hge⟩
   ·rw[if_neg hge]
    refine wpS_bind (uo hk hy ha (by omega) (fun b=>?_) fun b=>?_)
    ·exact wpS_pure ⟨rfl,_,_,rfl,by omega,by omega,by omega,b⟩
    ·exact wpS_pure ⟨rfl,_,_,rfl,i1,i2,i4, .inr b⟩
  ·rintro c st' ⟨rfl,l,k,rfl,i1,i2,i3,i4⟩
   exact⟨rfl,_,_,rfl,i1,i2,i4, .inl (by omega)⟩
  ·rintro c st' ⟨rfl,l,k,rfl,i1,i2,i4,i5⟩
   dsimp only
   refine wpS_bind (Du hk hy ha hb hR (by omega) (by omega) (fun x hx=>pM i4 (hR _ _ (by omega) (by omega) (by omega))) (fun x h1 h2 z=>?_) fun l k hkn q1 q2=>wpS_pure (h k hkn q1 q2))
   rcases i5 with i5|i5
   ·omega
   ·exact i5 (pM z (hR _ _ (by omega) (by omega) (by omega)))
 ·dsimp only
  simp only[ku,if_false]
  refine wpS_bind (wpS_mono (wpS_forRange (I:=fun x c st'=>st'=st/\∃l k,c=(none,l,k)/\l<=hint/\l<k/\x+1<=k/\¬bF left key (kz arr (base+(hint-l)))) (Q:=fun c st'=>st'=st/\∃l k,c=(none,l,k)/\l<=hint/\l<k/\¬bF left key (kz arr (base+(hint-l)))/\(hint+1<=k\/bF left key (kz arr (base+(hint-k))))) ?_ ?_ ⟨rfl,_,_,rfl,by omega,by omega,by omega,b0⟩) ?_)
  ·rintro x c st' _ hx ⟨rfl,l,k,rfl,i1,i2,i3,i4⟩
   dsimp only
   by_cases hge:k≥hint+1
   ·rw[if_pos hge];exact wpS_pure ⟨rfl,_,_,rfl,i1,i2,i4, .inl hge⟩
   ·rw[if_neg hge]
    refine wpS_bind (uo hk hy ha (by omega) (fun b=>?_) fun b=>?_)
    ·exact wpS_pure ⟨rfl,_,_,rfl,i1,i2,i4, .inr b⟩
    ·exact wpS_pure ⟨rfl,_,_,rfl,by omega,by omega,by omega,b⟩
  ·rintro c st' ⟨rfl,l,k,rfl,i1,i2,i3,i4⟩
   exact⟨rfl,_,_,rfl,i1,i2,i4, .inl (by omega)⟩
  ·rintro c st' ⟨rfl,l,k,rfl,i1,i2,i4,i5⟩
   dsimp only
   refine wpS_bind (Du hk hy ha hb hR (by omega) (by omega) (fun x hx=>?_) (fun x h1 h2 z=>i4 (pM z (hR _ _ (by omega) (by omega) (by omega)))) fun l k hkn q1 q2=>wpS_pure (h k hkn q1 q2))
   rcases i5 with i5|i5
   ·omega
   ·exact pM i5 (hR _ _ (by omega) (by omega) (by omega))
theorem gD{a:Array Keyed}{x:Keyed}{i:Nat}(h:i<a.size+1):kz (a.push x) i=if i=a.size then kd x else kz a i:=by
 unfold kz
 rw[A0]
 by_cases c:i=a.size
 ·rw[if_pos c,if_pos c]
 ·rw[if_neg c,if_neg c]
theorem dS{a b:Array Keyed}{i:Nat}:kz (a++b) i=if i<a.size then kz a i else kz b (i-a.size):=by
 unfold kz
 rw[Jr]
 by_cases c:i<a.size
 ·rw[if_pos c,if_pos c]
 ·rw[if_neg c,if_neg c]
theorem dB{a:Array Keyed}{i j x:Nat}(hj:j<=a.size)(hx:i+x<j):kz (a.extract i j) x=kz a (i+x):=by
 unfold kz
 rw[C9,if_pos (by omega)]
structure Mo(a b:Array Keyed)(i j:Nat)(out:Array Keyed):Prop where
 up:Ra out 0 out.size
 oa:∀x y,x<out.size->i<=y->y<a.size->kz out x<=kz a y
 ob:∀x y,x<out.size->j<=y->y<b.size->kz out x<=kz b y
variable{a b out:Array Keyed}{i j k:Nat}
theorem Mo.jl(h:Mo a b i j out)(hb:Ra b 0 b.size)(ha:Ra a 0 a.size)(hj:j<b.size)(hc:i<a.size->kz b j<=kz a i):Mo a b i (j+1) (out.push b[j]):=by
 have e:kd b[j]=kz b j:=(dG hj).symm
 refine⟨fun x y h0 hxy hy=>?_,fun x y hx hi hy=>?_,fun x y hx hi hy=>?_⟩<;>rw[qj] at*
 ·rw[gD (by omega),gD (by omega),e]
  by_cases c1:y=out.size
  ·rw[if_pos c1]
   by_cases c2:x=out.size
   ·rw[if_pos c2];omega
   ·rw[if_neg c2];exact h.ob x j (by omega) (by omega) hj
  ·rw[if_neg c1,if_neg (by omega)];exact h.up x y (by omega) hxy (by omega)
 ·rw[gD (by omega),e]
  by_cases c2:x=out.size
  ·rw[if_pos c2]
   have h1:=hc (by omega)
   have h2:=ha i y (by omega) hi hy
   omega
  ·rw[if_neg c2];exact h.oa x y (by omega) hi hy
 ·rw[gD (by omega),e]
  by_cases c2:x=out.size
  ·rw[if_pos c2];exact hb j y (by omega) (by omega) hy
  ·rw[if_neg c2];exact h.ob x y (by omega) (by omega) hy
theorem Mo.jd(h:Mo a b i j out)(hb:Ra b 0 b.size)(ha:Ra a 0 a.size)(hi:i<a.size)(hc:j<b.size->kz a i<=kz b j):Mo a b (i+1) j (out.push a[i]):=by
 have e:kd a[i]=kz a i:=(dG hi).symm
 refine⟨fun x y h0 hxy hy=>?_,fun x y hx hi' hy=>?_,fun x y hx hi' hy=>?_⟩<;>rw[qj] at*
 ·rw[gD (by omega),gD (by omega),e]
  by_cases c1:y=out.size
  ·rw[if_pos c1]
   by_cases c2:x=out.size
   ·rw[if_pos c2];omega
   ·rw[if_neg c2];exact h.oa x i (by omega) (by omega) hi
  ·rw[if_neg c1,if_neg (by omega)];exact h.up x y (by omega) hxy (by omega)
 ·rw[gD (by omega),e]
  by_cases c2:x=out.size
  ·rw[if_pos c2];exact ha i y (by omega) (by omega) hy
  ·rw[if_neg c2];exact h.oa x y (by omega) (by omega) hy
 ·rw[gD (by omega),e]
  by_cases c2:x=out.size
  ·rw[if_pos c2]
   have h1:=hc (by omega)
   have h2:=hb j y (by omega) hi' hy
   omega
  ·rw[if_neg c2];exact h.ob x y (by omega) hi' hy
theorem Mo.l7(h:Mo a b i j out)(hb:Ra b 0 b.size)(ha:Ra a 0 a.size)(hk:i+k<=a.size)(hc:∀y,i<=y->y<i+k->j<b.size->kz a y<=kz b j):Mo a b (i+k) j (out++a.extract i (i+k)):=by
 have hs:(a.extract i (i+k)).size=k:=by rw[fu];omega
 refine⟨fun x y h0 hxy hy=>?_,fun x y hx hi' hy=>?_,fun x y hx hi' hy=>?_⟩<;>rw[mQ,hs] at*
 ·rw[dS,dS]
  by_cases c1:y<out.size
  ·rw[if_pos c1,if_pos (by omega)];exact h.up x y (by omega) hxy c1
  ·rw[if_neg c1,dB (x:=y-out.size) hk (by omega)]
   by_cases c2:x<out.size
   ·rw[if_pos c2];exact h.oa x (i+(y-out.size)) c2 (by omega) (by omega)
   ·rw[if_neg c2,dB hk (by omega)];exact ha _ _ (by omega) (by omega) (by omega)
 ·rw[dS]
  by_cases c2:x<out.size
  ·rw[if_pos c2];exact h.oa x y c2 (by omega) hy
  ·rw[if_neg c2,dB hk (by omega)];exact ha _ _ (by omega) (by omega) hy
 ·rw[dS]
  by_cases c2:x<out.size
  ·rw[if_pos c2];exact h.ob x y c2 (by omega) hy
  ·rw[if_neg c2,dB hk (by omega)]
   have h1:=hc (i+(x-out.size)) (by omega) (by omega) (by omega)
   have h2:=hb j y (by omega) hi' hy
   omega
theorem Mo.lQ(h:Mo a b i j out)(hb:Ra b 0 b.size)(ha:Ra a 0 a.size)(hk:j+k<=b.size)(hc:∀y,j<=y->y<j+k->i<a.size->kz b y<=kz a i):Mo a b i (j+k) (out++b.extract j (j+k)):=by
 have hs:(b.extract j (j+k)).size=k:=by rw[fu];omega
 refine⟨fun x y h0 hxy hy=>?_,fun x y hx hi' hy=>?_,fun x y hx hi' hy=>?_⟩<;>rw[mQ,hs] at*
 ·rw[dS,dS]
  by_cases c1:y<out.size
  ·rw[if_pos c1,if_pos (by omega)];exact h.up x y (by omega) hxy c1
  ·rw[if_neg c1,dB (x:=y-out.size) hk (by omega)]
   by_cases c2:x<out.size
   ·rw[if_pos c2];exact h.ob x (j+(y-out.size)) c2 (by omega) (by omega)
   ·rw[if_neg c2,dB hk (by omega)];exact hb _ _ (by omega) (by omega) (by omega)
 ·rw[dS]
  by_cases c2:x<out.size
  ·rw[if_pos c2];exact h.oa x y c2 (by omega) hy
  ·rw[if_neg c2,dB hk (by omega)]
   have h1:=hc (j+(x-out.size)) (by omega) (by omega) (by omega)
   have h2:=ha i y (by omega) hi' hy
   omega
 ·rw[dS]
  by_cases c2:x<out.size
  ·rw[if_pos c2];exact h.ob x y c2 (by omega) hy
  ·rw[if_neg c2,dB hk (by omega)];exact hb _ _ (by omega) (by omega) hy
theorem Mo.tK(h:Mo a b i j out)(ha:Ra a 0 a.size):Ra (out++a.extract i a.size) 0 (out++a.extract i a.size).size:=fun x y h0 hxy hy=>by
 rw[mQ,fu] at hy
 rw[dS,dS]
 by_cases c1:y<out.size
 ·rw[if_pos c1,if_pos (by omega)];exact h.up x y (by omega) hxy c1
 ·rw[if_neg c1,dB (x:=y-out.size) (aF _) (by omega)]
  by_cases c2:x<out.size
  ·rw[if_pos c2];exact h.oa x (i+(y-out.size)) c2 (by omega) (by omega)
  ·rw[if_neg c2,dB (aF _) (by omega)];exact ha _ _ (by omega) (by omega) (by omega)
theorem Mo.uf(h:Mo a b i j out)(hb:Ra b 0 b.size):Ra (out++b.extract j b.size) 0 (out++b.extract j b.size).size:=fun x y h0 hxy hy=>by
 rw[mQ,fu] at hy
 rw[dS,dS]
 by_cases c1:y<out.size
 ·rw[if_pos c1,if_pos (by omega)];exact h.up x y (by omega) hxy c1
 ·rw[if_neg c1,dB (x:=y-out.size) (aF _) (by omega)]
  by_cases c2:x<out.size
  ·rw[if_pos c2];exact h.ob x (j+(y-out.size)) c2 (by omega) (by omega)
  ·rw[if_neg c2,dB (aF _) (by omega)];exact hb _ _ (by omega) (by omega) (by omega)
structure Mp(a b:Array Keyed):Prop where
 ra:Ra a 0 a.size
 rb:Ra b 0 b.size
 kA:dI a
 kB:dI b
 hd:kz b 0<=kz a 0
 tl:∀y,y<b.size->kz b y<=kz a (a.size-1)
def cD(z:Array Keyed):Prop:=Ra z 0 z.size
theorem Mo.p9(P:Mp a b)(h:Mo a b i j out)(hj:j=b.size):cD (out++a.extract i a.size++b.extract j b.size):=by
 have e:b.extract j b.size= #[]:=by rw[hj];simp
 unfold cD
 rw[e,wA]
 exact h.tK P.ra
theorem Mo.tu(P:Mp a b)(h:Mo a b i j out)(hi:i=a.size):cD (out++a.extract i a.size++b.extract j b.size):=by
 have e:a.extract i a.size= #[]:=by rw[hi];simp
 unfold cD
 rw[e,wA]
 exact h.uf P.rb
theorem Mo.w4(P:Mp a b)(h:Mo a b i j out)(hi:i+1=a.size)(hj:j<=b.size):cD (out++b.extract j b.size++a.extract i a.size):=by
 have:=h.lQ (k:=b.size-j) P.rb P.ra (by omega) (fun y _ h2 _=>by have:=P.tl y (by omega);rwa[show a.size-1=i by omega] at this)
 rw[show j+(b.size-j)=b.size by omega] at this
 exact this.tK P.ra
def LQ(a b:Array Keyed)(cY:SortSt)(B:Nat)(r:Option (Array Keyed))(out:Array Keyed)(ia ib:Nat)(st':SortSt):Prop:=
 eT cY st'/\(match r with|some z=>z.toList.Perm (a.toList++b.toList)/\cD z|none=>Mg a b ia ib out/\Mo a b ia ib out/\ia+1<a.size/\ib<b.size/\B<=ia+ib)
variable{cY st':SortSt}{B ia ib:Nat}{z:Array Keyed}
theorem LQ.some(S:eT cY st')(h:z.toList.Perm (a.toList++b.toList))(o:cD z):LQ a b cY B (some z) out ia ib st':=⟨S,h,o⟩
theorem LQ.none(S:eT cY st')(m:Mg a b ia ib out)(o:Mo a b ia ib out)(h1:ia+1<a.size)(h2:ib<b.size)(h3:B<=ia+ib):LQ a b cY B none out ia ib st':=⟨S,m,o,h1,h2,h3⟩
theorem JC{x y:Keyed}{α:Type}{f:Option Bool->StateT SortSt Sem α}{Q:α->SortSt->Prop}(hk:kindOf cY=oneType')(S:eT cY st)(hx:kG x)(hy:kG y)(h1:kd x<kd y->wpS (model prog w) A E s (f (some true)) Q st)(h2:kd y<=kd x->wpS (model prog w) A E s (f (some false)) Q st):wpS (model prog w) A E s (lt' x y>>=f) Q st:=wpS_bind (vY (S.1.trans hk) hx hy h1 h2)
theorem IW{left:Bool}{key:Keyed}{arr:Array Keyed}{base n hint:Nat}{α:Type}{f:Option Nat->StateT SortSt Sem α}{Q:α->SortSt->Prop}(hk:kindOf cY=oneType')(S:eT cY st)(hy:kG key)(ha:dI arr)(hb:base+n<=arr.size)(hR:Ra arr base (base+n))(hh:hint<n)(h:∀k,k<=n->(∀x<k,bF left key (kz arr (base+x)))->(∀x,k<=x->x<n->¬bF left key (kz arr (base+x)))->wpS (model prog w) A E s (f (some k)) Q st):wpS (model prog w) A E s (lz left key arr base n hint>>=f) Q st:=wpS_bind (yC (S.1.trans hk) hy ha hb hR hh h)
theorem Ra.sub{x:Array Keyed}{l h l' h':Nat}(r:Ra x l h)(h1:l<=l')(h2:h'<=h):Ra x l' h':=fun i j a b c=>r i j (by omega) b (by omega)
theorem ny{α:Type}{t e:StateT SortSt Sem α}{Q:α->SortSt->Prop}(h:wpS (model prog w) A E s t Q st):wpS (model prog w) A E s (if true=true then t else e) Q st:=by rw[if_pos rfl];exact h
theorem nD{α:Type}{t e:StateT SortSt Sem α}{Q:α->SortSt->Prop}(h:wpS (model prog w) A E s e Q st):wpS (model prog w) A E s (if false=true then t else e) Q st:=by rw[if_neg bq];exact h
theorem M9{x y:Array Keyed}{i j:Nat}{hi:i<x.size}{hj:j<y.size}(h:kd x[i]<kd y[j]):kz x i<=kz y j:=by rw[dG hi,dG hj];omega
theorem VR{x y:Array Keyed}{i j:Nat}{hi:i<x.size}{hj:j<y.size}(h:kd y[j]<=kd x[i]):kz y j<=kz x i:=by rw[dG hi,dG hj];omega
theorem MY{x y:Array Keyed}{i j k:Nat}{hj:j<y.size}(h:∀z<k,bF false y[j] (kz x (i+z))):∀z,i<=z->z<i+k->kz x z<=kz y j:=fun z h1 h2=>by
 have:=h (z-i) (by omega)
 unfold bF at this
 rw[if_neg bq,show i+(z-i)=z by omega] at this
 rw[dG hj];exact this
theorem G4{x y:Array Keyed}{i j k n:Nat}{hj:j<y.size}(h:∀z,k<=z->z<n->¬bF false y[j] (kz x (i+z)))(hk:k<n):kz y j<=kz x (i+k):=by
 have:=h k (aF _) hk
 unfold bF at this
 rw[if_neg bq] at this
 rw[dG hj];omega
theorem Pu{x y:Array Keyed}{i j k:Nat}{hj:j<y.size}(h:∀z<k,bF true y[j] (kz x (i+z))):∀z,i<=z->z<i+k->kz x z<=kz y j:=fun z h1 h2=>by
 have:=h (z-i) (by omega)
 unfold bF at this
 rw[if_pos rfl,show i+(z-i)=z by omega] at this
 rw[dG hj];omega
theorem DT{x y:Array Keyed}{i j k n:Nat}{hj:j<y.size}(h:∀z,k<=z->z<n->¬bF true y[j] (kz x (i+z)))(hk:k<n):kz y j<=kz x (i+k):=by
 have:=h k (aF _) hk
 unfold bF at this
 rw[if_pos rfl] at this
 rw[dG hj];omega
theorem Mc{x y:Array Keyed}{i j k n:Nat}{hj:j<y.size}(h:∀z,k<=z->z<n->¬bF false y[j] (kz x (i+z)))(h0:k<=0)(hn:0<n):kz y j<=kz x i:=by
 have:=G4 (k:=0) (fun z a b=>h z (by omega) b) hn
 rwa[p7] at this
theorem Qg{x y:Array Keyed}{i j k n:Nat}{hj:j<y.size}(h:∀z,k<=z->z<n->¬bF true y[j] (kz x (i+z)))(h0:k<=0)(hn:0<n):kz y j<=kz x i:=by
 have:=DT (k:=0) (fun z a b=>h z (by omega) b) hn
 rwa[p7] at this
local macro_rules| `(tactic|walk_at "og")=> `(tactic|repeat (first|assumption|with_reducible refine Mg.jl ?_ (by omega)|with_reducible refine Mg.jd ?_ (by omega)|with_reducible refine Mg.l7 ?_|with_reducible refine Mg.lQ ?_))
local macro_rules| `(tactic|walk_at "oo")=> `(tactic|repeat' (first
 |assumption
 |with_reducible refine Mo.jl ?_ (by assumption) (by assumption) (by omega) ?_
 |with_reducible refine Mo.jd ?_ (by assumption) (by assumption) (by omega) ?_
 |with_reducible refine Mo.l7 ?_ (by assumption) (by assumption) (by omega) ?_
 |with_reducible refine Mo.lQ ?_ (by assumption) (by assumption) (by omega) ?_
 |exact fun _=>G4 (by assumption) (by omega)
 |exact fun _=>DT (by assumption) (by omega)
 |exact fun _=>Mc (by assumption) (by omega) (by omega)
 |exact fun _=>Qg (by assumption) (by omega) (by omega)
 |exact fun y h1 h2 _=>MY (by assumption) y h1 h2
 |exact fun y h1 h2 _=>Pu (by assumption) y h1 h2))
local macro_rules| `(tactic|walk_at "oe")=> `(tactic|(dsimp only;first
 |exact LQ.some (by assumption) (Mg.done (by walk_at "og")) (Mo.p9 (by assumption) (by walk_at "oo") (by omega))
 |exact LQ.some (by assumption) (Mg.done (by walk_at "og")) (Mo.tu (by assumption) (by walk_at "oo") (by omega))
 |exact LQ.some (by assumption) (Mg.last (by walk_at "og")) (Mo.w4 (by assumption) (by walk_at "oo") (by omega) (by omega))
 |exact LQ.none (by assumption) (by walk_at "og") (by walk_at "oo") (by omega) (by omega) (by omega)
 |exact And.intro (by first|rfl|trivial) (LQ.none (by assumption) (by walk_at "og") (by walk_at "oo") (by omega) (by omega) (by omega))))
local macro_rules| `(tactic|walk_at "os")=> `(tactic|repeat' (first
 |with_reducible refine wpS_pure ?_
 |with_reducible refine jZ (fun _=>?_) (fun _=>?_)
 |with_reducible refine o5 (by omega) ?_
 |with_reducible refine IW (by assumption) (by assumption) (dI.at (by assumption) _) (by assumption) (by omega) (Ra.sub (by assumption) (fG _) (by omega)) (by omega) (fun _ _ _ _=>?_)
 |with_reducible refine vj (by assumption) (fun _ _=>?_)
 |with_reducible refine JF ?_ ?_
 |with_reducible refine gk (fun _=>?_) (fun _=>?_)
 |walk_at "oe"))
theorem Rl{Q:Array Keyed->SortSt->Prop}(hk:kindOf st=oneType')(P:Mp a b)(a0:0<a.size)(b0:0<b.size)(h:∀r st',eT st st'->r.toList.Perm (a.toList++b.toList)->cD r->Q r st'):wpS (model prog w) A E s (AY a b) Q st:=by
  have ra:=P.ra
  have rb:=P.rb
  have kA:=P.kA
  have kB:=P.kB
  rw[Ry]
  refine wpS_bind (wpS_lift (wpAny_rule ⟨rfl,?_⟩))
  refine wpS_bind (lK b0 ?_)
  dsimp only
  have m0:Mg a b 0 1 #[b[0]]:=by unfold Mg;rw[BK (l:=b.toList) (by simpa using b0)];simp
  have o0:Mo a b 0 1 #[b[0]]:=by
    have:=Mo.jl (a:=a) (b:=b) (i:=0) (j:=0) (out:= #[]) ⟨fun _ _ _ _ h=>by simp at h,fun _ _ h=>by simp at h,fun _ _ h=>by simp at h⟩ rb ra b0 (fun _=>P.hd)
    simpa using this
  refine jZ (fun c1=>wpS_pure (h _ _ (.refl _) m0.done (o0.p9 P c1))) (fun c1=>?_)
  refine jZ (fun c2=>wpS_pure (h _ _ (.refl _) m0.last (o0.w4 P c2 (by omega)))) (fun c2=>?_)
  refine wpS_bind (wpS_get ?_)
  refine wpS_bind (wpS_mono (wpS_forRange (I:=fun x c st'=>c.1=none/\LQ a b st (x+1) none c.2.1 c.2.2.1 c.2.2.2.1 st') (Q:=fun c st'=>eT st st'/\∃z,c.1=some z/\z.toList.Perm (a.toList++b.toList)/\cD z) ?step ?fin ⟨rfl, .none (.refl _) m0 o0 (by dsimp only;omega) (by dsimp only;omega) (by dsimp only;omega)⟩) ?post)
  case fin=>
    rintro c st' ⟨_,_,_,_,i1,i2,i3⟩
    omega
  case post=>
    rintro c st' ⟨S,z,e,hz,oz⟩
    rw[e]
    exact wpS_pure (h z st' S hz oz)
  case step=>
    rintro x ⟨r,out,ia,ib,mn⟩ st' _ hx ⟨e,S,m,o,i1,i2,i3⟩
    dsimp only at e m o i1 i2 i3
    subst e
    dsimp only
    refine wpS_bind (wpS_mono (wpS_forRange (I:=fun y c st'=>c.1=none/\LQ a b st (x+1+y) none c.2.1 c.2.2.1 c.2.2.2.1 st') (Q:=fun c st'=>LQ a b st (x+2) c.1 c.2.1 c.2.2.1 c.2.2.2.1 st') ?yX ?wI ⟨rfl, .none S m o i1 i2 (by omega)⟩) ?CK)
    case wI=>
      rintro⟨r,out,ia,ib,ac,bc⟩ st' ⟨e,S,m,o,i1,i2,i3⟩
      dsimp only at e m o i1 i2 i3
      subst e
      exact .none S m o i1 i2 (by omega)
    case yX=>
      rintro y ⟨r,out,ia,ib,ac,bc⟩ st' _ hy ⟨e,S,m,o,i1,i2,i3⟩
      dsimp only at e m o i1 i2 i3
      subst e
      dsimp only
      refine o5 (by omega) ?_
      refine o5 (by omega) ?_
      refine JC hk S (kB.at _) (kA.at _) (fun c=>?_) (fun c=>?_)
      · have m':=m.jl (show ib<b.size by omega)
        have o':=o.jl rb ra (show ib<b.size by omega) (fun _=>M9 c)
        refine ny ?_
        refine o5 (by omega) ?_
        refine jZ (fun z=>?_) (fun z=>?_)
        · refine wpS_pure ?_
          dsimp only
          exact(LQ.some S m'.done (o'.p9 P z))
        · refine gk (fun _=>?_) (fun _=>?_)
          · refine wpS_pure ?_
            dsimp only
            exact(LQ.none S m' o' (by omega) (by omega) (by omega))
          · refine wpS_pure ?_
            dsimp only
            exact⟨rfl,LQ.none S m' o' (by omega) (by omega) (by omega)⟩
      · have m':=m.jd (show ia<a.size by omega)
        have o':=o.jd rb ra (show ia<a.size by omega) (fun _=>VR c)
        refine nD ?_
        refine o5 (by omega) ?_
        refine jZ (fun z=>?_) (fun z=>?_)
        · refine wpS_pure ?_
          dsimp only
          exact(LQ.some S m'.last (o'.w4 P z (by omega)))
        · refine gk (fun _=>?_) (fun _=>?_)
          · refine wpS_pure ?_
            dsimp only
            exact(LQ.none S m' o' (by omega) (by omega) (by omega))
          · refine wpS_pure ?_
            dsimp only
            exact⟨rfl,LQ.none S m' o' (by omega) (by omega) (by omega)⟩
    case CK=>
      rintro⟨r,out,ia,ib,ac,bc⟩ st' hL
      cases r with
      |some z=>exact wpS_pure ⟨hL.1,z,rfl,hL.2⟩
      | none =>
        obtain⟨S,m,o,i1,i2,i3⟩:=hL
        dsimp only at m o i1 i2 i3
        dsimp only
        refine wpS_bind (wpS_lift (wpAny_rule ⟨rfl,?_⟩))
        refine wpS_bind (wpS_mono (wpS_forRange (I:=fun y c st'=>c.1=none/\LQ a b st (x+2) none c.2.1 c.2.2.1 c.2.2.2.1 st') (Q:=fun c st'=>LQ a b st (x+2) c.1 c.2.1 c.2.2.1 c.2.2.2.1 st') ?xN ?yy ⟨rfl, .none S m o i1 i2 (by omega)⟩) ?wH)
        case yy=>
          rintro⟨r,out,ia,ib,mn,ac,bc⟩ st' ⟨e,S,m,o,i1,i2,i3⟩
          dsimp only at e m o i1 i2 i3
          subst e
          exact .none S m o i1 i2 (by omega)
        case xN=>
          rintro y ⟨r,out,ia,ib,mn,ac,bc⟩ st' _ hy ⟨e,S,m,o,i1,i2,i3⟩
          dsimp only at e m o i1 i2 i3
          subst e
          dsimp only
          walk_at "os"
        case wH=>
          rintro⟨r,out,ia,ib,mn,ac,bc⟩ st' hL
          cases r with
          |some z=>exact wpS_pure ⟨hL.1,z,rfl,hL.2⟩
          | none =>
            obtain⟨S,m,o,i1,i2,i3⟩:=hL
            dsimp only at m o i1 i2 i3
            dsimp only
            exact vj S fun st' S'=>wpS_pure ⟨rfl, .none S' m o i1 i2 (by omega)⟩
end
end L2
set_option maxRecDepth 100000
set_option maxHeartbeats 4000000
namespace L2
open PySem PySem.Spec PyProof.Rows
section
variable{prog:Program}{w:World}{A:Around}{E:Value->Shared->Prop}{s:Shared}{st:SortSt}{a b out:Array Keyed}{i j k n:Nat}
theorem q8{x:Nat}(h:x<a.size):kz a.reverse x=kz a (a.size-1-x):=by
 unfold kz
 rw[Array.getElem?_reverse h]
structure Mu(a b:Array Keyed)(i j:Nat)(out:Array Keyed):Prop where
 dn:∀x y,x<=y->y<out.size->kz out y<=kz out x
 oa:∀x y,x<out.size->y<i->kz a y<=kz out x
 ob:∀x y,x<out.size->y<j->kz b y<=kz out x
theorem Mu.jl(h:Mu a b i (j+1) out)(hb:cD b)(hj:j<b.size)(hc:∀y,y<i->kz a y<=kz b j):Mu a b i j (out.push b[j]):=by
 have e:kd b[j]=kz b j:=(dG hj).symm
 refine⟨fun x y hxy hy=>?_,fun x y hx hy=>?_,fun x y hx hy=>?_⟩<;>rw[qj] at*
 ·rw[gD (by omega),gD (by omega),e]
  by_cases c1:y=out.size
  ·rw[if_pos c1]
   by_cases c2:x=out.size
   ·rw[if_pos c2];omega
   ·rw[if_neg c2];exact h.ob x j (by omega) (by omega)
  ·rw[if_neg c1,if_neg (by omega)];exact h.dn x y hxy (by omega)
 ·rw[gD (by omega),e]
  by_cases c2:x=out.size
  ·rw[if_pos c2];exact hc y hy
  ·rw[if_neg c2];exact h.oa x y (by omega) hy
 ·rw[gD (by omega),e]
  by_cases c2:x=out.size
  ·rw[if_pos c2];exact hb y j (by omega) (by omega) hj
  ·rw[if_neg c2];exact h.ob x y (by omega) (by omega)
theorem Mu.jd(h:Mu a b (i+1) j out)(ha:cD a)(hi:i<a.size)(hc:∀y,y<j->kz b y<=kz a i):Mu a b i j (out.push a[i]):=by
 have e:kd a[i]=kz a i:=(dG hi).symm
 refine⟨fun x y hxy hy=>?_,fun x y hx hy=>?_,fun x y hx hy=>?_⟩<;>rw[qj] at*
 ·rw[gD (by omega),gD (by omega),e]
  by_cases c1:y=out.size
  ·rw[if_pos c1]
   by_cases c2:x=out.size
   ·rw[if_pos c2];omega
   ·rw[if_neg c2];exact h.oa x i (by omega) (by omega)
  ·rw[if_neg c1,if_neg (by omega)];exact h.dn x y hxy (by omega)
 ·rw[gD (by omega),e]
  by_cases c2:x=out.size
  ·rw[if_pos c2];exact ha y i (by omega) (by omega) hi
  ·rw[if_neg c2];exact h.oa x y (by omega) (by omega)
 ·rw[gD (by omega),e]
  by_cases c2:x=out.size
  ·rw[if_pos c2];exact hc y hy
  ·rw[if_neg c2];exact h.ob x y (by omega) hy
theorem Mu.WK(h:Mu a b i j out)(hb:cD b)(h1:1<=j)(hj:j-1<b.size)(hc:∀y,y<i->kz a y<=kz b (j-1)):Mu a b i (j-1) (out.push b[j-1]):=
 Mu.jl (by rw[show j-1+1=j by omega];exact h) hb hj hc
theorem Mu.VI(h:Mu a b i j out)(ha:cD a)(h1:1<=i)(hi:i-1<a.size)(hc:∀y,y<j->kz b y<=kz a (i-1)):Mu a b (i-1) j (out.push a[i-1]):=
 Mu.jd (by rw[show i-1+1=i by omega];exact h) ha hi hc
theorem mF{x:Nat}(hi:i<=a.size)(hx:x<i-k):kz (a.extract k i).reverse x=kz a (i-1-x):=by
 have hs:(a.extract k i).size=i-k:=by rw[fu];omega
 rw[q8 (by omega),dB hi (by omega),hs]
 congr 1;omega
theorem Mu.l7(h:Mu a b i j out)(ha:cD a)(hk:k<=i)(hi:i<=a.size)(hc:∀y,k<=y->y<i->∀x,x<j->kz b x<=kz a y):Mu a b k j (out++(a.extract k i).reverse):=by
 have hs:(a.extract k i).reverse.size=i-k:=by rw[uP,fu];omega
 refine⟨fun x y hxy hy=>?_,fun x y hx hy=>?_,fun x y hx hy=>?_⟩<;>rw[mQ,hs] at*
 ·rw[dS,dS]
  by_cases c1:y<out.size
  ·rw[if_pos c1,if_pos (by omega)];exact h.dn x y hxy c1
  ·rw[if_neg c1,mF hi (by omega)]
   by_cases c2:x<out.size
   ·rw[if_pos c2];exact h.oa x _ c2 (by omega)
   ·rw[if_neg c2,mF hi (by omega)];exact ha _ _ (by omega) (by omega) (by omega)
 ·rw[dS]
  by_cases c2:x<out.size
  ·rw[if_pos c2];exact h.oa x y c2 (by omega)
  ·rw[if_neg c2,mF hi (by omega)];exact ha _ _ (by omega) (by omega) (by omega)
 ·rw[dS]
  by_cases c2:x<out.size
  ·rw[if_pos c2];exact h.ob x y c2 hy
  ·rw[if_neg c2,mF hi (by omega)];exact hc _ (by omega) (by omega) y hy
theorem Mu.lQ(h:Mu a b i j out)(hb:cD b)(hk:k<=j)(hj:j<=b.size)(hc:∀y,k<=y->y<j->∀x,x<i->kz a x<=kz b y):Mu a b i k (out++(b.extract k j).reverse):=by
 have hs:(b.extract k j).reverse.size=j-k:=by rw[uP,fu];omega
 refine⟨fun x y hxy hy=>?_,fun x y hx hy=>?_,fun x y hx hy=>?_⟩<;>rw[mQ,hs] at*
 ·rw[dS,dS]
  by_cases c1:y<out.size
  ·rw[if_pos c1,if_pos (by omega)];exact h.dn x y hxy c1
  ·rw[if_neg c1,mF hj (by omega)]
   by_cases c2:x<out.size
   ·rw[if_pos c2];exact h.ob x _ c2 (by omega)
   ·rw[if_neg c2,mF hj (by omega)];exact hb _ _ (by omega) (by omega) (by omega)
 ·rw[dS]
  by_cases c2:x<out.size
  ·rw[if_pos c2];exact h.oa x y c2 hy
  ·rw[if_neg c2,mF hj (by omega)];exact hc _ (by omega) (by omega) y hy
 ·rw[dS]
  by_cases c2:x<out.size
  ·rw[if_pos c2];exact h.ob x y c2 (by omega)
  ·rw[if_neg c2,mF hj (by omega)];exact hb _ _ (by omega) (by omega) (by omega)
theorem Mu.tK(h:Mu a b i j out)(ha:cD a)(hi:i<=a.size):cD (a.extract 0 i++out.reverse):=fun x y h0 hxy hy=>by
 have hs:(a.extract 0 i).size=i:=by rw[fu];omega
 rw[mQ,uP,hs] at hy
 rw[dS,dS,hs]
 by_cases c1:y<i
 ·rw[if_pos c1,if_pos (by omega),dB hi (by omega),dB hi (by omega)];exact ha _ _ (by omega) (by omega) (by omega)
 ·rw[if_neg c1,q8 (x:=y-i) (by omega)]
  by_cases c2:x<i
  ·rw[if_pos c2,dB hi (by omega)];exact h.oa (out.size-1-(y-i)) (0+x) (by omega) (by omega)
  ·rw[if_neg c2,q8 (by omega)];exact h.dn _ _ (by omega) (by omega)
theorem Mu.uf(h:Mu a b i j out)(hb:cD b)(hj:j<=b.size):cD (b.extract 0 j++out.reverse):=fun x y h0 hxy hy=>by
 have hs:(b.extract 0 j).size=j:=by rw[fu];omega
 rw[mQ,uP,hs] at hy
 rw[dS,dS,hs]
 by_cases c1:y<j
 ·rw[if_pos c1,if_pos (by omega),dB hj (by omega),dB hj (by omega)];exact hb _ _ (by omega) (by omega) (by omega)
 ·rw[if_neg c1,q8 (x:=y-j) (by omega)]
  by_cases c2:x<j
  ·rw[if_pos c2,dB hj (by omega)];exact h.ob (out.size-1-(y-j)) (0+x) (by omega) (by omega)
  ·rw[if_neg c2,q8 (by omega)];exact h.dn _ _ (by omega) (by omega)
theorem Mu.tu(P:Mp a b)(h:Mu a b i j out)(hi:i=0)(hj:j<=b.size):cD (a.extract 0 i++b.extract 0 j++out.reverse):=by
 have e:a.extract 0 i= #[]:=by rw[hi];simp
 rw[e,Array.empty_append]
 exact h.uf P.rb hj
theorem Mu.p9(P:Mp a b)(h:Mu a b i j out)(hj:j=0)(hi:i<=a.size):cD (a.extract 0 i++b.extract 0 j++out.reverse):=by
 have e:b.extract 0 j= #[]:=by rw[hj];simp
 rw[e,wA]
 exact h.tK P.ra hi
theorem Mu.Ge(P:Mp a b)(h:Mu a b i j out)(hj:j=1)(b0:1<=b.size)(hi:i<=a.size):cD (b.extract 0 j++a.extract 0 i++out.reverse):=by
 have h2:=h.l7 (k:=0) P.ra (fG _) hi (fun y _ h2 x hx=>by
  have e:x=0:=by omega
  subst e
  have h3:=P.hd
  have h4:=P.ra 0 y (by omega) (by omega) (by omega)
  omega)
 have h3:=h2.uf P.rb (by omega)
 rwa[Array.reverse_append,Array.reverse_reverse,<-Array.append_assoc] at h3
def LR(a b:Array Keyed)(cY:SortSt)(B:Nat)(r:Option (Array Keyed))(out:Array Keyed)(ia ib:Nat)(st':SortSt):Prop:=
 eT cY st'/\(match r with|some z=>z.toList.Perm (a.toList++b.toList)/\cD z|none=>Mh a b ia ib out/\Mu a b ia ib out/\1<=ia/\ia<=a.size/\2<=ib/\ib<=b.size/\B+ia+ib<=a.size+b.size)
variable{cY st':SortSt}{B ia ib:Nat}{z:Array Keyed}
theorem LR.some(S:eT cY st')(h:z.toList.Perm (a.toList++b.toList))(o:cD z):LR a b cY B (some z) out ia ib st':=⟨S,h,o⟩
theorem LR.none(S:eT cY st')(m:Mh a b ia ib out)(o:Mu a b ia ib out)(h1:1<=ia/\ia<=a.size/\2<=ib/\ib<=b.size/\B+ia+ib<=a.size+b.size):LR a b cY B none out ia ib st':=⟨S,m,o,h1⟩
theorem hi_lt{x y:Array Keyed}{i j:Nat}{hi:i<x.size}{hj:j<y.size}(h:kd x[i]<kd y[j])(r:cD x):∀z,z<i+1->kz x z<=kz y j:=fun z hz=>by
 have:=r z i (by omega) (by omega) hi
 rw[dG hi] at this
 rw[dG hj];omega
theorem V1{x y:Array Keyed}{i j:Nat}{hi:i<x.size}{hj:j<y.size}(h:kd x[i]<=kd y[j])(r:cD x):∀z,z<i+1->kz x z<=kz y j:=fun z hz=>by
 have:=r z i (by omega) (by omega) hi
 rw[dG hi] at this
 rw[dG hj];omega
theorem Ms{l:Bool}{x y:Array Keyed}{j k m:Nat}{hj:j<y.size}(h:∀z<k,bF l y[j] (kz x (0+z)))(hm:m<=k):∀z,z<m->kz x z<=kz y j:=fun z hz=>by
 have:=h z (by omega)
 unfold bF at this
 rw[tL] at this
 rw[dG hj]
 cases l with
 |true=>rw[if_pos rfl] at this;omega
 |false=>rw[if_neg bq] at this;exact this
theorem QO{l:Bool}{x y:Array Keyed}{j k n:Nat}{hj:j<y.size}(h:∀z,k<=z->z<n->¬bF l y[j] (kz x (0+z)))(r:cD y){m:Nat}(hm:m<=j+1):∀z,k<=z->z<n->∀u,u<m->kz y u<=kz x z:=fun z h1 h2 u hu=>by
 have:=h z h1 h2
 unfold bF at this
 rw[tL] at this
 have h3:=r u j (by omega) (by omega) hj
 rw[dG hj] at h3
 cases l with
 |true=>rw[if_pos rfl] at this;omega
 |false=>rw[if_neg bq] at this;omega
local macro_rules| `(tactic|walk_at "pg")=> `(tactic|repeat (first|assumption|with_reducible refine Mh.jl ?_ (by omega) (by omega)|with_reducible refine Mh.jd ?_ (by omega) (by omega)|with_reducible refine Mh.Qm ?_ (by omega)|with_reducible refine Mh.NL ?_ (by omega)|with_reducible refine Mh.l7 ?_ (by omega)|with_reducible refine Mh.lQ ?_ (by omega)))
local macro_rules| `(tactic|walk_at "po")=> `(tactic|repeat' (first
 |assumption
 |with_reducible refine Mu.VI ?_ (by assumption) (by omega) (by omega) ?_
 |with_reducible refine Mu.jl ?_ (by assumption) (by omega) ?_
 |with_reducible refine Mu.jd ?_ (by assumption) (by omega) ?_
 |with_reducible refine Mu.l7 ?_ (by assumption) (by omega) (by omega) ?_
 |with_reducible refine Mu.lQ ?_ (by assumption) (by omega) (by omega) ?_
 |exact hi_lt (by assumption) (by assumption)
 |exact V1 (by assumption) (by assumption)
 |exact Ms (by assumption) (by omega)
 |exact QO (by assumption) (by assumption) (by omega)))
local macro_rules| `(tactic|walk_at "pe")=> `(tactic|(dsimp only;first
 |exact LR.some (by assumption) (Mh.done (by walk_at "pg")) (Mu.tu (by assumption) (by walk_at "po") (by omega) (by omega))
 |exact LR.some (by assumption) (Mh.done (by walk_at "pg")) (Mu.p9 (by assumption) (by walk_at "po") (by omega) (by omega))
 |exact LR.some (by assumption) (Mh.first (by walk_at "pg")) (Mu.Ge (by assumption) (by walk_at "po") (by omega) (by omega) (by omega))
 |exact LR.none (by assumption) (by walk_at "pg") (by walk_at "po") (by omega)
 |exact And.intro (by first|rfl|trivial) (LR.none (by assumption) (by walk_at "pg") (by walk_at "po") (by omega))))
local macro_rules| `(tactic|walk_at "ps")=> `(tactic|repeat' (first
 |with_reducible refine wpS_pure ?_
 |with_reducible refine ny ?_
 |with_reducible refine nD ?_
 |with_reducible refine jZ (fun _=>?_) (fun _=>?_)
 |with_reducible refine o5 (by omega) ?_
 |with_reducible refine JC (by assumption) (by assumption) (dI.at (by assumption) _) (dI.at (by assumption) _) (fun _=>?_) (fun _=>?_)
 |with_reducible refine IW (by assumption) (by assumption) (dI.at (by assumption) _) (by assumption) (by omega) (Ra.sub (by assumption) (fG _) (by omega)) (by omega) (fun _ _ _ _=>?_)
 |with_reducible refine vj (by assumption) (fun _ _=>?_)
 |with_reducible refine JF ?_ ?_
 |with_reducible refine gk (fun _=>?_) (fun _=>?_)))
theorem Vq{Q:Array Keyed->SortSt->Prop}(hk:kindOf st=oneType')(P:Mp a b)(a0:0<a.size)(b0:0<b.size)(h:∀r st',eT st st'->r.toList.Perm (a.toList++b.toList)->cD r->Q r st'):wpS (model prog w) A E s (BQ a b) Q st:=by
  have ra':=P.ra
  have rb':=P.rb
  have ra:cD a:=P.ra
  have rb:cD b:=P.rb
  have kA:=P.kA
  have kB:=P.kB
  rw[Q3]
  refine wpS_bind (wpS_lift (wpAny_rule ⟨rfl,?_⟩))
  refine wpS_bind (lK (i:=a.size-1) (by omega) ?_)
  dsimp only
  have m0:Mh a b (a.size-1) b.size #[a[a.size-1]]:=by
    unfold Mh
    rw[Ao (l:=a.toList) (i:=a.size-1) (by simp;omega),Ac (l:=a.toList) (by simp;omega),Ac (l:=b.toList) (by simp)]
    simp
  have o0:Mu a b (a.size-1) b.size #[a[a.size-1]]:=by
    have:=Mu.jd (a:=a) (b:=b) (i:=a.size-1) (j:=b.size) (out:= #[]) ⟨fun _ _ _ h=>by simp at h,fun _ _ h=>by simp at h,fun _ _ h=>by simp at h⟩ ra (by omega) (fun y hy=>P.tl y hy)
    simpa using this
  refine jZ (fun c1=>wpS_pure (h _ _ (.refl _) m0.done (o0.tu P c1 (by omega)))) (fun c1=>?_)
  refine jZ (fun c2=>wpS_pure (h _ _ (.refl _) m0.first (o0.Ge P c2 (by omega) (by omega)))) (fun c2=>?_)
  refine wpS_bind (wpS_get ?_)
  refine wpS_bind (wpS_mono (wpS_forRange (I:=fun x c st'=>c.1=none/\LR a b st (x+1) none c.2.2.2.1 c.2.1 c.2.2.1 st') (Q:=fun c st'=>eT st st'/\∃z,c.1=some z/\z.toList.Perm (a.toList++b.toList)/\cD z) ?step ?fin ⟨rfl, .none (.refl _) m0 o0 (by dsimp only;omega)⟩) ?post)
  case fin=>
    rintro c st' ⟨_,_,_,_,i1,i2,i3,i4,i5⟩
    omega
  case post=>
    rintro c st' ⟨S,z,e,hz,oz⟩
    rw[e]
    exact wpS_pure (h z st' S hz oz)
  case step=>
    rintro x ⟨r,ia,ib,out,mn⟩ st' _ hx ⟨e,S,m,o,i1,i2,i3,i4,i5⟩
    dsimp only at e m o i1 i2 i3 i4 i5
    subst e
    dsimp only
    refine wpS_bind (wpS_mono (wpS_forRange (I:=fun y c st'=>c.1=none/\LR a b st (x+1+y) none c.2.2.2.1 c.2.1 c.2.2.1 st') (Q:=fun c st'=>LR a b st (x+2) c.1 c.2.2.2.1 c.2.1 c.2.2.1 st') ?yX ?wI ⟨rfl, .none S m o (by dsimp only;omega)⟩) ?CK)
    case wI=>
      rintro⟨r,ia,ib,out,ac,bc⟩ st' ⟨e,S,m,o,i1,i2,i3,i4,i5⟩
      dsimp only at e m o i1 i2 i3 i4 i5
      subst e
      exact .none S m o (by dsimp only;omega)
    case yX=>
      clear S m o i1 i2 i3 i4 i5 hx m0 o0 c1 c2
      rintro y ⟨r,ia,ib,out,ac,bc⟩ st' _ hy ⟨e,S,m,o,i1,i2,i3,i4,i5⟩
      dsimp only at e m o i1 i2 i3 i4 i5
      subst e
      dsimp only
      obtain⟨p,rfl⟩:∃p,ia=p+1:=⟨ia-1,by omega⟩
      obtain⟨q,rfl⟩:∃q,ib=q+1+1:=⟨ib-2,by omega⟩
      simp only[Nat.add_sub_cancel]
      walk_at "ps"
      all_goals walk_at "pe"
    case CK=>
      rintro⟨r,ia,ib,out,ac,bc⟩ st' hL
      cases r with
      |some z=>exact wpS_pure ⟨hL.1,z,rfl,hL.2⟩
      | none =>
        obtain⟨S,m,o,i1,i2,i3,i4,i5⟩:=hL
        dsimp only at m o i1 i2 i3 i4 i5
        dsimp only
        refine wpS_bind (wpS_lift (wpAny_rule ⟨rfl,?_⟩))
        refine wpS_bind (wpS_mono (wpS_forRange (I:=fun y c st'=>c.1=none/\LR a b st (x+2) none c.2.2.2.1 c.2.1 c.2.2.1 st') (Q:=fun c st'=>LR a b st (x+2) c.1 c.2.2.2.1 c.2.1 c.2.2.1 st') ?xN ?yy ⟨rfl, .none S m o (by dsimp only;omega)⟩) ?wH)
        case yy=>
          rintro⟨r,ia,ib,out,mn,ac,bc⟩ st' ⟨e,S,m,o,i1,i2,i3,i4,i5⟩
          dsimp only at e m o i1 i2 i3 i4 i5
          subst e
          exact .none S m o (by dsimp only;omega)
        case xN=>
          clear S m o i1 i2 i3 i4 i5 hx m0 o0 c1 c2
          rintro y ⟨r,ia,ib,out,mn,ac,bc⟩ st' _ hy ⟨e,S,m,o,i1,i2,i3,i4,i5⟩
          dsimp only at e m o i1 i2 i3 i4 i5
          subst e
          dsimp only
          obtain⟨p,rfl⟩:∃p,ia=p+1:=⟨ia-1,by omega⟩
          obtain⟨q,rfl⟩:∃q,ib=q+1+1:=⟨ib-2,by omega⟩
          simp only[Nat.add_sub_cancel]
          walk_at "ps"
          all_goals walk_at "pe"
        case wH=>
          rintro⟨r,ia,ib,out,mn,ac,bc⟩ st' hL
          cases r with
          |some z=>exact wpS_pure ⟨hL.1,z,rfl,hL.2⟩
          | none =>
            obtain⟨S,m,o,i1,i2,i3,i4,i5⟩:=hL
            dsimp only at m o i1 i2 i3 i4 i5
            dsimp only
            exact vj S fun st' S'=>wpS_pure ⟨rfl, .none S' m o (by dsimp only;omega)⟩
end
end L2
set_option maxRecDepth 100000
set_option maxHeartbeats 4000000
namespace L2
open PySem PySem.Spec PyProof.Rows
def wK(l:List Keyed)(i:Nat):Int:=match l[i]? with|some x=>kd x|none=>0
theorem C3{a:Array Keyed}{i:Nat}:kz a i=wK a.toList i:=by unfold kz wK;rw[jC]<;>rfl
def sG(arr:Array Keyed)(r:Array Keyed)(sa:Nat):Array Keyed:=r.toList.zipIdx.foldl (fun(a:Array Keyed) (pj:Keyed×Nat)=>a.setIfInBounds (sa+pj.2) pj.1) arr
theorem rO{arr r:Array Keyed}{sa:Nat}(h:sa+r.size<=arr.size)(x:Nat):kz (sG arr r sa) x=if x<sa then kz arr x else if x<sa+r.size then kz r (x-sa) else kz arr x:=by
 have e:=yf sa r.toList 0 arr (by rw[cU];omega)
 rw[C3,C3,C3]
 unfold sG wK
 rw[e,cU,p7,eV,D6,jw,cU,Ad (by omega)]
 by_cases c1:x<sa
 ·rw[if_pos c1,if_pos c1,za c1]
 ·rw[if_neg c1,if_neg c1,D6,cU]
  by_cases c2:x<sa+r.size
  ·rw[if_pos (by omega),if_pos c2]
  ·rw[if_neg (by omega),if_neg c2,List.getElem?_drop,show sa+r.size+(x-sa-r.size)=x by omega]
theorem Ch.lies:∀{l:List (Nat×Nat×Nat)} {x y:Nat},Ch l x y->∀v∈l,x<=v.1/\v.1+v.2.1<=y
  |[],x,y,h,v,hv=>nomatch hv
  | (s, n, p) :: l, x, y, ⟨a, b, c⟩, v, hv => by
    have h1:=c.le
    rcases aG.mp hv with rfl|hv
    · exact⟨mz a.symm,by dsimp only;omega⟩
    · have:=Ch.lies c v hv
      omega
theorem Ch.apart{l:List (Nat×Nat×Nat)}{lo i:Nat}{sa na pw sb nb lA:Nat}(h:Ch l 0 lo)(e1:l[i]?=some (sa,na,pw))(e2:l[i+1]?=some (sb,nb,lA)):
  ∀v∈(l.set i (sa,na+nb,pw)).eraseIdx (i+1),v=(sa,na+nb,pw)\/(v∈l/\(v.1+v.2.1<=sa\/sb+nb<=v.1)):=by
 have hi:i<l.length:=(bW.mp e1).1
 have hi2:i+1<l.length:=(bW.mp e2).1
 have g1:=(bW.mp e1).2
 have g2:=(bW.mp e2).2
 have el:l=l.take i++(sa,na,pw)::(sb,nb,lA)::l.drop (i+2):=by
  have:=(kL i l).symm
  rwa[qB hi,qB hi2,g1,g2] at this
 have hl:(l.take i).length=i:=by rw[jw];omega
 generalize l.take i=A1 at*
 generalize l.drop (i+2)=A2 at*
 subst el
 obtain⟨y,c1,a1,a2,a3,a4,a5⟩:=Ch.append.mp h
 have e:((A1++(sa,na,pw)::(sb,nb,lA)::A2).set i (sa,na+nb,pw)).eraseIdx (i+1)=A1++(sa,na+nb,pw)::A2:=by
  rw[HB _ _ (by omega),hl,wM,List.set_cons_zero,GY (by omega),show i+1-A1.length=1 by omega]
  rfl
 rw[e]
 intro v hv
 rcases fR.mp hv with hv|hv
 ·have:=c1.lies v hv
  exact .inr ⟨om _ hv, .inl (by omega)⟩
 ·rcases aG.mp hv with rfl|hv
  ·exact .inl rfl
  ·have:=a5.lies v hv
   exact .inr ⟨jE _ (cH _ (cH _ hv)), .inr (by omega)⟩
theorem ext_mem{arr:Array Keyed}{i j:Nat}{x:Keyed}(h:x∈(arr.extract i j).toList):∃y,i<=y/\y<j/\kz arr y=kd x:=by
 obtain⟨k,hk⟩:=pI h
 rw[jC,C9] at hk
 by_cases c:k<min j arr.size-i
 ·rw[if_pos c] at hk
  exact⟨i+k,by omega,by omega,by unfold kz;rw[hk]⟩
 ·rw[if_neg c] at hk;cases hk
theorem Fj{arr r:Array Keyed}{p q t:Nat}(h1:p<=q)(h2:q<=t)(hr:r.toList.Perm ((arr.extract p q).toList++(arr.extract q t).toList)){x:Nat}(hx:x<r.size):∃y,p<=y/\y<t/\kz r x=kz arr y:=by
 have hm:r[x]∈r.toList:=by simp
 rcases fR.mp (hr.mem_iff.mp hm) with h|h
 ·obtain⟨y,y1,y2,e⟩:=ext_mem h
  exact⟨y,y1,by omega,by rw[dG hx,e]⟩
 ·obtain⟨y,y1,y2,e⟩:=ext_mem h
  exact⟨y,by omega,y2,by rw[dG hx,e]⟩
theorem Hi{arr r:Array Keyed}{sa sb na nb k k2:Nat}(hs:sb=sa+na)(hk:k<na)(h2:0<k2)(h3:k2<=nb)(hz:sb+nb<=arr.size)(rA:Ra arr sa (sa+na))(rB:Ra arr sb (sb+nb))
  (g1:∀x<k,kz arr (sa+x)<=kz arr sb) (g2:∀x,k2<=x->x<nb->kz arr (sb-1)<=kz arr (sb+x)) (hr:r.toList.Perm ((arr.extract (sa+k) sb).toList++(arr.extract sb (sb+k2)).toList)) (ru:cD r):
  r.size=sb+k2-(sa+k)/\Ra (sG arr r (sa+k)) sa (sa+(na+nb)):=by
 have hl:r.size=sb+k2-(sa+k):=by
  have:=hr.length_eq
  rw[c7,cU,cU,cU,fu,fu] at this
  omega
 refine⟨hl,fun i j hi hij hj=>?_⟩
 rw[rO (by omega),rO (by omega)]
 by_cases i1:i<sa+k
 ·rw[if_pos i1]
  have gi:=g1 (i-sa) (by omega)
  rw[show sa+(i-sa)=i by omega] at gi
  by_cases j1:j<sa+k
  ·rw[if_pos j1];exact rA i j hi hij (by omega)
  ·rw[if_neg j1]
   by_cases j2:j<sa+k+r.size
   ·rw[if_pos j2]
    obtain⟨y,y1,y2,e⟩:=Fj (by omega) (by omega) hr (x:=j-(sa+k)) (by omega)
    rw[e]
    by_cases c:y<sb
    ·exact rA i y hi (by omega) (by omega)
    ·have:=rB sb y (by omega) (by omega) (by omega)
     omega
   ·rw[if_neg j2]
    have:=rB sb j (by omega) (by omega) (by omega)
    omega
 ·rw[if_neg i1,if_neg (show¬j<sa+k by omega)]
  by_cases i2:i<sa+k+r.size
  ·rw[if_pos i2]
   by_cases j2:j<sa+k+r.size
   ·rw[if_pos j2];exact ru _ _ (by omega) (by omega) (by omega)
   ·rw[if_neg j2]
    obtain⟨y,y1,y2,e⟩:=Fj (by omega) (by omega) hr (x:=i-(sa+k)) (by omega)
    rw[e]
    by_cases c:y<sb
    ·have a1:=rA y (sb-1) (by omega) (by omega) (by omega)
     have a2:=g2 (j-sb) (by omega) (by omega)
     rw[show sb+(j-sb)=j by omega] at a2
     omega
    ·exact rB y j (by omega) (by omega) (by omega)
  ·rw[if_neg i2,if_neg (show¬j<sa+k+r.size by omega)];exact rB i j (by omega) hij (by omega)
theorem Nk{arr:Array Keyed}{sa sb na nb k k2:Nat}(hA:dI arr)(hs:sb=sa+na)(hk:k<na)(h2:0<k2)(h3:k2<=nb)(hz:sb+nb<=arr.size)(rA:Ra arr sa (sa+na))(rB:Ra arr sb (sb+nb))
  (g1:kz arr sb<=kz arr (sa+k)) (g2:∀x<k2,kz arr (sb+x)<=kz arr (sb-1)):Mp (arr.extract (sa+k) sb) (arr.extract sb (sb+k2)):=by
 have s1:(arr.extract (sa+k) sb).size=sb-(sa+k):=by rw[fu];omega
 have s2:(arr.extract sb (sb+k2)).size=k2:=by rw[fu];omega
 refine⟨fun i j h0 hij hj=>?_,fun i j h0 hij hj=>?_,hA.ext _ _,hA.ext _ _,?_,fun y hy=>?_⟩
 ·rw[dB (by omega) (by omega),dB (by omega) (by omega)];exact rA _ _ (by omega) (by omega) (by omega)
 ·rw[dB (by omega) (by omega),dB (by omega) (by omega)];exact rB _ _ (by omega) (by omega) (by omega)
 ·rw[dB (by omega) (by omega),dB (by omega) (by omega)];exact g1
 ·rw[dB (by omega) (by omega),dB (by omega) (by omega),s1,show sa+k+(sb-(sa+k)-1)=sb-1 by omega];exact g2 y (by omega)
def RU(st:SortSt):Prop:=∀v∈(pendingOf st).toList,Ra (arrOf st) v.1 (v.1+v.2.1)
theorem Ia{key:Keyed}{v:Int}:bF false key v↔v<=kd key:=by unfold bF;rw[if_neg bq]
theorem Jp{key:Keyed}{v:Int}:bF true key v↔v<kd key:=by unfold bF;rw[if_pos rfl]
theorem vD{a:Array Keyed}{i j:Nat}{h:i<a.size}(e:i=j):kd a[i]=kz a j:=by subst e;exact(dG h).symm
section
variable{prog:Program}{w:World}{A:Around}{E:Value->Shared->Prop}{s:Shared}{st:SortSt}{a₀:Array Keyed}{lo:Nat}
theorem xx{i:Nat}{Q:Bool->SortSt->Prop}(hA:dI a₀)(hI:SI a₀ lo st)(hU:RU st)(hlo:lo<=a₀.size)(hi:i+1<(pendingOf st).size)(h:∀st',SI a₀ lo st'->RU st'->(∀x,lo<=x->kz (arrOf st') x=kz (arrOf st) x)->(pendingOf st').size+1=(pendingOf st).size->Q true st'):wpS (model prog w) A E s (mergeAt' i) Q st:=by
 rw[JQ]
 refine wpS_bind (wpS_get ?_)
 obtain⟨⟨sa,na,pw⟩,e1⟩:∃v,(pendingOf st)[i]?=some v:=⟨_,getElem?_pos _ i (by omega)⟩
 obtain⟨⟨sb,nb,lA⟩,e2⟩:∃v,(pendingOf st)[i+1]?=some v:=⟨_,getElem?_pos _ (i+1) hi⟩
 rw[e1,e2]
 dsimp only
 have hs:=hI.size
 have l1:(pendingOf st).toList[i]?=some (sa,na,pw):=by rw[jC];exact e1
 have l2:(pendingOf st).toList[i+1]?=some (sb,nb,lA):=by rw[jC];exact e2
 obtain⟨b1,b2,b3,b4,b5⟩:=hI.ch.two l1 l2
 have hap:=hI.ch.apart l1 l2
 have rA:Ra (arrOf st) sa (sa+na):=hU _ (eY l1)
 have rB:Ra (arrOf st) sb (sb+nb):=hU _ (eY l2)
 have l5:=hA.perm hI.perm
 refine wpS_bind (Wi ?_)
 have hp2:(((pendingOf st).setIfInBounds i (sa,na+nb,pw)).eraseIdxIfInBounds (i+1)).toList=((pendingOf st).toList.set i (sa,na+nb,pw)).eraseIdx (i+1):=by
  rw[Array.toList_eraseIdxIfInBounds,Dt]
 have hsz:(((pendingOf st).setIfInBounds i (sa,na+nb,pw)).eraseIdxIfInBounds (i+1)).size+1=(pendingOf st).size:=by
  rw[<-cU,hp2,C8 (by rw[gQ];simpa using hi),gQ,cU]
  omega
 have I2:SI a₀ lo (setPending st (((pendingOf st).setIfInBounds i (sa,na+nb,pw)).eraseIdxIfInBounds (i+1))):=⟨hI.perm,hI.kind,hI.failed,by show Ch (((pendingOf st).setIfInBounds i (sa,na+nb,pw)).eraseIdxIfInBounds (i+1)).toList 0 lo;rw[hp2];exact b5⟩
 have DM:Ra (arrOf st) sa (sa+(na+nb))->RU (setPending st (((pendingOf st).setIfInBounds i (sa,na+nb,pw)).eraseIdxIfInBounds (i+1))):=fun hr v hv=>by
  have hv':v∈((pendingOf st).toList.set i (sa,na+nb,pw)).eraseIdx (i+1):=by rw[<-hp2];exact hv
  show Ra (arrOf st) v.1 (v.1+v.2.1)
  rcases hap v hv' with rfl|⟨hm,_⟩
  ·exact hr
  ·exact hU v hm
 refine wpS_bind (lK (by omega) ?_)
 refine wpS_bind (yC I2.kind (l5.at _) l5 (by omega) rA (by omega) fun k hk g1 qk=>?_)
 have G1:∀x<k,kz (arrOf st) (sa+x)<=kz (arrOf st) sb:=fun x hx=>by have:=Ia.mp (g1 x hx);rwa[vD rfl] at this
 have OL:∀x,k<=x->x<na->kz (arrOf st) sb<=kz (arrOf st) (sa+x):=fun x h1 h2=>Int.le_of_lt (Int.not_le.mp fun z=>qk x h1 h2 (Ia.mpr (by rw[vD rfl];exact z)))
 dsimp only
 refine jZ (fun c=>wpS_pure (h _ I2 (DM fun x y hx hxy hy=>?_) (fun _ _=>rfl) hsz)) (fun c=>?_)
 ·by_cases y1:y<sa+na
  ·exact rA x y hx hxy y1
  ·by_cases x1:x<sa+na
   ·have a1:=G1 (x-sa) (by omega)
    rw[show sa+(x-sa)=x by omega] at a1
    have a2:=rB sb y (by omega) (by omega) (by omega)
    omega
   ·exact rB x y (by omega) hxy (by omega)
 refine wpS_bind (lK (by omega) ?_)
 refine wpS_bind (yC I2.kind (l5.at _) l5 (by omega) rB (by omega) fun k2 hk2 g2 Og=>?_)
 have G2:∀x<k2,kz (arrOf st) (sb+x)<=kz (arrOf st) (sb-1):=fun x hx=>by have:=Jp.mp (g2 x hx);rw[vD (j:=sb-1) (by omega)] at this;omega
 have x9:∀x,k2<=x->x<nb->kz (arrOf st) (sb-1)<=kz (arrOf st) (sb+x):=fun x h1 h2=>Int.not_lt.mp fun z=>Og x h1 h2 (Jp.mpr (by rw[vD (j:=sb-1) (by omega)];exact z))
 dsimp only
 refine jZ (fun c=>wpS_pure (h _ I2 (DM fun x y hx hxy hy=>?_) (fun _ _=>rfl) hsz)) (fun c2=>?_)
 ·by_cases y1:y<sa+na
  ·exact rA x y hx hxy y1
  ·by_cases x1:x<sa+na
   ·have a1:=rA x (sb-1) (by omega) (by omega) (by omega)
    have a2:=x9 (y-sb) (by omega) (by omega)
    rw[show sb+(y-sb)=y by omega] at a2
    omega
   ·exact rB x y (by omega) hxy (by omega)
 have fin:∀(r:Array Keyed) (st':SortSt),eT (setPending st (((pendingOf st).setIfInBounds i (sa,na+nb,pw)).eraseIdxIfInBounds (i+1))) st'->r.toList.Perm (((arrOf st).extract (sa+k) sb).toList++((arrOf st).extract sb (sb+k2)).toList)->cD r->
   wpS (model prog w) A E s (do modify fun s=>setArr s (r.toList.zipIdx.foldl (fun a (p,j)=>a.setIfInBounds (sa+k+j) p) (arrOf s));return (failedOf (<-get)).isNone) Q st':=fun r st' S hr ru=>by
  obtain⟨q1,q2,q3,q4⟩:=S
  refine wpS_bind (wpS_modify (wpS_bind (wpS_get (wpS_pure ?_))))
  have hf:failedOf st'=none:=q4.trans hI.failed
  show Q (failedOf st').isNone _
  rw[hf]
  have e:arrOf st'=arrOf st:=q2
  refine h _ ⟨?_,q1.trans hI.kind,q4.trans hI.failed,?_⟩ ?_ ?_ ?_
  ·show(r.toList.zipIdx.foldl (fun(a:Array Keyed) (pj:Keyed×Nat)=>a.setIfInBounds (sa+k+pj.2) pj.1) (arrOf st')).toList.Perm a₀.toList
   rw[e]
   exact(Ob (by omega) (by omega) hr).trans hI.perm
  ·show Ch (pendingOf st').toList 0 lo
   rw[q3];exact I2.ch
  ·obtain⟨hl,hup⟩:=Hi b1 (by omega) (by omega) hk2 (by omega) rA rB G1 x9 hr ru
   intro v hv
   have hv1:v∈(pendingOf st').toList:=hv
   rw[q3] at hv1
   have hv':v∈((pendingOf st).toList.set i (sa,na+nb,pw)).eraseIdx (i+1):=by rw[<-hp2];exact hv1
   show Ra (sG (arrOf st') r (sa+k)) v.1 (v.1+v.2.1)
   rw[e]
   rcases hap v hv' with rfl|⟨hm,hd⟩
   ·exact hup
   ·intro x y hx hxy hy
    rw[rO (by omega),rO (by omega)]
    have:=hU v hm x y hx hxy hy
    rcases hd with hd|hd
    ·rw[if_pos (by omega),if_pos (by omega)];exact this
    ·rw[if_neg (by omega),if_neg (by omega),if_neg (by omega),if_neg (by omega)];exact this
  ·obtain⟨hl,hup⟩:=Hi b1 (by omega) (by omega) hk2 (by omega) rA rB G1 x9 hr ru
   intro x hx
   show kz (sG (arrOf st') r (sa+k)) x=_
   rw[e,rO (by omega),if_neg (by omega),if_neg (by omega)]
  ·show(pendingOf st').size+1=_
   rw[q3];exact hsz
 have hmp:=Nk l5 b1 (show k<na by omega) (show 0<k2 by omega) hk2 (by omega) rA rB (OL k (aF _) (by omega)) G2
 refine gk (fun c3=>wpS_bind ?_) (fun c3=>wpS_bind ?_)
 ·exact Rl I2.kind hmp (by rw[fu];omega) (by rw[fu];omega) fin
 ·exact Vq I2.kind hmp (by rw[fu];omega) (by rw[fu];omega) fin
end
end L2
set_option maxRecDepth 100000
set_option maxHeartbeats 4000000
namespace L2
open PySem PySem.Spec PyProof.Rows
theorem EY{a:Array Keyed}{i j:Nat}(hj:j<=a.size)(x:Nat):kz (mirror a i j ((j-i)/2)) x=if i<=x/\x<j then kz a (i+j-1-x) else kz a x:=by
 unfold kz
 rw[getElem?_mirror hj _ (by omega)]
 by_cases c:i<=x/\x<j
 ·rw[if_pos c]
  by_cases c2:(i<=x/\x<i+(j-i)/2)\/(j-(j-i)/2<=x/\x<j)
  ·rw[if_pos c2]
  ·rw[if_neg c2,show i+j-1-x=x by omega]
 ·rw[if_neg c,if_neg (by omega)]
theorem RP{a:Array Keyed}{src d:Nat}(hs:src<a.size)(hd:d<=src)(x:Nat):kz (bubble a src d) x=if x=src-d then kz a src else if src-d<x/\x<=src then kz a (x-1) else kz a x:=by
 unfold kz
 rw[getElem?_bubble hs d hd]
 by_cases c:x=src-d
 ·rw[if_pos c,if_pos c]
 ·rw[if_neg c,if_neg c]
  by_cases c2:src-d<x/\x<=src
  ·rw[if_pos c2,if_pos c2]
  ·rw[if_neg c2,if_neg c2]
section
variable{prog:Program}{w:World}{A:Around}{E:Value->Shared->Prop}{s:Shared}{st:SortSt}{a₀:Array Keyed}{lo:Nat}
theorem qA{i j:Nat}{α:Type}{f:Option Bool->StateT SortSt Sem α}{Q:α->SortSt->Prop}(hA:dI a₀)(hI:SI a₀ lo st)(hi:i<a₀.size)(hj:j<a₀.size)(h1:kz (arrOf st) i<kz (arrOf st) j->wpS (model prog w) A E s (f (some true)) Q st)(h2:kz (arrOf st) j<=kz (arrOf st) i->wpS (model prog w) A E s (f (some false)) Q st):wpS (model prog w) A E s (ltAt' i j>>=f) Q st:=by
 have hs:=hI.size
 have l5:=hA.perm hI.perm
 refine wpS_bind ?_
 rw[ltAt'_eq]
 refine wpS_bind (wpS_get ?_)
 refine wpS_bind (lK (by omega) (wpS_bind (lK (by omega) ?_)))
 rw[dG (by omega),dG (by omega)] at h1 h2
 exact vY hI.kind (l5.at _) (l5.at _) h1 h2
structure Kq(a₀:Array Keyed)(lo at_:Nat)(st st':SortSt):Prop where
 si:SI a₀ lo st'
 pd:pendingOf st'=pendingOf st
 sm:∀x<at_,kz (arrOf st') x=kz (arrOf st) x
theorem Kq.refl{at_:Nat}(h:SI a₀ lo st):Kq a₀ lo at_ st st:=⟨h,rfl,fun _ _=>rfl⟩
theorem rD{at_ i j:Nat}{st1:SortSt}{α:Type}{f:Unit->StateT SortSt Sem α}{Q:α->SortSt->Prop}(hK:Kq a₀ lo at_ st st1)(hi:at_<=i)(hj:j<=a₀.size)(h:∀st',Kq a₀ lo at_ st st'->(∀x,kz (arrOf st') x=if i<=x/\x<j then kz (arrOf st1) (i+j-1-x) else kz (arrOf st1) x)->wpS (model prog w) A E s (f ()) Q st'):wpS (model prog w) A E s (reverseSlice' i j>>=f) Q st1:=by
 have hs:=hK.si.size
 refine wpS_bind ?_
 rw[reverseSlice'_eq]
 refine wpS_modify (h _ ⟨hK.si.arr (mirror_perm _ _ _ _),hK.pd,fun x hx=>?_⟩ fun x=>EY (by omega) x)
 show kz (mirror (arrOf st1) i j ((j-i)/2)) x=_
 rw[EY (by omega),if_neg (by omega)]
 exact hK.sm x hx
theorem yZ{at_ a nrem:Nat}{α:Type}{Q:Option (Option α)×Nat->SortSt->Prop}(hA:dI a₀)(hI:SI a₀ lo st)(hn:at_+nrem<=a₀.size)(ha:1<=a)(han:a<=nrem)(hR:Ra (arrOf st) at_ (at_+a))(h:∀n,a<=n->n<=nrem->Ra (arrOf st) at_ (at_+n)->(n<nrem->kz (arrOf st) (at_+n)<kz (arrOf st) (at_+n-1))->Q (none,n) st):
  wpS (model prog w) A E s (forIn [a:nrem] ((none,a):Option (Option α)×Nat) fun _ __s=>do
   let __x<-ltAt' (at_+__s.snd) (at_+__s.snd-1)
   match __x with
   |some smaller=>if smaller=true then pure (ForInStep.done (none,__s.snd)) else pure (ForInStep.yield (none,__s.snd+1))
   |_=>pure (ForInStep.done (some none,__s.snd))) Q st:=by
 refine wpS_forRange (I:=fun x c st'=>st'=st/\c=(none,x)/\Ra (arrOf st) at_ (at_+x)) ?_ ?_ ⟨rfl,rfl,hR⟩
 ·rintro x c st' hax hxn ⟨rfl,rfl,hr⟩
  dsimp only
  refine qA hA hI (by omega) (by omega) (fun b=>?_) (fun b=>?_)
  ·exact ny (wpS_pure (h x hax (by omega) hr fun _=>b))
  ·refine nD (wpS_pure ⟨rfl,rfl,fun i j h1 h2 h3=>?_⟩)
   by_cases c:j<at_+x
   ·exact hr i j h1 h2 c
   ·rw[show j=at_+x by omega]
    by_cases c2:i<at_+x
    ·have:=hr i (at_+x-1) h1 (by omega) (by omega)
     omega
    ·rw[show i=at_+x by omega];omega
 ·rintro c st' ⟨rfl,rfl,hr⟩
  rw[show max a nrem=nrem by omega] at hr⊢
  exact h nrem han (aF _) hr fun z=>absurd z (by omega)
def Fe(a:Array Keyed)(lo hi q:Nat):Prop:=(∀i j,lo<=i->i<=j->j<hi->kz a j<=kz a i)/\lo+q+1<=hi/\∀x,hi-(q+1)<=x->x<hi->kz a x=kz a (hi-1)
theorem Fe.rev{a a':Array Keyed}{lo hi q:Nat}(h:Fe a lo hi q)(e:∀x,kz a' x=if hi-(q+1)<=x/\x<hi then kz a (hi-(q+1)+hi-1-x) else kz a x):∀x,kz a' x=kz a x:=fun x=>by
 rw[e x]
 obtain⟨h1,h2,h3⟩:=h
 by_cases c:hi-(q+1)<=x/\x<hi
 ·rw[if_pos c,h3 x c.1 c.2];exact h3 _ (by omega) (by omega)
 ·rw[if_neg c]
theorem Fe.same{a a':Array Keyed}{lo hi q:Nat}(h:Fe a lo hi q)(e:∀x,kz a' x=kz a x):Fe a' lo hi q:=⟨fun i j a b c=>by rw[e,e];exact h.1 i j a b c,h.2.1,fun x a b=>by rw[e,e];exact h.2.2 x a b⟩
theorem Fe.less{a:Array Keyed}{lo hi q:Nat}(h:Fe a lo hi q)(c:kz a hi<kz a (hi-1)):Fe a lo (hi+1) 0:=by
 obtain⟨h1,h2,h3⟩:=h
 refine⟨fun i j a1 a2 a3=>?_,by omega,fun x a1 a2=>by rw[show x=hi+1-1 by omega]⟩
 by_cases c1:j<hi
 ·exact h1 i j a1 a2 c1
 ·rw[show j=hi by omega]
  by_cases c2:i<hi
  ·have:=h1 i (hi-1) a1 (by omega) (by omega);omega
  ·rw[show i=hi by omega];omega
theorem Fe.Ui{a:Array Keyed}{lo hi q:Nat}(h:Fe a lo hi q)(c1:kz a (hi-1)<=kz a hi)(c2:kz a hi<=kz a (hi-1)):Fe a lo (hi+1) (q+1):=by
 obtain⟨h1,h2,h3⟩:=h
 refine⟨fun i j a1 a2 a3=>?_,by omega,fun x a1 a2=>?_⟩
 ·by_cases c1:j<hi
  ·exact h1 i j a1 a2 c1
  ·rw[show j=hi by omega]
   by_cases c2:i<hi
   ·have:=h1 i (hi-1) a1 (by omega) (by omega);omega
   ·rw[show i=hi by omega];omega
 ·rw[show hi+1-1=hi by omega]
  by_cases c:x<hi
  ·rw[h3 x (by omega) c];omega
  ·rw[show x=hi by omega]
theorem Fe.up{a a':Array Keyed}{lo hi q:Nat}(h:Fe a lo hi q)(e:∀x,kz a' x=if lo<=x/\x<hi then kz a (lo+hi-1-x) else kz a x):Ra a' lo hi:=fun i j h1 h2 h3=>by
 rw[e,e,if_pos (by omega),if_pos (by omega)]
 exact h.1 _ _ (by omega) (by omega) (by omega)
theorem M7{at_ nrem:Nat}{Q:Option Nat->SortSt->Prop}(hA:dI a₀)(hI:SI a₀ lo st)(hn:at_+nrem<=a₀.size)(h1:1<=nrem)(h:∀m st',Kq a₀ lo at_ st st'->1<=m->m<=nrem->Ra (arrOf st') at_ (at_+m)->Q (some m) st'):wpS (model prog w) A E s (countRun' at_ nrem) Q st:=by
 rw[countRun'_eq]
 have K0:Kq a₀ lo at_ st st:= .refl hI
 refine wpS_bind (yZ hA hI hn (aF 1) h1 (fun i j a b c=>by rw[show i=j by omega];omega) fun n n1 n2 hr hlt=>?_)
 dsimp only
 refine jZ (fun c=>wpS_pure (h n st K0 n1 n2 hr)) (fun c=>?_)
 have hlt:=hlt (by omega)
 refine gk (fun c2=>qA hA hI (by omega) (by omega) (fun b=>ny (wpS_pure (h n st K0 n1 n2 hr))) fun b=>nD (rD K0 (aF _) (by omega) fun st1 K1 e1=>?_)) (fun c2=>?_)
 rotate_left
 have K1:=K0
 have F1:Fe (arrOf st) at_ (at_+(n+1)) 0:=by
  refine Fe.less (hi:=at_+n) (q:=0) ⟨fun i j a b c=>by rw[show i=j by omega];omega,by omega,fun x a b=>by rw[show x=at_+n-1 by omega]⟩ hlt
 rotate_left
 have F1:Fe (arrOf st1) at_ (at_+(n+1)) 0:=by
  have al:∀i j,at_<=i->i<at_+n->at_<=j->j<at_+n->kz (arrOf st) i=kz (arrOf st) j:=fun i j a b c d=>by
   have x1:=hr at_ i (aF _) a b
   have x2:=hr at_ j (aF _) c d
   have x3:=hr i (at_+n-1) a (by omega) (by omega)
   have x4:=hr j (at_+n-1) c (by omega) (by omega)
   omega
  have el:∀x,kz (arrOf st1) x=kz (arrOf st) x:=fun x=>by
   rw[e1 x]
   by_cases c:at_<=x/\x<at_+n
   ·rw[if_pos c];exact al _ _ (by omega) (by omega) (by omega) (by omega)
   ·rw[if_neg c]
  refine Fe.less (hi:=at_+n) (q:=0) ⟨fun i j a b c=>?_,by omega,fun x a b=>by rw[show x=at_+n-1 by omega]⟩ (by rw[el,el];exact hlt)
  rw[el,el,al i j a (by omega) (by omega) c];omega
 all_goals
  refine wpS_bind (wpS_lift (wpAny_rule ⟨rfl,?_⟩))
  refine wpS_bind (wpS_mono (wpS_forRange (I:=fun x c st'=>Kq a₀ lo at_ st st'/\∃q,c=(none,x,q)/\Fe (arrOf st') at_ (at_+x) q) (Q:=fun c st'=>Kq a₀ lo at_ st st'/\∃x q,c=(none,x,q)/\1<=x/\x<=nrem/\Fe (arrOf st') at_ (at_+x) q) ?st ?fi ⟨K1,0,rfl,F1⟩) ?po)
  case st=>
   rintro x c st' tE hx2 ⟨K2,q,rfl,F2⟩
   dsimp only
   refine qA hA K2.si (by omega) (by omega) (fun b=>ny ?_) (fun b=>nD ?_)
   ·refine gk (fun _=>?_) (fun _=>?_)
    ·refine rD K2 (by have:=F2.2.1;omega) (by omega) fun st3 K3 e3=>wpS_pure ⟨K3,0,rfl,?_⟩
     have e4:=F2.rev e3
     exact(F2.same e4).less (by rw[e4,e4];exact b)
    ·exact wpS_pure ⟨K2,0,rfl,F2.less b⟩
   ·refine qA hA K2.si (by omega) (by omega) (fun b2=>ny ?_) (fun b2=>nD ?_)
    ·exact wpS_pure ⟨K2,x,q,rfl,by omega,by omega,F2⟩
    ·exact wpS_pure ⟨K2,q+1,rfl,F2.Ui b b2⟩
  case fi=>
   rintro c st' ⟨K2,q,rfl,F2⟩
   exact⟨K2,_,q,rfl,by omega,by omega,F2⟩
  case po=>
   rintro c st' ⟨K2,x,q,rfl,x1,x2,F2⟩
   dsimp only
   refine gk (fun _=>?_) (fun _=>?_)
   ·refine rD K2 (by have:=F2.2.1;omega) (by omega) fun st3 K3 e3=>rD K3 (aF _) (by omega) fun B4 K4 e4=>wpS_bind (yZ hA K4.si hn x1 x2 ((F2.same (F2.rev e3)).up e4) fun m m1 m2 hm _=>wpS_pure (h m B4 K4 (by omega) m2 hm))
   ·refine rD K2 (aF _) (by omega) fun B4 K4 e4=>wpS_bind (yZ hA K4.si hn x1 x2 (F2.up e4) fun m m1 m2 hm _=>wpS_pure (h m B4 K4 (by omega) m2 hm))
end
end L2
set_option maxRecDepth 100000
set_option maxHeartbeats 4000000
namespace L2
open PySem PySem.Spec PyProof.Rows
theorem Ch.len:∀{l:List (Nat×Nat×Nat)} {x y:Nat},Ch l x y->l.length+x<=y
 |[],x,y,h=>by rw[BF];exact mz (by rw[tL];exact h)
 |(s,n,p)::l,x,y,⟨a,b,c⟩=>by have:=Ch.len c;rw[eB];omega
section
variable{prog:Program}{w:World}{A:Around}{E:Value->Shared->Prop}{s:Shared}{st st':SortSt}{a₀:Array Keyed}{lo:Nat}
theorem Kq.ru(K:Kq a₀ lo lo st st')(hI:SI a₀ lo st)(hU:RU st):RU st':=fun v hv=>by
 rw[K.pd] at hv
 have h1:=hI.ch.lies v hv
 intro x y hx hxy hy
 rw[K.sm x (by omega),K.sm y (by omega)]
 exact hU v hv x y hx hxy hy
theorem RU.push{l n z:Nat}(hU:RU st)(hm:Ra (arrOf st) l (l+n)):RU (setPending st ((pendingOf st).push (l,n,z))):=fun v hv=>by
 have hv':v∈((pendingOf st).push (l,n,z)).toList:=hv
 rw[jK] at hv'
 show Ra (arrOf st) v.1 (v.1+v.2.1)
 rcases fR.mp hv' with h|h
 ·exact hU v h
 ·rw[aP.mp h];exact hm
theorem RU.pw{i:Nat}(hU:RU st)(pw:Nat):RU (setPending st ((pendingOf st).modify i fun x=>(x.1,x.2.1,pw))):=fun v hv=>by
  have hv':v∈((pendingOf st).modify i fun x=>(x.1,x.2.1,pw)).toList:=hv
  rw[z9] at hv'
  show Ra (arrOf st) v.1 (v.1+v.2.1)
  obtain⟨k,hk⟩:=pI hv'
  rw[List.getElem?_modify] at hk
  cases e:(pendingOf st).toList[k]? with
  |none=>rw[e] at hk;cases hk
  | some u =>
    rw[e] at hk
    have hu:=hU u (eY e)
    simp only[Option.map_eq_map,Option.map_some,Option.some.injEq] at hk
    by_cases c:i=k
    · rw[if_pos c] at hk;rw[<-hk];exact hu
    · rw[if_neg c] at hk;rw[<-hk];exact hu
theorem RU.all(hU:RU st)(hc:Ch (pendingOf st).toList 0 lo)(h1:(pendingOf st).size<=1):Ra (arrOf st) 0 lo:=by
  rw[<-cU] at h1
  unfold RU at hU
  cases e:(pendingOf st).toList with
  | nil =>
    rw[e] at hc
    have:0=lo:=hc
    intro i j _ _ h;omega
  | cons v r =>
    obtain⟨p,n,z⟩:=v
    rw[e] at h1 hc hU
    have er:r=[]:=by cases r with|nil=>rfl|cons _ _=>simp at h1
    subst er
    obtain⟨a,b,c⟩:=hc
    have c':0+n=lo:=c
    have:=hU (p,n,z) (bV ..)
    dsimp only at this
    rwa[a,c'] at this
theorem Sh{at_ n ok:Nat}{Q:Bool->SortSt->Prop}(hA:dI a₀)(hI:SI a₀ lo st)(hn:at_+n<=a₀.size)(Xf:1<=ok)(okn:ok<=n)(hR:Ra (arrOf st) at_ (at_+ok))(h:∀st',Kq a₀ lo at_ st st'->Ra (arrOf st') at_ (at_+n)->Q true st'):wpS (model prog w) A E s (binarySort' at_ n ok) Q st:=by
 rw[binarySort'_eq,show max ok 1=ok by omega]
 refine wpS_bind (wpS_mono (wpS_forRange (I:=fun k c st'=>c=(none,())/\Kq a₀ lo at_ st st'/\Ra (arrOf st') at_ (at_+k)) (Q:=fun c st'=>c=(none,())/\Kq a₀ lo at_ st st'/\Ra (arrOf st') at_ (at_+n)) ?step ?fin ⟨rfl, .refl hI,hR⟩) ?post)
 case fin=>
  rintro c st' ⟨rfl,K2,r2⟩
  rw[show max ok n=n by omega] at r2
  exact⟨rfl,K2,r2⟩
 case post=>
  rintro c st' ⟨rfl,K2,r2⟩
  exact wpS_pure (h st' K2 r2)
 case step=>
  rintro k c st' hk1 hk2 ⟨rfl,K2,r2⟩
  have hs:=K2.si.size
  refine wpS_bind (wpS_mono (wpS_forRange (I:=fun x c st''=>st''=st'/\∃l r,c=(none,l,r)/\r<=k/\l<=r/\r-l+x<=k/\(∀y<l,kz (arrOf st') (at_+y)<=kz (arrOf st') (at_+k))/\∀y,r<=y->y<k->kz (arrOf st') (at_+k)<=kz (arrOf st') (at_+y)) (Q:=fun c st''=>st''=st'/\∃l r,c=(none,l,r)/\l<=k/\(∀y<l,kz (arrOf st') (at_+y)<=kz (arrOf st') (at_+k))/\∀y,l<=y->y<k->kz (arrOf st') (at_+k)<=kz (arrOf st') (at_+y)) ?is ?fi ⟨rfl,0,k,rfl,aF _,fG _,by omega,fun y hy=>absurd hy (by omega),fun y a b=>absurd b (by omega)⟩) ?ip)
  case fi=>
   rintro c st'' ⟨rfl,l,r,rfl,hr,hlr,hx,q1,q2⟩
   exact⟨rfl,l,r,rfl,by omega,q1,fun y a b=>q2 y (by omega) b⟩
  case is=>
   rintro x c st'' _ hx ⟨rfl,l,r,rfl,hr,hlr,hz,q1,q2⟩
   dsimp only
   refine gk (fun c1=>wpS_pure ⟨rfl,l,r,rfl,by omega,q1,fun y a b=>q2 y (by omega) b⟩) (fun c1=>?_)
   refine qA hA K2.si (by omega) (by omega) (fun b=>ny ?_) (fun b=>nD ?_)
   ·refine wpS_pure ⟨rfl,_,_,rfl,by omega,by omega,by omega,q1,fun y a1 a2=>?_⟩
    have:=r2 (at_+(l+r)/2) (at_+y) (by omega) (by omega) (by omega)
    omega
   ·refine wpS_pure ⟨rfl,_,_,rfl,hr,by omega,by omega,fun y a1=>?_,q2⟩
    have:=r2 (at_+y) (at_+(l+r)/2) (by omega) (by omega) (by omega)
    omega
  case ip=>
   rintro c st'' ⟨rfl,l,r,rfl,hr,q1,q2⟩
   show wpS _ _ _ _ (do moveDown' (at_+k) (at_+l);pure (ForInStep.yield (none,()))) _ _
   rw[moveDown'_eq]
   have eb:∀x,kz (bubble (arrOf st'') (at_+k) (at_+k-(at_+l))) x=if x=at_+l then kz (arrOf st'') (at_+k) else if at_+l<x/\x<=at_+k then kz (arrOf st'') (x-1) else kz (arrOf st'') x:=fun x=>by
    rw[RP (by omega) (by omega),show at_+k-(at_+k-(at_+l))=at_+l by omega]
   refine wpS_bind (wpS_modify (wpS_pure ⟨rfl,⟨K2.si.arr (bubble_perm _ _ _),K2.pd,fun x hx=>?_⟩,fun i j h1 h2 h3=>?_⟩))
   ·show kz (bubble (arrOf st'') (at_+k) (at_+k-(at_+l))) x=_
    rw[eb,if_neg (by omega),if_neg (by omega)]
    exact K2.sm x hx
   ·show kz (bubble (arrOf st'') (at_+k) (at_+k-(at_+l))) i<=kz (bubble (arrOf st'') (at_+k) (at_+k-(at_+l))) j
    rw[eb,eb]
    by_cases i1:i=at_+l
    ·rw[if_pos i1]
     by_cases j1:j=at_+l
     ·rw[if_pos j1];omega
     ·rw[if_neg j1,if_pos (by omega)]
      have:=q2 (j-1-at_) (by omega) (by omega)
      rwa[show at_+(j-1-at_)=j-1 by omega] at this
    ·rw[if_neg i1]
     by_cases i2:at_+l<i/\i<=at_+k
     ·rw[if_pos i2,if_neg (show¬j=at_+l by omega),if_pos (show at_+l<j/\j<=at_+k by omega)]
      exact r2 _ _ (by omega) (by omega) (by omega)
     ·rw[if_neg i2]
      by_cases j1:j=at_+l
      ·rw[if_pos j1]
       have:=q1 (i-at_) (by omega)
       rwa[show at_+(i-at_)=i by omega] at this
      ·rw[if_neg j1]
       by_cases j2:at_+l<j/\j<=at_+k
       ·rw[if_pos j2];exact r2 _ _ (by omega) (by omega) (by omega)
       ·rw[if_neg j2];exact r2 _ _ (by omega) (by omega) (by omega)
theorem Vz{Q:Unit->SortSt->Prop}(hA:dI a₀)(hI:SI a₀ 0 st)(hU:RU st)(h:∀st',(arrOf st').toList.Perm a₀.toList->Ra (arrOf st') 0 a₀.size->failedOf st'=none->Q () st'):wpS (model prog w) A E s sortRuns' Q st:=by
  rw[sortRuns'_eq]
  refine wpS_bind (wpS_get ?_)
  dsimp only
  have hs:=hI.size
  rw[hs]
  refine wpS_bind (wpS_mono (wpS_forRange (I:=fun x c st'=>∃l,c=(none,l)/\(SI a₀ l st'/\RU st')/\l<=a₀.size/\(x<=l\/l=a₀.size)) (Q:=fun c st'=>c=(none,a₀.size)/\SI a₀ a₀.size st'/\RU st') ?step ?fin ⟨0,rfl,⟨hI,hU⟩,by omega, .inl (aF _)⟩) ?post)
  case fin=>
    rintro c st' ⟨l,rfl,I2,h1,h2⟩
    have:l=a₀.size:=by omega
    subst this
    exact⟨rfl,I2.1,I2.2⟩
  case step=>
    rintro x c st' _ hx ⟨l,rfl,I2,h1,h2⟩
    dsimp only
    refine gk (fun c1=>?_) (fun c1=>?_)
    · have:l=a₀.size:=by omega
      subst this
      exact wpS_pure ⟨rfl,I2.1,I2.2⟩
    refine wpS_bind (M7 hA I2.1 (by omega) (by omega) fun m st2 K3 m1 m2 hm=>?_)
    have I3:SI a₀ l st2/\RU st2:=⟨K3.si,K3.ru I2.1 I2.2⟩
    dsimp only
    refine gk (fun c2=>wpS_bind (wpS_lift (wpAny_rule ⟨rfl,wpS_bind (Sh (n:=min (a₀.size-l) (minRun' a₀.size a₀.size 0)) hA I3.1 (by omega) m1 (by omega) hm fun st3 K4 hm=>?_)⟩))) (fun c2=>?_)
    · have I4:SI a₀ l st3/\RU st3:=⟨K4.si,K4.ru I3.1 I3.2⟩
      simp only[se,ku,if_false]
      have n1:1<=min (a₀.size-l) (minRun' a₀.size a₀.size 0):=by omega
      have n2:min (a₀.size-l) (minRun' a₀.size a₀.size 0)<=a₀.size-l:=by omega
      generalize min (a₀.size-l) (minRun' a₀.size a₀.size 0)=n at n1 n2 hm⊢
      refine wpS_bind (wpS_get ?_)
      cases hb:(pendingOf st3).back? with
      | none =>
        dsimp only
        refine wpS_bind (wpS_modify (wpS_pure ⟨l+n,rfl,⟨⟨I4.1.perm,I4.1.kind,I4.1.failed,?_⟩,I4.2.push hm⟩,by omega,by omega⟩))
        show Ch ((pendingOf st3).push (l,n,0)).toList 0 (l+n)
        rw[jK]
        exact Ch.append.mpr ⟨l,I4.1.ch,rfl,n1,rfl⟩
      | some v =>
        obtain⟨s1,k1,KG⟩:=v
        dsimp only
        generalize power' a₀.size (2*s1+k1) (2*s1+k1+k1+n) a₀.size=pw
        refine wpS_bind (wpS_mono (wpS_forRange (I:=fun y c st'=>c=(none,())/\SI a₀ l st'/\RU st'/\Ra (arrOf st') l (l+n)) (Q:=fun c st'=>c=(none,())/\SI a₀ l st'/\RU st'/\Ra (arrOf st') l (l+n)) ?is (fun c st' z=>z) ⟨rfl,I4.1,I4.2,hm⟩) ?ip)
        case is=>
          rintro y c st'' _ _ ⟨rfl,I5⟩
          refine wpS_bind (wpS_get ?_)
          by_cases c5:(pendingOf st'').size>1
          · rw[if_pos c5]
            obtain⟨⟨q1,q2,q3⟩,eq⟩:∃v,(pendingOf st'')[(pendingOf st'').size-2]?=some v:=⟨_,getElem?_pos _ _ (by omega)⟩
            rw[eq]
            dsimp only
            refine gk (fun _=>wpS_pure ⟨rfl,I5⟩) (fun _=>?_)
            refine wpS_bind (xx hA I5.1 I5.2.1 h1 (by omega) fun Fb I6 U6 E6 _=>?_)
            simp only[se,ku,if_false]
            exact wpS_pure ⟨rfl,I6,U6,fun x y h1 h2 h3=>by rw[E6 x (by omega),E6 y (by omega)];exact I5.2.2 x y h1 h2 h3⟩
          · rw[if_neg c5];exact wpS_pure ⟨rfl,I5⟩
        case ip=>
          rintro c st'' ⟨rfl,I5⟩
          dsimp only
          refine wpS_bind (wpS_modify (wpS_bind (wpS_modify (wpS_pure ⟨l+n,rfl,⟨⟨I5.1.perm,I5.1.kind,I5.1.failed,?_⟩,(I5.2.1.pw pw).push I5.2.2⟩,by omega,by omega⟩))))
          show Ch (((pendingOf st'').modify ((pendingOf st'').size-1) fun x=>(x.1,x.2.1,pw)).push (l,n,0)).toList 0 (l+n)
          rw[jK,z9]
          exact Ch.append.mpr ⟨l,Ch.pw (f:=fun x=>(x.1,x.2.1,pw)) (fun v=>⟨rfl,rfl⟩) I5.1.ch,rfl,n1,rfl⟩
    · have I4:=I3
      have n1:=m1
      have n2:=m2
      generalize m=n at n1 n2 hm⊢
      generalize st2=st3 at I4 hm⊢
      refine wpS_bind (wpS_get ?_)
      cases hb:(pendingOf st3).back? with
      | none =>
        dsimp only
        refine wpS_bind (wpS_modify (wpS_pure ⟨l+n,rfl,⟨⟨I4.1.perm,I4.1.kind,I4.1.failed,?_⟩,I4.2.push hm⟩,by omega,by omega⟩))
        show Ch ((pendingOf st3).push (l,n,0)).toList 0 (l+n)
        rw[jK]
        exact Ch.append.mpr ⟨l,I4.1.ch,rfl,n1,rfl⟩
      | some v =>
        obtain⟨s1,k1,KG⟩:=v
        dsimp only
        generalize power' a₀.size (2*s1+k1) (2*s1+k1+k1+n) a₀.size=pw
        refine wpS_bind (wpS_mono (wpS_forRange (I:=fun y c st'=>c=(none,())/\SI a₀ l st'/\RU st'/\Ra (arrOf st') l (l+n)) (Q:=fun c st'=>c=(none,())/\SI a₀ l st'/\RU st'/\Ra (arrOf st') l (l+n)) ?is (fun c st' z=>z) ⟨rfl,I4.1,I4.2,hm⟩) ?ip)
        case is=>
          rintro y c st'' _ _ ⟨rfl,I5⟩
          refine wpS_bind (wpS_get ?_)
          by_cases c5:(pendingOf st'').size>1
          · rw[if_pos c5]
            obtain⟨⟨q1,q2,q3⟩,eq⟩:∃v,(pendingOf st'')[(pendingOf st'').size-2]?=some v:=⟨_,getElem?_pos _ _ (by omega)⟩
            rw[eq]
            dsimp only
            refine gk (fun _=>wpS_pure ⟨rfl,I5⟩) (fun _=>?_)
            refine wpS_bind (xx hA I5.1 I5.2.1 h1 (by omega) fun Fb I6 U6 E6 _=>?_)
            simp only[se,ku,if_false]
            exact wpS_pure ⟨rfl,I6,U6,fun x y h1 h2 h3=>by rw[E6 x (by omega),E6 y (by omega)];exact I5.2.2 x y h1 h2 h3⟩
          · rw[if_neg c5];exact wpS_pure ⟨rfl,I5⟩
        case ip=>
          rintro c st'' ⟨rfl,I5⟩
          dsimp only
          refine wpS_bind (wpS_modify (wpS_bind (wpS_modify (wpS_pure ⟨l+n,rfl,⟨⟨I5.1.perm,I5.1.kind,I5.1.failed,?_⟩,(I5.2.1.pw pw).push I5.2.2⟩,by omega,by omega⟩))))
          show Ch (((pendingOf st'').modify ((pendingOf st'').size-1) fun x=>(x.1,x.2.1,pw)).push (l,n,0)).toList 0 (l+n)
          rw[jK,z9]
          exact Ch.append.mpr ⟨l,Ch.pw (f:=fun x=>(x.1,x.2.1,pw)) (fun v=>⟨rfl,rfl⟩) I5.1.ch,rfl,n1,rfl⟩
  case post=>
    rintro c st' ⟨rfl,I2,U2⟩
    dsimp only
    refine wpS_bind (wpS_mono (wpS_forRange (I:=fun y c st''=>c=(none,())/\SI a₀ a₀.size st''/\RU st''/\(pendingOf st'').size+y<=a₀.size) (Q:=fun c st''=>c=(none,())/\SI a₀ a₀.size st''/\RU st''/\(pendingOf st'').size<=1) ?is ?fi ⟨rfl,I2,U2,by have:=I2.ch.len;rw[cU] at this;omega⟩) ?ip)
    case fi=>
      rintro c st'' ⟨rfl,I5,U5,z⟩
      exact⟨rfl,I5,U5,by omega⟩
    case is=>
      rintro y c st'' _ _ ⟨rfl,I5,U5,z⟩
      refine wpS_bind (wpS_get ?_)
      refine gk (fun c6=>wpS_pure ⟨rfl,I5,U5,c6⟩) (fun c6=>?_)
      refine wpS_bind (xx hA I5 U5 (aF _) ?_ fun Fb I6 U6 _ z6=>?_)
      · exact vG (Nat.add_le_add_right Pp 1) (by omega)
      simp only[se,ku,if_false]
      exact wpS_pure ⟨rfl,I6,U6,by omega⟩
    case ip=>
      rintro c st'' ⟨rfl,I5,U5,z⟩
      exact wpS_pure (h _ I5.perm (U5.all I5.ch z) I5.failed)
end
end L2
set_option maxRecDepth 100000
set_option maxHeartbeats 4000000
namespace L2
open PySem PySem.Spec PyProof.Rows
theorem UO{vs:List Value}{ns:List Int}(hI:IntsAre vs ns){xs:Array Keyed}(hp:xs.toList.Perm (pairsOf vs).toList)(hr:Ra xs 0 xs.size):
  ∃ns',IntsAre (xs.map (·.2)).toList ns'/\ns'.Perm ns/\ns'.Pairwise (· <= ·):=by
 obtain⟨ns',h1,h2⟩:=MV hI hp
 refine⟨ns',h1,h2,?_⟩
 have hl:xs.toList.Perm (vs.zip vs):=by rw[<-pairsOf_toList];exact hp
 have e:ns'=xs.toList.map kd:=by
  rw[<-h1.nums,Array.toList_map,iz]
  refine v5 fun p nL=>?_
  obtain⟨e1,e2⟩:=mem_zip_self (hl.mem_iff.mp nL)
  obtain⟨n,t,e3⟩:=hI.all _ e2
  show numOf p.2=kd p
  unfold kd
  rw[<-e1,e3];rfl
 rw[e,Ca]
 intro i j hi hj hij
 rw[List.getElem_map,List.getElem_map]
 rw[ak,cU] at hi hj
 have:=hr i j (fG _) (jP hij) hj
 rw[dG hi,dG hj] at this
 simpa using this
section
variable{prog:Program}{w:World}{A:Around}{E:Value->Shared->Prop}{s:Shared}
theorem LP{a:Addr}{vs:List Value}{ns:List Int}{n:Nat}{P:Fin->Shared->Prop}(ho:s.heap.get? a=some (seqObj "list" vs.toArray n))
  (hI:IntsAre vs ns) (hz:vs.length<=100000)
  (h:∀(out:Array Value) (ns':List Int),IntsAre out.toList ns'->ns'.Perm ns->ns'.Pairwise (· <= ·)->P (.done (.ret .none)) {s with heap:=sortedHeap s.heap a vs out}):
  wpAny (model prog w) A (Builtin.«list.sort» ⟨[.ref a],[]⟩) P E s:=by
 rw[list_sort_plain]
 have hZ:vs.length<=sizeLine:=by rw[sizeLine_eq];omega
 have ha:a<s.heap.objs.size:=bw ho
 refine wpAny_bind (listItems_at ho rfl ?_)
 refine wpAny_bind (listUpdate_at ho rfl ?_ (hsz:=by rw[dg];exact hZ))
 obtain⟨e1,FF⟩:∃e1,(s.heap.update a (Obj.mapSeq fun _=> #[])).get? a=some (seqObj "list" #[] e1):=⟨_,get?_update_seq ho (fun _=> #[])⟩
 refine wpAny_bind (seqEpoch_at FF rfl ?_)
 refine wpAny_bind (wpAny_newTuple ?_)
 refine wpAny_bind (wpAny_newList ?_)
 refine wpAny_holding ?_
 have ho6:(((s.heap.update a (Obj.mapSeq fun _=> #[])).push (seqObj "tuple" vs.toArray 0)).push (seqObj "list" #[] 0)).get? a=some (seqObj "list" #[] e1):=by
  rw[Heap.get?_push_ne _ _ _ (by rw[size_push',Heap.size_update];exact cW (lZ ha)),Heap.get?_push_ne _ _ _ (by rw[Heap.size_update];exact cW ha)]
  exact FF
 show wpAny (model prog w) A _ P E {s with heap:=((s.heap.update a (Obj.mapSeq fun _=> #[])).push (seqObj "tuple" vs.toArray 0)).push (seqObj "list" #[] 0)}
 dsimp only
 have hsz:vs.toArray.size=vs.length:=by simp
 have fin:∀st':SortSt,(arrOf st').toList.Perm (pairsOf vs).toList->Ra (arrOf st') 0 (pairsOf vs).size->
   P (.done (.ret .none)) {s with heap:=sortedHeap s.heap a vs ((arrOf st').map (·.2))}:=by
  intro st' hp hr
  have e:=hp.length_eq
  rw[cU,cU] at e
  obtain⟨ns',h1,h2,h3⟩:=UO hI hp (by rw[e];exact hr)
  exact h _ ns' h1 h2 h3
 by_cases h2:vs.toArray.size<2
 ·rw[if_pos h2,if_pos h2]
  refine wpAny_bind (wpAny_pure ?_)
  rw[StateT.run_pure]
  refine wpAny_bind (wpAny_pure ?_)
  dsimp only
  refine wpAny_bind (seqEpoch_at ho6 rfl ?_)
  refine wpAny_bind (listUpdate_at ho6 rfl ?_ (hsz2:=by rw[Array.size_map];show(pairsOf vs).size<=_;rw[pairsOf_size,sizeLine_eq];omega))
  simp only[bne_self_eq_false,ku,if_false]
  exact wpAny_pure (fin (SortSt.mk' general' (vs.toArray.zip vs.toArray) #[] 7 none) (xB _) fun i j _ h3 h4=>by
   rw[pairsOf_size] at h4
   have:i=j:=by omega
   rw[this];omega)
 ·rw[if_neg h2,if_neg h2]
  obtain⟨v₁,v₂,rest,rfl⟩:∃v₁ v₂ rest,vs=v₁::v₂::rest:=by
   match vs,hsz,h2 with
   |[],_,h2=>simp at h2
   |[_],_,h2=>simp at h2
   |v₁::v₂::rest,_,_=>exact⟨v₁,v₂,rest,rfl⟩
  rw[keyKind_ints hI]
  refine wpAny_bind (wpAny_pure ?_)
  refine wpAny_bind (wpAny_mono (Vz (a₀:=pairsOf (v₁::v₂::rest)) (st:=SortSt.mk' oneType' ((v₁::v₂::rest).toArray.zip (v₁::v₂::rest).toArray) #[] 7 none)
   (Q:=fun _ st'=>(arrOf st').toList.Perm (pairsOf (v₁::v₂::rest)).toList/\Ra (arrOf st') 0 (pairsOf (v₁::v₂::rest)).size/\failedOf st'=none)
   (TL hI) ⟨xB _,rfl,rfl,rfl⟩ (fun v hv=>by have z:v∈([]:List (Nat×Nat×Nat)):=hv;cases z) fun st' a1 a3 a2=>⟨a1,a3,a2⟩) ?_ fun _ _ e=>e)
  rintro⟨⟨⟩,st'⟩ s' ⟨rfl,hp,hr,hf⟩
  dsimp only
  refine wpAny_bind (seqEpoch_at ho6 rfl ?_)
  refine wpAny_bind (listUpdate_at ho6 rfl ?_ (hsz2:=by
   have:=hp.length_eq
   rw[cU,cU,pairsOf_size] at this
   show((arrOf st').map (·.2)).size<=_
   rw[Array.size_map,this]
   omega))
  rw[hf]
  simp only[bne_self_eq_false,ku,if_false]
  exact wpAny_pure (fin st' hp hr)
variable{a:Addr}
end
end L2
set_option maxRecDepth 100000
set_option maxHeartbeats 4000000
namespace L2
open PySem PySem.Spec PyProof.Rows
def zJ(K:PySem.W.Frag):List V->Hp->VK->Prop:=fun xs H Q=>∃p,∃ns:List Int,xs=[.ref p]/\aS K H p (ns.map V.int)/\Q (.int ns.sum) H
def sH(K:PySem.W.Frag):List V->Hp->VK->Prop:=fun xs H Q=>∃p,∃bs:List Bool,xs=[.ref p]/\aS K H p (bs.map V.bl)/\Q (.bl (bs.all id)) H
section
variable{X:Cx}
theorem Ku(hc:X.calm=true):fW X (.builtin "sum") (zJ X.K):=by
 intro pins s σ H xs us Q I rv h
 obtain⟨p,ns,rfl,hp,q⟩:=h
 obtain⟨u,rfl,ru⟩:=vals1 rv
 cases ru
 obtain⟨its,rs,il,hz⟩:=I.list hp
 have hI:=w6 rs
 obtain⟨ys,e⟩:=hI.allInts.items
 have hn:=hI.numsOf
 refine sum_intListG (xs:=ys) (I.ok.hd hc) (by rw[<-e];exact il.isList) fun h' tk t' kp=>?_
 have e2:preSum (numAt ys) ys.size=ns.sum:=by
  rw[preSum_eq,nQ (by simp),<-nums_intItems,<-e,<-hn]
 rw[e2]
 exact⟨.int ns.sum,H,I.kept kp,⟨_,rfl⟩,q⟩
theorem yg(hc:X.calm=true):fW X (.builtin "all") (sH X.K):=by
  intro pins s σ H xs us Q I rv h
  obtain⟨p,bs,rfl,hp,q⟩:=h
  obtain⟨u,rfl,ru⟩:=vals1 rv
  cases ru
  obtain⟨its,rs,il,hz⟩:=I.list hp
  have hl:=rs.length
  have hv:∀(i:Nat) (v:Value),its.toArray[i]?=some v->v= .bool (bs.getD i false):=fun i v e=>by
    have hi:i<bs.length:=by
      have:=(qt.mp e).1
      rw[ak] at hl
      simp at this;omega
    obtain⟨u,hu,ru⟩:=rs.get (i:=i) (x:= .bl bs[i]) (by rw[bI,aI hi];rfl)
    rw[EW,hu] at e
    cases e
    rw[dW,aI hi]
    exact ru
  have ll:=il.isList
  have hlt:p<s.heap.objs.size:=by obtain⟨o,e,_⟩:=ll;exact bw e
  refine call_all_walk (wpAny_pyIter_list ll ⟨s.heap.objs.size,_,_,_,_,_,fun i=>bs.getD i false,rfl,Walks.list (A:=X.A.in1) (I.ok.hd hc) _ p (cW hlt) its.toArray,⟨⟨_,fP _ rfl,rfl,rfl⟩,ll.push _⟩,fun i v s Q E hP hQ=>?_,fun h' tk kp=>?_⟩)
  · rw[hv i v hP];exact wpAny_truthy_bool hQ
  · have e:(List.range its.toArray.size).all (fun i=>bs.getD i false)=bs.all id:=by
      have hs:its.toArray.size=bs.length:=by rw[ak] at hl;simp;omega
      rw[hs]
      clear hv hl rs q hp hs hz
      induction bs with
      |nil=>rfl
      | cons b r ih =>
        rw[eB,IA,mD,mD,List.all_map]
        simpa[Function.comp_def] using congrArg (b && ·) ih
    rw[e]
    refine⟨.bl (bs.all id),H,I.kept fun b o q=>kp b o (fun m=>?_) (bQ _ q),rfl,q⟩
    have:=aP.mp m
    rw[this] at q
    exact absurd (bw q) (iR _)
end
section
variable{G:Gx}{ρ:Rh}{te:TE}{K:PySem.W.Frag}{Φ:Pd}
theorem Ev.sum(h:Ev G ρ te fun _ x=>∃ns:List Int,x= .list (ns.map .int)/\Φ true (.int ns.sum)):Ev G ρ (fJ (zJ K) (bC te cz)) Φ:=fun nb σ H Q W z=>
 h nb σ H _ W fun f v H1 x ⟨ns,ex,q⟩ s1 hv=>by
  subst ex
  obtain⟨a,xs,rfl,na,hx,hd⟩:=hv.dU
  have e:=sQ hd
  subst e
  exact⟨a,ns,rfl, .of hx,z true _ H1 _ q s1 (.int _)⟩
theorem GF{nb:Addr->Prop}{H:Hp}:∀{is:List Bool} {xs:List V},af nb H (is.map PyData.bool) xs->xs=is.map V.bl
  |[],_,h=>by unfold List.map af at h;exact h
  | i :: is, _, h => by
    rw[bx] at h
    unfold af at h
    obtain⟨y,ys,rfl,h1,h2⟩:=h
    unfold ai at h1
    rw[bx,h1,GF h2]
theorem Ev.all(h:Ev G ρ te fun _ x=>∃bs:List Bool,x= .list (bs.map .bool)/\Φ true (.bool (bs.all id))):Ev G ρ (fJ (sH K) (bC te cz)) Φ:=fun nb σ H Q W z=>
 h nb σ H _ W fun f v H1 x ⟨bs,ex,q⟩ s1 hv=>by
  subst ex
  obtain⟨a,xs,rfl,na,hx,hd⟩:=hv.dU
  have e:=GF hd
  subst e
  exact⟨a,bs,rfl, .of hx,z true _ H1 _ q s1 (.bl _)⟩
end
end L2
set_option maxRecDepth 100000
set_option maxHeartbeats 4000000
namespace L2
open PySem PySem.Spec PyProof.Rows
def iK:PyData->String->Bool
 | .bool _,T=>T=="bool" ||T=="int"
 | .int _,T=>T=="int"
 | .str _,T=>T=="str"
 | .list _,T=>T=="list"
 | .tuple _,T=>T=="tuple"
 |_,_=>false
def wY:PyData->String
 | .none=> "NoneType" | .bool _=> "bool" | .int _=> "int" | .str _=> "str" | .list _=> "list" | .tuple _=> "tuple" | .dict _=> "dict"
theorem Ih(ds:List PyData):iK (.list ds) "list"=true/\iK (.list ds) "tuple"=false:=⟨rfl,rfl⟩
theorem Dl(ds:List PyData):iK (.tuple ds) "list"=false/\iK (.tuple ds) "tuple"=true:=⟨rfl,rfl⟩
theorem T9{K:PySem.W.Frag}{nb:Addr->Prop}{H:Hp}{d:PyData}{v:V}(h:ai nb H d v):gX K H v (.type (wY d)):=by
 cases d<;>unfold ai at h
 ·subst h;exact .aC
 ·subst h;exact .bl _
 ·subst h;exact .int _
 ·subst h;exact .str _
 ·obtain⟨a,xs,rfl,_,e,_⟩:=h;exact .lst e
 ·obtain⟨a,xs,rfl,_,e,_⟩:=h;exact .tup e
 ·obtain⟨a,xs,rfl,_,e,_⟩:=h;exact e.elim .dK fun⟨_,e⟩=> .DZ e
def oZ(T:String):Prop:=T="int" \/T="bool" \/T="list" \/T="tuple" \/T="str"
theorem Hx{K:PySem.W.Frag}{d:PyData}{T:String}(hT:oZ T):PySem.W.kitOne K (.type (wY d)) (.type T)=some (iK d T):=by
 rcases hT with rfl|rfl|rfl|rfl|rfl<;>cases d<;>(with_unfolding_all rfl)
theorem DW{K:PySem.W.Frag}{d:PyData}:∀{Ts:List String},(∀T∈Ts,oZ T)->PySem.W.kitAny K (.type (wY d)) (Ts.map Value.type)=some (Ts.any (iK d))
  |[],_=>rfl
  | T :: r, h => by
    rw[bx]
    unfold PySem.W.kitAny
    rw[Hx (h T (bV ..)),lB]
    cases iK d T with
    |true=>rfl
    |false=>exact DW fun T m=>h T (cH _ m)
def tU:List V->Hp->VK->Prop:=fun xs H Q=>∃(x:V) (tp:Addr) (Ts:List String) (nb:Addr->Prop) (d:PyData),xs=[x, .ref tp]/\H tp=some (.tup (Ts.map V.ty))/\ai nb H d x/\(∀T∈Ts,oZ T)/\Q (.bl (Ts.any (iK d))) H
theorem FT:∀{Ts:List String} {us:List Value},Vals (Ts.map V.ty) us->us=Ts.map Value.type
 |[],_, .nil=>rfl
 |T::r,_, .cons h t=>by rw[bx,FT t,show _=Value.type T from h]
section
variable{X:Cx}
theorem El:fW X (.builtin "isinstance") tU:=by
 intro pins s σ H xs us Q I rv h
 obtain⟨x,tp,Ts,nb,d,rfl,ht,hd,h5,q⟩:=h
 obtain⟨u,v,rfl,ru,rv⟩:=rv.two
 cases (show v=Value.ref tp from rv)
 obtain⟨_,its,vt,o,ho,hc,n,hdat⟩:=(show cA X.prog X.w H s.heap tp (.tup (Ts.map V.ty)) from I.hok tp _ ht)
 have e:=FT vt
 subst e
 obtain⟨c0,d0,dt,sl⟩:=o
 dsimp only at hc hdat
 subst hc hdat
 have fin:∀tk,EP X pins σ Q (.bool (Ts.any (iK d))) {s with toks:=tk}:=fun tk=>⟨.bl _,H,I.tok tk,rfl,q⟩
 have ka:=DW (K:=X.K) (d:=d) h5
 cases d<;>unfold ai at hd
 ·subst hd;cases (show u=Value.none from ru);exact nM PySem.W.kitx_none I.cC True.intro ho ka (fun z=>nomatch z) fin
 ·subst hd;cases (show u=Value.bool _ from ru);exact nM PySem.W.kitx_bool I.cC True.intro ho ka (fun z=>nomatch z) fin
 ·subst hd;obtain⟨t,rfl⟩:=(show∃t,u=Value.int _ t from ru);exact nM PySem.W.kitx_int I.cC True.intro ho ka (fun z=>nomatch z) fin
 ·subst hd;obtain⟨t,rfl⟩:=(show∃t,u=Value.str _ t from ru);exact nM PySem.W.kitx_str I.cC True.intro ho ka (fun z=>nomatch z) fin
 ·obtain⟨a,ys,rfl,_,ea,_⟩:=hd
  cases (show u=Value.ref a from ru)
  obtain⟨_,_,n,_,h1⟩:=(show cA X.prog X.w H s.heap a (.lst ys) from I.hok a _ ea)
  exact nM BO I.cC ⟨_,h1,rfl⟩ ho ka (fun z=>nomatch z) fin
 ·obtain⟨a,ys,rfl,_,ea,_⟩:=hd
  cases (show u=Value.ref a from ru)
  obtain⟨_,_,_,o',h1,h2,_⟩:=(show cA X.prog X.w H s.heap a (.tup ys) from I.hok a _ ea)
  exact nM PySem.W.kitx_tuple I.cC ⟨o',h1,h2⟩ ho ka (fun z=>nomatch z) fin
 ·obtain⟨a,ys,rfl,_,ea,_⟩:=hd
  cases (show u=Value.ref a from ru)
  obtain⟨_,_,vs,_,dd⟩:=(show cA X.prog X.w H s.heap a (.dK ys) from ea.ok I.hok)
  exact nM vg I.cC dd.typeIs ho ka (fun z=>nomatch z) fin
end
section
variable{G:Gx}{ρ:Rh}{ta tb te:TE}{K:PySem.W.Frag}{Φ:Pd}{T U:String}
theorem Ev.QF(hT:oZ T)(h:Ev G ρ te fun _ x=>Φ true (.bool (iK x T))):Ev G ρ (fJ (g6 K) (bC te (bC (tC (.ty T)) cz))) Φ:=fun nb σ H Q W z=>
 h nb σ H _ W fun f v H1 d q s1 hv=>⟨v,T,_,_,rfl,T9 hv,Hx hT,z true _ H1 _ q s1 (.bl _)⟩
theorem Ev.US(hT:oZ T)(hU:oZ U)(h:Ev G ρ te fun _ x=>Φ true (.bool (iK x T||iK x U))):Ev G ρ (fJ tU (bC te (bC (sI (bC (tC (.ty T)) (bC (tC (.ty U)) cz))) cz))) Φ:=fun nb σ H Q W z=>
 h nb σ H _ W fun f v H1 d q s1 hv=>by
  refine⟨by show 2<=sizeLine;decide,fun p hp=>⟨v,p,[T,U],G.S nb f,d,rfl,bh,hv.keep (aU.of (cP hp)),fun S m=>?_,?_⟩⟩
  ·rcases aG.mp m with e|m
   ·rw[e];exact hT
   ·rw[aP.mp m];exact hU
  ·rw[lB,lB,List.any_nil,m5]
   exact z true _ _ _ q (s1.trans (.same s1.2 (cP hp))) (.bl _)
theorem Ev.Cf(h:Ev G ρ te fun _ x=>∃ds,(x= .list ds\/x= .tuple ds)/\Φ true (.int ds.length)):Ev G ρ (fJ (fQ K) (bC te cz)) Φ:=fun nb σ H Q W z=>
 h nb σ H _ W fun f v H1 d ⟨ds,e,q⟩ s1 hv=>by
  rcases e with e|e
  ·subst e
   obtain⟨a,xs,rfl,n,hx,hd⟩:=hv.dU
   exact⟨a,xs,rfl, .inl (.of hx),by rw[hd.length];exact z true _ H1 _ q s1 (.int _)⟩
  ·subst e
   obtain⟨a,xs,rfl,n,hx,hd⟩:=hv.ofT
   exact⟨a,xs,rfl, .inr (.of hx),by rw[hd.length];exact z true _ H1 _ q s1 (.int _)⟩
theorem Ev.BZ(h:Ev G ρ ta fun f x=>∃ds,(x= .list ds\/x= .tuple ds)/\Ev G ρ tb fun _ y=>∃k,y= .int k/\∃e,bU ds k=some e/\Φ f e):Ev G ρ (dD (uK K) ta tb) Φ:=
 Ev.jY (h.mono fun f x ⟨ds,ex,q⟩=>q.mono fun g y ⟨k,ey,e,he,p⟩ nb σ H u v Q W hu hv z=>by
  subst ey
  rcases ex with ex|ex
  ·subst ex
   obtain⟨a,xs,rfl,n,hx,hd⟩:=hu.dU
   obtain⟨w,hw,hD⟩:=hd.bU he
   exact .inl ⟨a,xs,k,w,rfl,hv.bR, .of hx,hw,z f _ H _ p (.refl W.au) hD⟩
  ·subst ex
   obtain⟨a,xs,rfl,n,hx,hd⟩:=hu.ofT
   obtain⟨w,hw,hD⟩:=hd.bU he
   exact .inr (.inl ⟨a,xs,k,w,rfl,hv.bR, .of hx,hw,z f _ H _ p (.refl W.au) hD⟩))
end
theorem Callee.void{P:Program}{w:World}{K:PySem.W.Frag}{mg:Str->Option Value}{base:Heap}{x:Str}{st:Stmt}{k:Nat}{ps:List Str}{sp:Sp}{f:Addr}{fd:FuncData}(F:bH K x x st f fd)(b:Binds K fd ps [])(m:mg x=some (.ref f))(hv:∀vs H Q E,¬sp vs H Q E):Callee P w K mg base x k ps sp:=
 ⟨f,fd,⟨fun vs H Q E h=>(hv vs H Q E h).elim,fun A outer s H args us vs Q E _ _ _ _ h=>(hv vs H Q E h).elim⟩,b,F.kp,m⟩
end L2
set_option maxRecDepth 100000
set_option maxHeartbeats 4000000
namespace L2
open PySem PySem.Spec PyProof.Rows
section
variable{G:Gx}{ρ bY:Rh}{te:TE}{gt:TG}{n i:Nat}{it:Nat->PyData->Prop}{fi:Bool}{Θ:Bool->List PyData->Prop}{E:DE}
theorem wB(os:List Int):eu (os.map PyData.int)=true:=by
 unfold eu
 rw[jJ]
 intro x hx
 obtain⟨y,_,rfl⟩:=cZ.mp hx
 rfl
theorem eX.ints(P:Int->Prop)(ht:∀i d,it i d->Gv G bY gt fi d fun fY=>Wk bY fY/\Ev G fY te fun _ e=>∃r:Int,e= .int r/\P r)(h:∀os:List Int,os.length=n->(∀x∈os,P x)->Θ true (os.map .int)):eX G bY n it fi gt sr te Θ:=by
 refine⟨false,fun i ds=>ds.length=i/\∃os:List Int,ds=os.map .int/\∀x∈os,P x,⟨rfl,[],rfl,fun _ h=>nomatch h⟩,?_,?_⟩
 ·rintro i d ds hd hl ⟨hl2,os,rfl,ho⟩
  refine fun nb σ H v Q W hv z=>ht i d hd nb σ H v Q W hv fun σ' ρ' ⟨w,q⟩ W'=>z σ' ρ' ⟨w,Tv.qi (tY (q.mono fun f e ⟨r,ee,hr⟩=>⟨fun z=>(by cases z),?_,os++[r],?_,fun x hx=>?_⟩))⟩ W'
  ·rw[c7,kj,hl2]
  ·rw[ee];simp
  ·rcases fR.mp hx with h|h
   ·exact ho x h
   ·rw[aP.mp h];exact hr
 ·rintro ds hl ⟨hl2,os,rfl,ho⟩
  rw[wB,Bb]
  exact h os (by rw[ak] at hl2;exact hl2) ho
theorem eX.rel{α:Type}(φ:α->PyData)(fl:Bool)(P:Nat->α->Prop)(ht:∀i d,it i d->Gv G bY gt fi d fun fY=>Wk bY fY/\Ev G fY te fun f e=>(fl=true->f=true)/\∃r:α,e=φ r/\P i r)
  (h:∀os:List α,os.length=n->(∀(i:Nat) x,os[i]?=some x->P i x)->Θ (fl||eu (os.map φ)) (os.map φ)):eX G bY n it fi gt sr te Θ:=by
 refine⟨fl,fun i ds=>ds.length=i/\∃os:List α,ds=os.map φ/\∀(i:Nat) x,os[i]?=some x->P i x,⟨rfl,[],rfl,fun j x e=>by simp at e⟩,?_,?_⟩
 ·rintro i d ds hd hl ⟨hl2,os,rfl,ho⟩
  refine fun nb σ H v Q W hv z=>ht i d hd nb σ H v Q W hv fun σ' ρ' ⟨w,q⟩ W'=>z σ' ρ' ⟨w,Tv.qi (tY (q.mono fun f e ⟨hf,r,ee,hr⟩=>⟨hf,?_,os++[r],?_,fun j x hj=>?_⟩))⟩ W'
  ·rw[c7,kj,hl2]
  ·rw[ee];simp
  ·rw[ak] at hl2
   rcases Nat.lt_trichotomy j os.length with h|h|h
   ·exact ho j x (by rwa[fF h] at hj)
   ·subst h
    simp at hj
    subst hj
    rw[hl2];exact hr
   ·rw[gM (by rw[c7,kj];omega)] at hj
    cases hj
 ·rintro ds hl ⟨hl2,os,rfl,ho⟩
  exact h os (by rw[ak] at hl2;exact hl2) ho
theorem Sv.FQ(h:∀a,E.nx (ρ.set i (.own a true []))):Sv G ρ (fS (pX cz) (gP i)) E:=Sv.zT (aB.lst (Av.nil ⟨by decide,fun a=>h a⟩))
end
def Em:R2:=fun x y H Q=>∃a b:Bool,x= .bl a/\y= .bl b/\Q (.bl (a==b)) H
theorem Rw{X:Cx}:cR X (compareOp .Is) Em:=by
 intro pins s σ H x y v u Q I rx ry h
 obtain⟨a,b,rfl,rfl,q⟩:=h
 cases (show v=Value.bool a from rx)
 cases (show u=Value.bool b from ry)
 have:compareOp .Is (Value.bool a) (Value.bool b)=pure (Value.bool (a==b)):=by cases a<;>cases b<;>rfl
 rw[this]
 exact wpAny_pure ⟨.bl _,H,I,rfl,q⟩
theorem Ev.V5{G:Gx}{ρ:Rh}{ta:TE}{b:Bool}{Φ:Pd}(h:Ev G ρ ta fun _ x=>∃a,x= .bool a/\Φ true (.bool (a==b))):Ev G ρ (dD Em ta (tC (.bl b))) Φ:=fun nb σ H Q W z=>
 h nb σ H _ W fun f v H1 d ⟨a,e,q⟩ s1 hv=>by
  subst e
  unfold ai at hv
  subst hv
  exact⟨a,b,rfl,rfl,z true _ H1 _ q s1 (.bl _)⟩
theorem j8{X:Cx}{K:PySem.W.Frag}{a:Expr}{ta:TE}(hK:X.K=K)(ha:PE X a ta)(he:∀whole,isTrue a X.env whole=(do let v<-whole;standAt a.pos;holding [v] (truthy v))):PT X a (Dz K ta):=by
 subst hK
 exact Wc ha he
theorem tZ{X:Cx}{K:PySem.W.Frag}{es:List Expr}{k:Nat}{t:g7}{n:Nat}{pos:Pos}(hK:X.K=K)(hc:X.calm=true)(h:qO X es t)(hn:(assignEach es X.env).length=n:=by rfl)(hst:(assignEach es X.env).findIdx? (·.1)=none:=by rfl):PG X (.Tuple es k pos) (vB K n t):=by
 subst hK
 exact DK hc h hn hst
theorem r6{α β:Type}{os:List β}{xs:List α}{φ:α->β}(hl:os.length=xs.length)(h:∀(i:Nat) o,os[i]?=some o->∃x,xs[i]?=some x/\o=φ x):os=xs.map φ:=by
 apply jX
 intro i
 by_cases hi:i<os.length
 ·obtain⟨x,hx,e⟩:=h i _ (aI hi)
  rw[aI hi,bI,hx,e];rfl
 ·rw[gM (by omega),bI,gM (by omega)];rfl
theorem Sv.uQ{G:Gx}{ρ:Rh}{s:TS}{E:DE}(I:Rh->Prop)(h:Sv G ρ s {E with nx:=I})(hI:∀ρ',I ρ'->E.nx ρ'):Sv G ρ s E:=fun nb σ H D W K=>h nb σ H D W ⟨fun nb ρ σ H q W=>K.nx nb ρ σ H (hI ρ q) W,K.bk,K.ct,K.rt,K.rw⟩
theorem Ev.Up{G:Gx}{ρ:Rh}{tb:TE}{K:PySem.W.Frag}{Φ:Pd}(h:Ev G ρ tb fun _ y=>∃wd:Wo,y=fN wd/\Φ true (.bool (decide (none∈wd)))):Ev G ρ (dD (wg K false) (tC .aC) tb) Φ:=fun nb σ H Q W z=>
 h nb σ H _ W fun f v H1 d ⟨wd,e,q⟩ s1 hv=>by
  subst e
  obtain⟨a,xs,rfl,na,hx,hd⟩:=hv.dU
  have ex:=BC hd
  subst ex
  refine⟨a,wd.map oG,rfl, .inl (.of hx),rfl,?_,?_⟩
  ·rw[jJ]
   intro x hx
   obtain⟨o,_,rfl⟩:=cZ.mp hx
   cases o<;>rfl
  ·have e:lH V.aC (wd.map oG)=decide (none∈wd):=by
    unfold lH
    rw[List.any_map,jS,sP,decide_eq_true_eq]
    constructor
    ·rintro⟨o,m,h⟩
     cases o with
     |none=>exact m
     |some x=>cases h
    ·intro m
     exact⟨none,m,rfl⟩
   show Q (.bl (if false=true then _ else _)) H1
   rw[if_neg bq,e]
   exact z true _ H1 _ q s1 (.bl _)
def P9(p:Int):Prop:=2<=p/\p<=10^60
def nN(p:Int)(cs:List az)(wd:Wo):Prop:=none∉wd/\∀prs∈cs,aQ prs wd%p=0
instance{p:Int}{cs:List az}{wd:Wo}:Decidable (nN p cs wd):=by unfold nN;infer_instance
theorem pick{L:List Int}{k:Int}(h0:0<=k)(h1:k<L.length)(P:Int->Prop)(hP:∀x∈L,P x):∃x,bU (L.map PyData.int) k=some (.int x)/\P x:=by
 have hL:k.toNat<L.length:=by omega
 exact⟨L[k.toNat],jx h0 (by rw[bI,aI hL];rfl),hP _ (gx hL)⟩
end L2
set_option maxRecDepth 100000
set_option maxHeartbeats 4000000
namespace L2
open PySem PySem.Spec PyProof.Rows
theorem QT{α:Type}{xs:List α}{k:Int}(h0:0<=k)(h1:k<=xs.length):gy xs none (some k)=xs.take k.toNat:=by
 unfold gy HT.dw
 simp only[oJ,B8]
 congr 1
 first|omega|(split<;>omega)
theorem R6{α:Type}{xs:List α}{k:Int}(h0:0<=k)(h1:k<=xs.length):gy xs (some k) none=xs.drop k.toNat:=by
 have e:HT.dw xs.length 0 (some k)=k.toNat:=by
  show(if k<0 then _ else _)=_
  rw[if_neg (by omega)];omega
 unfold gy
 rw[e,HT.U4]
 exact nQ (by rw[qv];omega)
theorem ud(a b:az)(wd:Wo):aQ (a++b) wd=aQ a wd+aQ b wd:=by
 unfold aQ;rw[eZ,List.sum_append]
theorem nA(a:Int×Int)(b:az)(wd:Wo):aQ (a::b) wd=i9 wd a+aQ b wd:=by
 unfold aQ;rw[bx,t6]
end L2
set_option maxRecDepth 100000
set_option maxHeartbeats 4000000
namespace L2
open PySem PySem.Spec PyProof.Rows
theorem IU:∀xs ys:List Int,PyData.eqvAll (xs.map PyData.int) (ys.map PyData.int)=decide (xs=ys)
  |[],[]=>by simp[PyData.eqvAll]
  |[],y::ys=>by simp[PyData.eqvAll]
  |x::xs,[]=>by simp[PyData.eqvAll]
  | x :: xs, y :: ys => by
    simp only[bx,PyData.eqvAll,IU xs ys]
    have:PyData.eqv (.int x) (.int y)=decide (x=y):=by rw[jS];simp[PyData.eqv]
    rw[this,jS]
    simp
theorem QE(xs ys:List Int):PyData.eqv (.list (xs.map .int)) (.list (ys.map .int))=decide (xs=ys):=by
 simp only[PyData.eqv]
 exact IU xs ys
theorem shaped_ints(xs:List Int):SeqAt.shaped (.list (xs.map .int))=true:=by
 have h:=t9 (xs.map some)
 have e:(xs.map some).map c8=xs.map PyData.int:=by rw[iz];rfl
 rw[e] at h
 unfold SeqAt.shaped
 simp[PyData.canLay0,PyData.depth,h.1,h.2]
theorem oY{w:List Int}{pr:Int×Int}{x:Int}(h:w[pr.1.toNat]?=some x):i9 (w.map some) pr=pr.2*x:=by
 unfold i9
 rw[bI,h];rfl
end L2
set_option maxRecDepth 100000
set_option maxHeartbeats 4000000
namespace L2
open PySem PySem.Spec PyProof.Rows
def Fc(K:PySem.W.Frag)(te:TE)(ts:TO):TE:=fun σ H Q=>te σ H fun x H1=>ts σ H1 fun k H2=>k=some (-1)/\∃a xs,x= .ref a/\aS K H2 a xs/\∀p,H2 p=none->Q (.ref p) (upd H2 p (.lst xs.reverse))
theorem af.rev{nb:Addr->Prop}{H:Hp}:∀{ds:List PyData} {xs:List V},af nb H ds xs->af nb H ds.reverse xs.reverse
  |[],xs,h=>by unfold af at h;subst h;exact .nil
  | d :: ds, xs, h => by
    unfold af at h
    obtain⟨y,ys,e,h1,h2⟩:=h
    subst e
    rw[List.reverse_cons,List.reverse_cons]
    exact af.append (af.rev h2) (.cons h1 .nil)
section
variable{G:Gx}{ρ:Rh}{Φ:Pd}{ta tb te:TE}{K:PySem.W.Frag}
theorem aB.rev{ts:TO}{Θ:Bool->List PyData->Prop}(h:Ev G ρ te fun f x=>∃ds,x= .list ds/\Ov G ρ ts fun o=>o=some (-1)/\Θ (f||eu ds.reverse) ds.reverse):aB G ρ (Fc K te ts) Θ:=fun nb σ H Q W z=>
 h nb σ H _ W fun f v H1 d ⟨ds,e,q⟩ s1 hv=>q nb σ H1 _ (W.step s1) fun o H2 ⟨eo,q2⟩ s2=>by
  subst e
  obtain⟨a,xs,rfl,n,hx,hd⟩:=(hv.keep s2.dj).dU
  exact⟨eo,a,xs,rfl, .of hx,fun p hp=>aB.fin W (s1.trans s2) hp hd.rev q2 z⟩
theorem Ev.rev{ts:TO}(h:Ev G ρ te fun f x=>∃ds,x= .list ds/\Ov G ρ ts fun o=>o=some (-1)/\Φ (f||eu ds.reverse) (.list ds.reverse)):Ev G ρ (Fc K te ts) Φ:=(aB.rev (Θ:=fun f ds=>Φ f (.list ds)) h).ev
theorem Vt{X:Cx}{K:PySem.W.Frag}(hK:X.K=K):cR X (compareOp .In) (wg K false):=by subst hK;exact Sb
theorem Ev.WO{ng:Bool}(h:Ev G ρ ta fun _ x=>∃k:Int,x= .int k/\Ev G ρ tb fun _ y=>∃ns:List Int,y= .list (ns.map .int)/\Φ true (.bool (decide (k∈ns) !=ng))):Ev G ρ (dD (wg K ng) ta tb) Φ:=fun nb σ H Q W z=>
 h nb σ H _ W fun f v H1 d ⟨k,e,q⟩ s1 hv=>q nb σ H1 _ (W.step s1) fun g u H2 d2 ⟨ns,e2,p⟩ s2 hu=>by
  subst e e2
  have hk:=hv.bR
  subst hk
  obtain⟨a,xs,rfl,na,hx,hd⟩:=hu.dU
  have ex:=sQ hd
  subst ex
  refine⟨a,ns.map V.int,rfl, .inl (.of hx),rfl,?_,?_⟩
  ·rw[jJ]
   intro x hx
   obtain⟨o,_,rfl⟩:=cZ.mp hx
   rfl
  ·have e:lH (V.int k) (ns.map V.int)=decide (k∈ns):=by
    unfold lH
    rw[List.any_map,jS,sP,decide_eq_true_eq]
    constructor
    ·rintro⟨o,m,h⟩
     have:o=k:=eq_of_beq h
     exact this▸m
    ·intro m
     exact⟨k,m,beq_self_eq_true k⟩
   have e2:(if ng=true then !lH (V.int k) (ns.map V.int) else lH (V.int k) (ns.map V.int))=(decide (k∈ns) !=ng):=by
    rw[e]
    cases ng<;>simp
   rw[e2]
   exact z true _ H2 _ p (s1.trans s2) (.bl _)
end
def Vg(p n:Int)(prs:az):Prop:=prs≠[]/\(prs.Pairwise fun a b=>a.1<b.1)/\∀pr∈prs,0<=pr.1/\pr.1<n/\1<=pr.2/\pr.2<p
end L2
set_option maxRecDepth 100000
set_option maxHeartbeats 1000000
namespace PC
def aD(n:Nat):Prop:=2<=n/\∀d,d∣n->d=1\/d=n
def tr(q:Nat):Nat->Nat->Bool
 |0,_=>false
 |f+1,d=>if q<d*d then true else if q%d=0 then false else tr q f (d+1)
theorem Hy{q:Nat}:∀{f d:Nat},tr q f d=true->∀e,d<=e->e*e<=q->q%e≠0
  |0,_,h=>by simp[tr] at h
  | f + 1, d, h => by
    intro e hde hee
    unfold tr at h
    by_cases h1:q<d*d
    · have:=Nat.mul_le_mul hde hde
      omega
    · rw[if_neg h1] at h
      by_cases h2:q%d=0
      · rw[if_pos h2] at h;cases h
      · rw[if_neg h2] at h
        by_cases h3:d=e
        · rw[<-h3];exact h2
        · exact Hy h e (by omega) hee
theorem Dw{q:Nat}(h2:2<=q)(h:∀e,2<=e->e*e<=q->q%e≠0):aD q:=by
 refine⟨h2,fun d hd=>?_⟩
 obtain⟨e,he⟩:=hd
 by_cases d1:d=1
 ·exact .inl d1
 by_cases e1:e=1
 ·right;rw[he,e1,A9]
 exfalso
 have d0:d≠0:=fun z=>by rw[z,A7] at he;omega
 have e0:e≠0:=fun z=>by rw[z,Nat.mul_zero] at he;omega
 by_cases hle:d<=e
 ·refine h d (by omega) (by rw[he];exact Nat.mul_le_mul_left d hle) ?_
  rw[he];exact Nat.mul_mod_right d e
 ·refine h e (by omega) (by rw[he];exact Nat.mul_le_mul_right e (by omega)) ?_
  rw[he];exact Nat.mul_mod_left d e
theorem bK(f:Nat){q:Nat}(h2:2<=q)(h:tr q f 2=true):aD q:=Dw h2 (Hy h)
def pw(N:Nat):Nat->Nat->Nat->Nat->Nat
 |0,_,_,acc=>acc
 |f+1,e,g,acc=>pw N f (e/2) (g*g%N) (if e%2=1 then acc*g%N else acc)
theorem Gm{N:Nat}:∀(f e g acc:Nat),e<2^f->pw N f e g acc%N=acc*g^e%N
  | 0, e, g, acc, h => by
    have:e=0:=by simp at h;exact h
    subst this
    simp[pw]
  | f + 1, e, g, acc, h => by
    have h2:e/2<2^f:=by rw[Nat.pow_succ] at h;omega
    unfold pw
    rw[Gm f _ _ _ h2]
    have e2:g^e=(g*g)^(e/2)*g^(e%2):=by
      conv=>lhs;rw[<-ze e 2]
      rw[ve,Nat.pow_mul,Nat.pow_two]
    have m1:(g*g%N)^(e/2)%N=(g*g)^(e/2)%N:=(Nat.pow_mod _ _ _).symm
    rw[e2]
    by_cases ho:e%2=1
    · rw[if_pos ho,ho,Nat.pow_one,lF,m1,AV,<-lF]
      congr 1
      rw[rQ,qd g]
    · have ho':e%2=0:=by omega
      rw[if_neg ho,ho',Nat.pow_zero,A9,lF,m1,<-lF]
theorem UC{P:Nat->Prop}:∀n,P n->∃m,P m/\∀k,k<m->¬P k:=by
  intro n
  induction n using Nat.strongRecOn with
  | _ n ih =>
    intro h
    by_cases hk:∃k,k<n/\P k
    · obtain⟨k,hk1,hk2⟩:=hk
      exact ih k hk1 hk2
    · exact⟨n,h,fun k hk1 hk2=>hk ⟨k,hk1,hk2⟩⟩
theorem Fp:∀(n:Nat) (f:Nat->Nat),(∀i,i<n+1->f i<n)->∃i j,i<j/\j<n+1/\f i=f j
  |0,f,h=>absurd (h 0 (by omega)) (by omega)
  | n + 1, f, h => by
    by_cases he:∃i,i<n+1/\f i=f (n+1)
    · obtain⟨i,h1,h2⟩:=he
      exact⟨i,n+1,h1,by omega,h2⟩
    · have hne:∀i,i<n+1->f i≠f (n+1):=fun i hi e=>he ⟨i,hi,e⟩
      have xw:=h (n+1) (by omega)
      obtain⟨i,j,h1,h2,h3⟩:=Fp n (fun i=>if f i=n then f (n+1) else f i) (fun i hi=>by
        have g1:=h i (by omega)
        have g2:=hne i hi
        by_cases c:f i=n
        · simp only[c,if_true]
          have:f (n+1)≠n:=fun z=>g2 (c.trans z.symm)
          omega
        · simp only[c,if_false]
          omega)
      refine⟨i,j,h1,by omega,?_⟩
      have gi:=hne i (by omega)
      have gj:=hne j (by omega)
      by_cases ci:f i=n
      · by_cases cj:f j=n
        · rw[ci,cj]
        · simp only[ci,cj,if_true,if_false] at h3
          exact absurd h3.symm gj
      · by_cases cj:f j=n
        · simp only[ci,cj,if_true,if_false] at h3
          exact absurd h3 gi
        · simpa only[ci,cj,if_false] using h3
def jR:List (Nat×Nat)->Nat
 |[]=>1
 |qe::r=>Nat.lcm (qe.1^qe.2) (jR r)
theorem GA{o:Nat}:∀{fs:List (Nat×Nat)},(∀qe∈fs,qe.1^qe.2∣o)->jR fs∣o
 |[],_=>⟨o,by simp[jR]⟩
 |qe::r,h=>Nat.lcm_dvd (h qe bV) (GA fun x hx=>h x (cH _ hx))
theorem Oc{q m:Nat}(hq:aD q)(h:¬q∣m):Nat.Coprime q m:=by
 rcases hq.2 _ (Nat.gcd_dvd_left q m) with e|e
 ·exact e
 ·exact absurd (e▸Nat.gcd_dvd_right q m) h
theorem Qu{q m:Nat}(h:Nat.Coprime q m)(e:Nat):Nat.Coprime (q^e) m:=Nat.Coprime.pow_left e h
theorem Uy(a b c d:Nat):(a%d)*(b%d)%d*(c%d)%d=a*b*c%d:=by
 rw[<-lF a b,<-lF (a*b) c]
theorem Jq{N g d:Nat}{fs:List (Nat×Nat)}(hN:2<=N)(hd:d∣N)(d1:1<d)(h1:g^(N-1)%N=1%N)
  (hq:∀qe∈fs,aD qe.1/\qe.1^qe.2∣N-1/\Nat.gcd (g^((N-1)/qe.1)%N+(N-1)) N=1):jR fs<d:=by
 have down:∀{a b:Nat},a%N=b%N->a%d=b%d:=fun{a b} e=>by
  rw[<-BN a hd,e,BN b hd]
 have one:1%d=1:=Nat.mod_eq_of_lt d1
 have f1:g^(N-1)%d=1:=by rw[down h1,one]
 obtain⟨o,⟨o0,o1⟩,Gq⟩:=UC (P:=fun k=>0<k/\g^k%d=1) (N-1) ⟨by omega,f1⟩
 have per:∀q r:Nat,g^(o*q+r)%d=g^r%d:=fun q r=>by
  rw[ve,Nat.pow_mul,lF,Nat.pow_mod,o1,Nat.one_pow,one,CZ,AV]
 have UH:∀k,g^k%d=1->o∣k:=fun k hk=>by
  have e:=ze k o
  rw[<-e,per] at hk
  by_cases h0:k%o=0
  ·exact Fq h0
  ·exact absurd ⟨by omega,hk⟩ (Gq (k%o) (sR _ o0))
 have od:=UH _ f1
 have parts:jR fs∣o:=GA fun qe u6=>by
  obtain⟨pq,⟨c,hc⟩,gq⟩:=hq qe u6
  obtain⟨m,hm⟩:=od
  by_cases EC:qe.1∣m
  ·exfalso
   obtain⟨m',hm'⟩:=EC
   have q0:0<qe.1:=by have:=pq.1;omega
   have ek:(N-1)/qe.1=o*m':=by
    rw[hm,hm',show o*(qe.1*m')=qe.1*(o*m') by rw[<-rQ,qd o,rQ],Nat.mul_div_cancel_left _ q0]
   have e1:g^((N-1)/qe.1)%d=1:=by
    have:=per m' 0
    rw[p7,Nat.pow_zero,one] at this
    rw[ek];exact this
   have e2:d∣g^((N-1)/qe.1)%N+(N-1):=by
    have e3:(g^((N-1)/qe.1)%N)%d=1:=by rw[BN _ hd];exact e1
    obtain⟨k,hk⟩:=hd
    have e4:=ze (g^((N-1)/qe.1)%N) d
    rw[e3] at e4
    refine⟨(g^((N-1)/qe.1)%N)/d+k,?_⟩
    rw[Nat.mul_add,<-hk]
    omega
   have e5:=Nat.dvd_gcd e2 hd
   rw[gq] at e5
   have:=Ag (by omega) e5
   omega
  ·have cp:=Qu (Oc pq EC) qe.2
   have PZ:qe.1^qe.2∣o*m:=⟨c,by rw[<-hm];exact hc⟩
   exact cp.dvd_of_dvd_mul_right PZ
 have Ll:o<d:=by
  refine Nat.lt_of_not_le fun hle=>?_
  have unit:∀i,i<=N-1->(g^i%d)*(g^(N-1-i)%d)%d=1:=fun i hi=>by
   rw[<-lF,<-ve,show i+(N-1-i)=N-1 by omega];exact f1
  have WT:o<=N-1:=Ag (by omega) od
  have pos:∀i,i<o->0<g^i%d:=fun i hi=>by
   refine Nat.pos_of_ne_zero fun z=>?_
   have:=unit i (by omega)
   rw[z,A7,Nat.zero_mod] at this
   cases this
  obtain⟨i,j,h1,h2,h3⟩:=Fp (d-1) (fun i=>g^i%d-1) (fun i hi=>by
   have a1:=pos i (by omega)
   have a2:=sR (g^i) (show d>0 by omega)
   omega)
  have pi:=pos i (by omega)
  have pj:=pos j (by omega)
  have e:g^i%d=g^j%d:=by omega
  have ej:g^j=g^i*g^(j-i):=by rw[<-ve,show i+(j-i)=j by omega]
  have u:=unit i (by omega)
  have k1:g^(j-i)%d=1:=by
   have w:(g^i%d)*(g^(N-1-i)%d)%d*(g^(j-i)%d)%d=(g^j%d)*(g^(N-1-i)%d)%d:=by
    rw[Uy,<-lF (g^j),ej]
    congr 1
    rw[rQ,rQ,qd (g^(N-1-i))]
   rw[u,CZ,AV,<-e,u] at w
   exact w
  exact Gq (j-i) (by omega) ⟨by omega,k1⟩
 exact vG (Ag o0 parts) Ll
theorem Ro{N g:Nat}(fs:List (Nat×Nat))(hN:2<=N)(h1:g^(N-1)%N=1%N)
  (hq:∀qe∈fs,aD qe.1/\qe.1^qe.2∣N-1/\Nat.gcd (g^((N-1)/qe.1)%N+(N-1)) N=1) (hF:N<(jR fs+1)*(jR fs+1)):aD N:=by
 refine⟨hN,fun d hd=>?_⟩
 obtain⟨e,he⟩:=id hd
 by_cases d1:d=1
 ·exact .inl d1
 by_cases e1:e=1
 ·right;rw[he,e1,A9]
 exfalso
 have d0:d≠0:=fun z=>by rw[z,A7] at he;omega
 have e0:e≠0:=fun z=>by rw[z,Nat.mul_zero] at he;omega
 have b1:=Jq hN hd (by omega) h1 hq
 have b2:=Jq hN ⟨d,by rw[he,qd]⟩ (show 1<e by omega) h1 hq
 have:=Nat.mul_le_mul (show jR fs+1<=d from b1) (show jR fs+1<=e from b2)
 omega
def Ga(N g:Nat)(fs:List (Nat×Nat)):Bool:=
 decide (2<=N) && decide (N<2^140) &&(pw N 140 (N-1) g 1%N==1) && fs.all (fun qe=>((N-1)%qe.1^qe.2==0) &&(Nat.gcd (pw N 140 ((N-1)/qe.1) g 1%N+(N-1)) N==1)) && decide (N<(jR fs+1)*(jR fs+1))
theorem cN{N:Nat}(g:Nat)(fs:List (Nat×Nat))(hp:∀qe∈fs,aD qe.1)(h:Ga N g fs=true):aD N:=by
 unfold Ga at h
 simp only[dP,decide_eq_true_eq,beq_iff_eq,jJ] at h
 obtain⟨⟨⟨⟨h1,h2⟩,h3⟩,h4⟩,h5⟩:=h
 have P:∀e,e<=N-1->pw N 140 e g 1%N=g^e%N:=fun e he=>by
  rw[Gm 140 e g 1 (by omega),CZ]
 refine Ro (g:=g) fs h1 (by rw[<-P _ (aF _),h3,Nat.mod_eq_of_lt (by omega)]) (fun qe u6=>?_) h5
 obtain⟨g1,g2⟩:=h4 qe u6
 refine⟨hp qe u6,Fq g1,?_⟩
 rw[<-P _ (Nat.div_le_self _ _)]
 exact g2
end PC
set_option maxRecDepth 100000
set_option maxHeartbeats 1000000
namespace PC
theorem Bl:aD 2:=bK 4 (by decide) (by decide+kernel)
theorem Uj:aD 3:=bK 4 (by decide) (by decide+kernel)
theorem JZ:aD 5:=bK 5 (by decide) (by decide+kernel)
theorem Af:aD 7:=bK 5 (by decide) (by decide+kernel)
theorem N4:aD 11:=bK 6 (by decide) (by decide+kernel)
theorem Rq:aD 101:=bK 13 (by decide) (by decide+kernel)
theorem Rx:aD 10007:=bK 103 (by decide) (by decide+kernel)
theorem UE:aD 65537:=bK 259 (by decide) (by decide+kernel)
theorem SX:aD 1000003:=bK 1003 (by decide) (by decide+kernel)
theorem R3:aD 17:=bK 7 (by decide) (by decide+kernel)
theorem LV:aD 998244353:=cN 3 [(17,1),(7,1),(2,23)] (fun qe h=>by
 simp only[aG,cF,or_false] at h
 rcases h with rfl|rfl|rfl
 ·exact R3
 ·exact Af
 ·exact Bl) (by decide+kernel)
theorem VO:aD 148721:=bK 388 (by decide) (by decide+kernel)
theorem UR:aD 500000003:=cN 2 [(148721,1)] (fun qe h=>by
 simp only[aG,cF,or_false] at h
 subst h;exact VO) (by decide+kernel)
theorem Mt:aD 1000000007:=cN 2 [(500000003,1)] (fun qe h=>by
 simp only[aG,cF,or_false] at h
 subst h;exact UR) (by decide+kernel)
theorem FE:aD 331:=bK 21 (by decide) (by decide+kernel)
theorem E8:aD 151:=bK 15 (by decide) (by decide+kernel)
theorem M0:aD 2147483647:=cN 3 [(331,1),(151,1)] (fun qe h=>by
 simp only[aG,cF,or_false] at h
 rcases h with rfl|rfl
 ·exact FE
 ·exact E8) (by decide+kernel)
theorem MC:aD 250049:=bK 503 (by decide) (by decide+kernel)
theorem Km:aD 26005097:=cN 2 [(250049,1)] (fun qe h=>by
 simp only[aG,cF,or_false] at h
 subst h;exact MC) (by decide+kernel)
theorem Rp:aD 1000000000039:=cN 2 [(26005097,1)] (fun qe h=>by
 simp only[aG,cF,or_false] at h
 subst h;exact Km) (by decide+kernel)
theorem LN:aD 234931:=bK 487 (by decide) (by decide+kernel)
theorem UT:aD 8740842787:=cN 2 [(234931,1)] (fun qe h=>by
 simp only[aG,cF,or_false] at h
 subst h;exact LN) (by decide+kernel)
theorem NG:aD 52445056723:=cN 2 [(8740842787,1)] (fun qe h=>by
 simp only[aG,cF,or_false] at h
 subst h;exact UT) (by decide+kernel)
theorem PL:aD 1000000000000000003:=cN 2 [(52445056723,1)] (fun qe h=>by
 simp only[aG,cF,or_false] at h
 subst h;exact NG) (by decide+kernel)
theorem OS:aD 15331:=bK 126 (by decide) (by decide+kernel)
theorem NK:aD 2131:=bK 49 (by decide) (by decide+kernel)
theorem OT:aD 5594472617641:=cN 2 [(15331,1),(2131,1)] (fun qe h=>by
 simp only[aG,cF,or_false] at h
 rcases h with rfl|rfl
 ·exact OS
 ·exact NK) (by decide+kernel)
theorem OR:aD 18446744073709551557:=cN 2 [(5594472617641,1)] (fun qe h=>by
 simp only[aG,cF,or_false] at h
 subst h;exact OT) (by decide+kernel)
theorem Rc:aD 1321:=bK 39 (by decide) (by decide+kernel)
theorem To:aD 61:=bK 10 (by decide) (by decide+kernel)
theorem VE:aD 2305843009213693951:=cN 3 [(1321,1),(331,1),(151,1),(61,1)] (fun qe h=>by
 simp only[aG,cF,or_false] at h
 rcases h with rfl|rfl|rfl|rfl
 ·exact Rc
 ·exact FE
 ·exact E8
 ·exact To) (by decide+kernel)
theorem S2:aD 8707:=bK 96 (by decide) (by decide+kernel)
theorem MW:aD 1913:=bK 46 (by decide) (by decide+kernel)
theorem Lm:aD 2931542417:=cN 3 [(8707,1),(1913,1)] (fun qe h=>by
 simp only[aG,cF,or_false] at h
 rcases h with rfl|rfl
 ·exact S2
 ·exact MW) (by decide+kernel)
theorem KZ:aD 2113:=bK 48 (by decide) (by decide+kernel)
theorem Mv:aD 683:=bK 29 (by decide) (by decide+kernel)
theorem TM:aD 618970019642690137449562111:=cN 3 [(2931542417,1),(2113,1),(683,1)] (fun qe h=>by
 simp only[aG,cF,or_false] at h
 rcases h with rfl|rfl|rfl
 ·exact Lm
 ·exact KZ
 ·exact Mv) (by decide+kernel)
theorem UP:aD 1097:=bK 36 (by decide) (by decide+kernel)
theorem Wz:aD 131:=bK 14 (by decide) (by decide+kernel)
theorem MF:aD 67254877:=cN 2 [(1097,1),(131,1)] (fun qe h=>by
 simp only[aG,cF,or_false] at h
 rcases h with rfl|rfl
 ·exact UP
 ·exact Wz) (by decide+kernel)
theorem Ow:aD 28059810762433:=cN 3 [(67254877,1)] (fun qe h=>by
 simp only[aG,cF,or_false] at h
 subst h;exact MF) (by decide+kernel)
theorem VL:aD 53:=bK 10 (by decide) (by decide+kernel)
theorem RS:aD 37:=bK 9 (by decide) (by decide+kernel)
theorem Tj:aD 13:=bK 6 (by decide) (by decide+kernel)
theorem LH:aD 20394401:=cN 3 [(53,1),(37,1),(13,1)] (fun qe h=>by
 simp only[aG,cF,or_false] at h
 rcases h with rfl|rfl|rfl
 ·exact VL
 ·exact RS
 ·exact Tj) (by decide+kernel)
theorem T4:aD 162259276829213363391578010288127:=cN 3 [(28059810762433,1),(20394401,1)] (fun qe h=>by
 simp only[aG,cF,or_false] at h
 rcases h with rfl|rfl
 ·exact Ow
 ·exact LH) (by decide+kernel)
theorem T7:aD 699053:=bK 839 (by decide) (by decide+kernel)
theorem Vp:aD 77158673929:=cN 3 [(699053,1)] (fun qe h=>by
 simp only[aG,cF,or_false] at h
 subst h;exact T7) (by decide+kernel)
theorem UU:aD 649657:=bK 809 (by decide) (by decide+kernel)
theorem M6:aD 92737:=bK 307 (by decide) (by decide+kernel)
theorem S8:aD 170141183460469231731687303715884105727:=cN 3 [(77158673929,1),(649657,1),(92737,1)] (fun qe h=>by
 simp only[aG,cF,or_false] at h
 rcases h with rfl|rfl|rfl
 ·exact Vp
 ·exact UU
 ·exact M6) (by decide+kernel)
theorem M5:aD 7963:=bK 92 (by decide) (by decide+kernel)
theorem JM:aD 3011:=bK 57 (by decide) (by decide+kernel)
theorem Rr:aD 575438233:=cN 2 [(7963,1),(3011,1)] (fun qe h=>by
 simp only[aG,cF,or_false] at h
 rcases h with rfl|rfl
 ·exact M5
 ·exact JM) (by decide+kernel)
theorem Mm:aD 52316542391429:=cN 2 [(575438233,1)] (fun qe h=>by
 simp only[aG,cF,or_false] at h
 subst h;exact Rr) (by decide+kernel)
theorem Px:aD 104633084782859:=cN 2 [(52316542391429,1)] (fun qe h=>by
 simp only[aG,cF,or_false] at h
 subst h;exact Mm) (by decide+kernel)
theorem Ws:aD 179:=bK 16 (by decide) (by decide+kernel)
theorem Qi:aD 31:=bK 8 (by decide) (by decide+kernel)
theorem L3:aD 7935071:=cN 2 [(179,1),(31,1)] (fun qe h=>by
 simp only[aG,cF,or_false] at h
 rcases h with rfl|rfl
 ·exact Ws
 ·exact Qi) (by decide+kernel)
theorem ML:aD 15870143:=cN 2 [(7935071,1)] (fun qe h=>by
 simp only[aG,cF,or_false] at h
 subst h;exact L3) (by decide+kernel)
theorem Vy:aD 401321030361983486780957614729:=cN 2 [(104633084782859,1),(15870143,1)] (fun qe h=>by
 simp only[aG,cF,or_false] at h
 rcases h with rfl|rfl
 ·exact Px
 ·exact ML) (by decide+kernel)
theorem MQ:aD 1000000000000000000000000000000000000003:=cN 2 [(401321030361983486780957614729,1)] (fun qe h=>by
 simp only[aG,cF,or_false] at h
 subst h;exact Vy) (by decide+kernel)
theorem TJ:aD 25733:=bK 163 (by decide) (by decide+kernel)
theorem Oq:aD 1151:=bK 36 (by decide) (by decide+kernel)
theorem Rz:aD 4916701379:=cN 2 [(25733,1),(1151,1)] (fun qe h=>by
 simp only[aG,cF,or_false] at h
 rcases h with rfl|rfl
 ·exact TJ
 ·exact Oq) (by decide+kernel)
theorem Nn:aD 83:=bK 12 (by decide) (by decide+kernel)
theorem Qz:aD 23:=bK 7 (by decide) (by decide+kernel)
theorem J7:aD 1676254721:=cN 5 [(83,1),(23,1),(7,3)] (fun qe h=>by
 simp only[aG,cF,or_false] at h
 rcases h with rfl|rfl|rfl
 ·exact Nn
 ·exact Qz
 ·exact Af) (by decide+kernel)
theorem QG:aD 149927568276670622397029177:=cN 2 [(4916701379,1),(1676254721,1)] (fun qe h=>by
 simp only[aG,cF,or_false] at h
 rcases h with rfl|rfl
 ·exact Rz
 ·exact J7) (by decide+kernel)
theorem Sy:aD 9999999999999999999999999999999999999983:=cN 2 [(149927568276670622397029177,1)] (fun qe h=>by
 simp only[aG,cF,or_false] at h
 subst h;exact QG) (by decide+kernel)
end PC
namespace L2
open PC
def iJ(p:Int):Prop:=2<=p/\∀d:Int,0<d->d∣p->d=1\/d=p
theorem dZ{n:Nat}(h:aD n):iJ (n:Int):=by
 refine⟨by have:=h.1;omega,fun d d0 hd=>?_⟩
 obtain⟨k,rfl⟩:=ER (Int.le_of_lt d0)
 rcases h.2 k (Int.natCast_dvd_natCast.mp hd) with e|e
 ·left;rw[e];rfl
 ·right;rw[e]
theorem QC{p:Int}(h2:2<=p)(h:uS p):iJ p:=by
 obtain⟨n,rfl⟩:=ER (show 0<=p by omega)
 refine dZ (Dw (by omega) fun e e1 e2 e3=>?_)
 refine h (e:Int) (by omega) (by rw[<-Int.natCast_mul];exact Int.ofNat_le.mpr e2) ?_
 have:=congrArg (Nat.cast:Nat->Int) e3
 simpa using this
theorem RL:∀p∈vO,iJ p:=by
 intro p hp
 simp only[vO,aG,cF,or_false] at hp
 rcases hp with rfl|rfl|rfl|rfl|rfl|rfl|rfl|rfl|rfl|rfl|rfl|rfl|rfl|rfl|rfl|rfl|rfl|rfl|rfl|rfl|rfl|rfl
 ·exact dZ Bl
 ·exact dZ Uj
 ·exact dZ JZ
 ·exact dZ Af
 ·exact dZ Bl
 ·exact dZ N4
 ·exact dZ Rq
 ·exact dZ Rx
 ·exact dZ UE
 ·exact dZ SX
 ·exact dZ LV
 ·exact dZ Mt
 ·exact dZ M0
 ·exact dZ Rp
 ·exact dZ PL
 ·exact dZ OR
 ·exact dZ VE
 ·exact dZ TM
 ·exact dZ T4
 ·exact dZ S8
 ·exact dZ MQ
 ·exact dZ Sy
def Eh:Sp:=fun vs H Q _=>∃p b:Int,vs=[.int p, .int b]/\iJ p/\p<10^40/\b%p≠0/\∀u:Int,0<=u->u<p->(∃k,u*b=1+p*k)->Q (.int u) H
def AA:Sp:=fun vs H Q _=>∃p a b:Int,vs=[.int p, .int a, .int b]/\iJ p/\p<10^40/\b%p≠0/\ -(10^61)<=a/\a<=10^61/\∀x:Int,0<=x->x<p->(∃k,b*x-a=p*k)->Q (.int x) H
end L2
set_option maxRecDepth 100000
set_option maxHeartbeats 4000000
namespace L2
open PySem PySem.Spec PyProof.Rows
theorem af.three{nb:Addr->Prop}{H:Hp}{a b c:PyData}{vs:List V}(h:af nb H [a,b,c] vs):∃x y z,vs=[x,y,z]/\ai nb H a x/\ai nb H b y/\ai nb H c z:=by
 unfold af at h
 obtain⟨x,ys,rfl,h1,h⟩:=h
 unfold af at h
 obtain⟨y,zs,rfl,h2,h⟩:=h
 unfold af at h
 obtain⟨z,ws,rfl,h3,h⟩:=h
 unfold af at h
 subst h
 exact⟨x,y,z,rfl,h1,h2,h3⟩
theorem Ev.over{G:Gx}{ρ:Rh}{t:TA}{Φ:Pd}(h:Av G ρ t fun es=>∃p a b:Int,es.map (·.2)=[.int p, .int a, .int b]/\iJ p/\p<10^40/\b%p≠0/\ -(10^61)<=a/\a<=10^61/\∀x:Int,0<=x->x<p->(∃k,b*x-a=p*k)->Φ true (.int x)):
  Ev G ρ (g9 AA [] E0 t) Φ:=fun nb σ H Q W z=>
 h nb σ H _ W fun es vs H1 ⟨p,a,b,e,h1,h2,h3,h4,h5,q⟩ s1 q1=>by
  have hd:=q1.all (f:=false) (fun z=>by cases z)
  rw[e] at hd
  obtain⟨x,y,w,rfl,d1,d2,d3⟩:=hd.three
  rw[d1.bR,d2.bR,d3.bR]
  exact⟨p,a,b,rfl,h1,h2,h3,h4,h5,fun x x1 x2 x3=>z true _ H1 _ (q x x1 x2 x3) s1 (.int x)⟩
theorem Um{p a b:Int}(hp:iJ p)(h:p∣a*b)(ha:¬p∣a):p∣b:=by
 have p2:=hp.1
 have g1:((Int.gcd a p:Nat):Int)∣p:=Int.gcd_dvd_right ..
 have g2:((Int.gcd a p:Nat):Int)∣a:=Int.gcd_dvd_left ..
 have g0:0<((Int.gcd a p:Nat):Int):=by
  have:Int.gcd a p≠0:=fun z=>by have:=(Int.gcd_eq_zero_iff.mp z).2;omega
  omega
 rcases hp.2 _ g0 g1 with e|e
 ·have c:Nat.Coprime p.natAbs a.natAbs:=by
   show Nat.gcd p.natAbs a.natAbs=1
   have:Int.gcd a p=1:=by omega
   rw[Nat.gcd_comm];exact this
  have h':p.natAbs∣b.natAbs*a.natAbs:=by rw[qd,<-Int.natAbs_mul];exact HC.mpr h
  exact HC.mp (c.dvd_of_dvd_mul_right h')
 ·rw[e] at g2;exact absurd g2 ha
theorem LY{p a b:Int}(ha:0<=a)(ha':a<p)(hb:0<=b)(hb':b<p)(h:p∣a-b):a=b:=by
 obtain⟨k,e⟩:=h
 rcases Int.lt_trichotomy k 0 with z|z|z
 ·have:p*k<=p*(-1):=q9 (by omega) (by omega)
  omega
 ·subst z;omega
 ·have:p*1<=p*k:=q9 (by omega) (by omega)
  omega
end L2
set_option maxRecDepth 100000
set_option maxHeartbeats 4000000
namespace L2
open PySem PySem.Spec PyProof.Rows
section
variable{X:Cx}{pins:List (Addr×Obj)}{σ:List (Option V)}{H:Hp}{s:Shared}{h':Heap}
theorem Inv.KL{t':Nat}{e it T:Addr}{o:HO}(I:Inv X pins σ H s)(k:∀b u,b≠e->b≠it->s.heap.get? b=some u->h'.get? b=some u)(fe:iE X pins H e)(fi:iE X pins H it)(hT:s.heap.objs.size<=T)(xY:T≠e)(Ay:T≠it)
  (le:∃u,s.heap.get? e=some u) (li:∃u,s.heap.get? it=some u) (new:cA X.prog X.w (upd H T o) h' T o):Inv X pins σ (upd H T o) {s with heap:=h',toks:=t'}:=by
 have hn:=I.hok.fresh hT
 obtain⟨e0,e1,e2,e3,e4,e5⟩:=fe
 obtain⟨i0,i1,i2,i3,i4,i5⟩:=fi
 have ne:∀b u,H b=some u->b≠e:=fun b u q z=>by rw[z,e0] at q;cases q
 have ni:∀b u,H b=some u->b≠it:=fun b u q z=>by rw[z,i0] at q;cases q
 have nT:∀b u,H b=some u->b≠T:=fun b u q z=>by rw[z,hn] at q;cases q
 refine I.step (g':=s.gens) (d':=s.drawn) (ch:=[e,it]) (fun b hb=>?_) (fun b o _ _ hc q _=>k b o (fun z=>hc (by simp[z])) (fun z=>hc (by simp[z])) q) (fun b o _ _ hc q _=>⟨o.slots,k b o (fun z=>hc (by simp[z])) (fun z=>hc (by simp[z])) q⟩)
  (fun b o hc q n=>?_) (fun b o hc q=>⟨o,k b o (fun z=>hc (by simp[z])) (fun z=>hc (by simp[z])) q⟩) (fun b xs q=>by rw[aX (nT b _ q)];exact q) (fun b o u q=>by rw[aX (nT b _ q)];exact q) (fun b ps q=>⟨#[],by rw[aX (nT b _ q),q];simp⟩) (fun m hm=>?_) (fun b u q=>?_) I.bare
 ·rcases(show b=e\/b=it by simpa using hb) with z|z
  ·subst z;exact⟨e3,e1,e4,e5⟩
  ·subst z;exact⟨i3,i1,i4,i5⟩
 ·rw[aX (fun z=>absurd (eE (bw q) (by rw[z];exact hT)) (iR _))];exact n
 ·obtain⟨o,es,ep,ho,r⟩:=hm
  exact⟨o,es,ep,k _ o (bJ e1) (bJ i1) ho,r⟩
 ·by_cases hb:b=T
  ·subst hb;rw[bh] at q;cases q;exact new
  ·rw[aX hb] at q
   refine(I.hok b u q).stay (fun c v hc z=>?_) (fun c z=>by rw[aX (nT c _ z)];exact z) fun c xs z=>by rw[aX (nT c _ z)];exact z
   rcases hc with y|y
   ·subst y;exact k _ v (ne _ u q) (ni _ u q) z
   ·exact k c v (ne c _ y) (ni c _ y) z
theorem Inv.MR{t':Nat}{e it:Addr}(I:Inv X pins σ H s)(k:∀b u,b≠e->b≠it->s.heap.get? b=some u->h'.get? b=some u)(fe:iE X pins H e)(fi:iE X pins H it):Inv X pins σ H {s with heap:=h',toks:=t'}:=by
 obtain⟨e0,e1,e2,e3,e4,e5⟩:=fe
 obtain⟨i0,i1,i2,i3,i4,i5⟩:=fi
 have ne:∀b u,H b=some u->b≠e:=fun b u q z=>by rw[z,e0] at q;cases q
 have ni:∀b u,H b=some u->b≠it:=fun b u q z=>by rw[z,i0] at q;cases q
 refine I.step (g':=s.gens) (d':=s.drawn) (ch:=[e,it]) (fun b hb=>?_) (fun b o _ _ hc q _=>k b o (fun z=>hc (by simp[z])) (fun z=>hc (by simp[z])) q) (fun b o _ _ hc q _=>⟨o.slots,k b o (fun z=>hc (by simp[z])) (fun z=>hc (by simp[z])) q⟩)
  (fun _ _ _ _ n=>n) (fun b o hc q=>⟨o,k b o (fun z=>hc (by simp[z])) (fun z=>hc (by simp[z])) q⟩) (fun _ _ q=>q) (fun _ _ _ q=>q) (fun b ps q=>⟨#[],by rw[q];simp⟩) (fun m hm=>?_) (fun b u q=>?_) I.bare
 ·rcases(show b=e\/b=it by simpa using hb) with z|z
  ·subst z;exact⟨e3,e1,e4,e5⟩
  ·subst z;exact⟨i3,i1,i4,i5⟩
 ·obtain⟨o,es,ep,ho,r⟩:=hm
  exact⟨o,es,ep,k _ o (bJ e1) (bJ i1) ho,r⟩
 ·refine(I.hok b u q).stay (fun c v hc z=>?_) (fun c z=>z) fun c xs z=>z
  rcases hc with y|y
  ·subst y;exact k _ v (ne _ u q) (ni _ u q) z
  ·exact k c v (ne c _ y) (ni c _ y) z
end
def t8(K:PySem.W.Frag)(a:Addr):It:=
 ⟨fun i H=>∃xs x,aS K H a xs/\xs[i]?=some x,fun i H x H'=>∃p y,x= .ref p/\H p=none/\(∀xs,aS K H a xs->xs[i]?=some y)/\H'=upd H p (.tup [.int i,y]),fun i H=>∃xs,aS K H a xs/\xs.length=i⟩
theorem OF{P:Program}{w:World}{K:PySem.W.Frag}{elts:List Expr}{k:Nat}{pos:Pos}(a e it:Addr)(hei:e≠it):
  Turn P w K (.Tuple elts k pos) (t8 K a) [e,it] e (fun i h=>(∃old,IsEnum h e it i old)/\h.IsListIter it a i) where
 mem:=by simp
 obj:=fun i h st b hb=>by
  obtain⟨⟨old,s1⟩,⟨o,e1,c,d⟩⟩:=st
  rcases(show b=e\/b=it by simpa using hb) with z|z
  ·subst z
   exact⟨_,s1,fun v z=>by
    have z':Data.fields _=Data.cell v:=z
    cases z'⟩
  ·subst z
   exact⟨o,e1,fun v z=>by rw[d] at z;cases z⟩
 keep:=fun i h h' st k=>⟨let ⟨old,s1⟩:=st.1;⟨old,k e (by simp) _ s1⟩,st.2.at fun o q=>k it (by simp) o q⟩
 item:=by
  intro X hP hw hK hc i pins s σ H E I hf st hg
  subst hP hw hK
  obtain⟨xs,x,hq,hx⟩:=hg
  obtain⟨its,rv,p,hz⟩:=I.list hq
  obtain⟨u,hu,ru⟩:=rv.get hx
  have fe:=hf e (by simp)
  have fi:=hf it (by simp)
  obtain⟨⟨old,s1⟩,s2⟩:=st
  obtain⟨ol,l1,l2,l3⟩:=id p.isList
  obtain⟨oi,i1,i2,i3⟩:=id s2
  have yO:a≠e:=fun z=>by
   subst z
   rw[s1] at l1;cases l1
   exact absurd l2 (by simp)
  have hai:a≠it:=fun z=>by
   subst z
   rw[i1] at l1;cases l1
   rw[i2] at l2
   exact absurd l2 (by simp)
  have W:=WalksT.enumerate (prog:=X.prog) (w:=X.w) (I.ok.hd hc) e it a hei yO hai its.toArray
  have hi:i<its.toArray.size:=by
   have:=(bW.mp hu).1
   simpa using this
  refine W.item i s _ _ hi ⟨⟨old,s1⟩,s2,p.isList⟩ fun T vals h' tk hv hT OW AD kp=>⟨.ref T,rfl,?_⟩
  refine W.go elts k pos i T _ _ _ AD fun h'' st' IL=>?_
  obtain⟨t,x',hx',Vh⟩:=hv
  have Sq:x'=u:=by
   have:its.toArray[i]?=some u:=by simpa using hu
   rw[hx'] at this;exact iD this
  subst Sq Vh
  have MD:=W.apart i T h' AD
  obtain⟨_,_,_,xY,Ay⟩:=AD
  obtain⟨oT,t1,t2,nT,t3⟩:=OW
  have t1':=IL T oT MD t1
  refine⟨.ref T,upd H T (.tup [.int i,x]),I.KL (fun b v h1 h2 q=>IL b v (by simp[h1,h2]) (kp b v (by simp[h1,h2]) q)) fe fi hT xY Ay ⟨_,s1⟩ ⟨_,i1⟩ ?_,rfl,⟨T,x,rfl,I.hok.fresh hT,fun ys hy=>by rw[I.Ho hy hq];exact hx,rfl⟩,⟨st'.1,st'.2.1⟩,fun b hb=>?_⟩
  ·exact⟨by show 2<=sizeLine;decide,[.int i t,x'], .cons ⟨t,rfl⟩ (.cons ru .nil),oT,t1',t2,nT,t3⟩
  ·rw[aX,(hf b hb).1]
   rcases(show b=e\/b=it by simpa using hb) with z|z
   ·rw[z];exact bJ xY
   ·rw[z];exact bJ Ay
 done:=by
  intro X hP hw hK hc i pins s σ H E I hf st hg
  subst hP hw hK
  obtain⟨xs,hq,hx⟩:=hg
  obtain⟨its,rv,p,hz⟩:=I.list hq
  have fe:=hf e (by simp)
  have fi:=hf it (by simp)
  obtain⟨⟨old,s1⟩,s2⟩:=st
  obtain⟨ol,l1,l2,l3⟩:=id p.isList
  obtain⟨oi,i1,i2,i3⟩:=id s2
  have hl:=rv.length
  have yO:a≠e:=fun z=>by
   subst z
   rw[s1] at l1;cases l1
   exact absurd l2 (by simp)
  have hai:a≠it:=fun z=>by
   subst z
   rw[i1] at l1;cases l1
   rw[i2] at l2
   exact absurd l2 (by simp)
  have W:=WalksT.enumerate (prog:=X.prog) (w:=X.w) (I.ok.hd hc) e it a hei yO hai its.toArray
  have hn:its.toArray.size=i:=by rw[dg];omega
  refine W.done s _ _ (by rw[hn];exact⟨⟨old,s1⟩,s2,p.isList⟩) fun h' tk kp=>⟨rfl,?_⟩
  exact I.MR (fun b v h1 h2 q=>kp b v (by simp[h1,h2]) q) fe fi
 self:=fun _ _ _ _ _ st h=>let ⟨old,s1⟩:=st.1;wpAny_pyIter_enum s1 h
def Dr(K:PySem.W.Frag)(tl:TE):TI:=fun σ H R=>tl σ H fun x H1=>∃a,x= .ref a/\(∃xs,aS K H1 a xs)/\R (t8 K a) H1
theorem RB{X:Cx}{K:PySem.W.Frag}{elts:List Expr}{k:Nat}{tpos:Pos}{l:Expr}{tl:TE}{p pos:Pos}(hK:X.K=K)(hg:Gl X "enumerate")(hm:X.mg "enumerate"=none)(hl:PE X l tl)(hs:starEach [l] X.env=[(false,eval l X.env)]:=by rfl):
    PI X (.Tuple elts k tpos) (.Call (.Name "enumerate" p) [l] [] pos) (Dr K tl):=by
  subst hK
  intro pins s σ H R I h
  have ha:PA X [l] (bC tl cz):=aa hl aj (by rw[hs];rfl)
  refine Call_ (o4 I hg hm boot_enumerate (vq (aH (ha pos pins s σ H (fun vs H1=>match vs with|[x]=>∃a,x= .ref a/\(∃xs,aS X.K H1 a xs)/\R (t8 X.K a) H1|_=>False) I h) fun us s1 ⟨vs,H1,I1,r1,q1⟩=>?_) hs rfl))
  cases r1 with
  |nil=>exact q1.elim
  | cons r rr =>
    cases rr with
    |cons _ _=>exact q1.elim
    |nil=>
    obtain⟨a,e2,⟨xs,hq⟩,q⟩:=q1
    subst e2
    cases r
    obtain⟨its,rv,p,hz⟩:=I1.list hq
    obtain⟨m,hn,_⟩:=I1.loc
    refine enum_rows (h₀:={objs:= #[]}) (L:=X.env.locals) (m:=m) ⟨hn,fun b o z=>?_,fG _⟩ p.isList fun h' e1 e2 e3 e4 kp ne n1 n2 _ _=>?_
    · cases z
    refine wpAny_pyIter_enum e1 ?_
    have I2:Inv X pins σ H1 {s1 with heap:=h'}:=I1.kept (t':=s1.toks) kp
    refine⟨s1.heap.objs.size+1,[s1.heap.objs.size+1,s1.heap.objs.size],_,_,H1,rfl,I2,OF a _ _ ne,⟨⟨_,e1⟩,e2⟩,fun b hb=>?_,q⟩
    rcases(show b=s1.heap.objs.size+1\/b=s1.heap.objs.size by simpa using hb) with z|z
    · subst z;exact I1.qY (oV _) (I1.hok.fresh (oV _))
    · subst z;exact I1.qY (aF _) (I1.hok.fresh (aF _))
end L2
set_option maxRecDepth 100000
set_option maxHeartbeats 4000000
namespace L2
open PySem PySem.Spec PyProof.Rows
theorem R.PV{K:PySem.W.Frag}{a:Addr}{xs:List V}{g:TG}{tc:TT}{te:TE}{acc:Addr}{Qe:Hp->Prop}{σ:St}{H:Hp}(Pv:Nat->St->Hp->Prop)(h0:Pv 0 σ H)(hl:∀i σ H,i<=xs.length->Pv i σ H->aS K H a xs)
  (hs:∀i x σ H p,xs[i]?=some x->Pv i σ H->H p=none->g (.ref p) σ (upd H p (.tup [.int i,x])) fun σ2 H2=>tc σ2 H2 fun b H3=>if b=true then te σ2 H3 fun v H4=>∃ys,H4 acc=some (.lst ys)/\ys.length<sizeLine/\Pv (i+1) σ2 (upd H4 acc (.lst (ys++[v]))) else Pv (i+1) σ2 H3)
  (hd:∀σ H,Pv xs.length σ H->Qe H):oB (t8 K a) g tc te acc Qe σ H:=by
 refine⟨fun i m σ H=>m=xs.length-i/\i<=xs.length/\Pv i σ H,⟨xs.length,by simp,fG _,h0⟩,?_⟩
 rintro i m σ H ⟨rfl,hi,p⟩
 have q:=hl i σ H hi p
 by_cases hlt:i<xs.length
 ·refine .inr ⟨⟨xs,xs[i],q,by simp[hlt]⟩,Pv (i+1),fun σ' H' p'=>⟨xs.length-(i+1),by omega,rfl,hlt,p'⟩,fun x H' y=>?_⟩
  obtain⟨pp,y,e,hn,hy,e2⟩:=y
  subst e e2
  exact hs i y σ H pp (hy xs q) p hn
 ·have e:i=xs.length:=by omega
  subst e
  exact .inl ⟨⟨xs,q,rfl⟩,hd σ H p⟩
section
variable{G:Gx}{ρ bY:Rh}{te:TE}{s:TS}{gt:TG}{E:DE}{K:PySem.W.Frag}{Θ:Bool->List PyData->Prop}{tc:TT}{mp:List (Option Nat)}
theorem aB.Tt{t0:TE}(hm:(mp.filterMap id).Nodup)(dH:kE mp ρ=bY)(h:Ev G ρ t0 fun fi x=>∃es,x= .list es/\es.length<=10000/\∀v,eX (G.hd fi (.list es) v) bY es.length (fun i d=>∃e,es[i]?=some e/\d= .tuple [.int i,e]) fi gt tc te Θ):aB G ρ (lT (Dr K t0) gt tc te mp) Θ:=fun nb σ H Q W z=>
 h nb σ H _ W fun fi v H1 x ⟨es,ex,hn,q⟩ s1 hv=>by
  subst ex
  obtain⟨fl,I,h0,ht,he⟩:=q v
  have W0:=(W.step s1).hd hv
  obtain⟨a,xs,rfl,n,hx,hd⟩:=hv.dU
  refine⟨a,rfl,⟨xs, .of hx⟩,fun acc hacc=>?_⟩
  have rX:Wd (G.hd fi (.list es) (.ref a)) nb bY (L2.fZ mp σ) H1:=by rw[<-dH];exact W0.fZ hm
  have W1:=rX.more hacc (o:= .lst [])
  have hN:=NB.new s1.2 hacc
  have hno:=wF rX hacc
  have cY:Step G.B H1 (upd H1 acc (.lst [])):= .same s1.2 (cP hacc)
  have p8:NB G.B a:=jF fun z=>n (.inr (.inr (.inl z)))
  refine R.PV (xs:=xs) (fun i σ H=>∃ds ys,Wd (G.hd fi (.list es) (.ref a)) (fun x=>nb x\/x=acc) bY σ H/\Step G.B H1 H/\H acc=some (.lst ys)/\af (G.S (fun x=>nb x\/x=acc) fl) H ds ys/\ds.length<=i/\I i ds/\H a=some (.lst xs)) ⟨[],[],W1,cY,bh, .nil,aF _,h0,cY.1 _ _ p8 hx⟩ ?_ ?_ ?_
  ·rintro i σ H hi ⟨ds,ys,W,st,_,_,_,_,ha⟩
   exact .of ha
  ·rintro i x σ H p hi ⟨ds,ys,W,st,hy,hd',hl,hI,ha⟩ hp
   obtain⟨a',xs',e',_,h',d'⟩:=W.nj.2.dU
   cases e'
   rw[ha] at h';cases h'
   have hil:i<es.length:=by have:=(bW.mp hi).1;have:=d'.length;omega
   obtain⟨x',hx',dx⟩:=d'.get (aI hil)
   rw[hi] at hx';cases hx'
   have st2:Step (G.hd fi (.list es) (.ref a)).B H (upd H p (.tup [.int i,x])):= .same W.au (cP hp)
   have hap:acc≠p:=fun z=>by subst z;rw[hp] at hy;cases hy
   have Xb:a≠p:=fun z=>by subst z;rw[hp] at ha;cases ha
   refine yV (G:=G.hd fi (.list es) (.ref a)) hn hil (W.step st2) (.inr rfl) hN hno (st.trans st2) hacc (by rw[aX hap];exact hy) (hd'.keep st2.dj) hl (.tup (W.fresh hp) bh (.cons (.int _) (.cons (dx.keep st2.dj) .nil))) (ht i _ ds ⟨_,aI hil,rfl⟩ hl hI) fun σ' H' ds' xs' W' st' hx' hd' hl' hI'=>⟨ds',xs',W',st',hx',hd',hl',hI',st'.1 _ _ p8 hx⟩
  ·rintro σ H' ⟨ds,ys,W',st,hy,hd',hl,hI,_⟩
   rw[hd.length] at hl hI
   exact Ab W s1 hacc st hy hd' (he ds hl hI) z
end
end L2
set_option maxRecDepth 100000
set_option maxHeartbeats 4000000
namespace L2
open PySem PySem.Spec PyProof.Rows
section
variable{G:Gx}{ρ:Rh}{Φ:Pd}{te:TE}{t:TA}{i n:Nat}{f:Bool}{ds:List PyData}{Θ:List PyData->Prop}
theorem Ev.tupS(h:Av G ρ t fun es=>es.length<=10000/\Φ (ja es||eu (es.map (·.2))) (.tuple (es.map (·.2)))):Ev G ρ (sI t) Φ:=fun nb σ H Q W z=>
 h nb σ H _ W fun es vs H1 ⟨hl,p⟩ s1 q1=>⟨fq (by rw[q1.len];exact hl) (by decide),fun a ha=>z _ _ _ _ p (s1.trans (.same (W.step s1).au (cP ha))) (by
  cases hs:eu (es.map (·.2)) with
  |true=>rw[Bb];exact .tup ((W.step s1).fresh ha) bh ((q1.all (f:=false) fun z=>by cases z).jN hs)
  |false=>rw[m5];exact .tup ((W.step s1).fresh ha) bh ((q1.all fun z=>z).keep (aU.of (cP ha))))⟩
theorem Ev.RJ(h:Ev G ρ te fun _ x=>∃n:Int,x= .int n/\2<=n/\n<=10002/\∀r:Int,iJ r->r<10^40->Φ true (.int r)):Ev G ρ (g9 zQ [] E0 (bC te cz)) Φ:=fun nb σ H Q W z=>
 h nb σ H _ W fun f v H1 d ⟨n,e,h1,h2,p⟩ s1 hv=>by
  subst e
  exact⟨n,by rw[hv.bR];rfl,h1,h2,fun r H' sm r1 r2 r3=>z true _ H' _ (p r (QC r1 r3) (by omega)) (s1.trans (.same (W.step s1).au sm)) (.int r)⟩
theorem Ev.str{x:Str}(h:Φ true (.str x)):Ev G ρ (tC (.str x)) Φ:=fun nb σ H Q W z=>z true _ H _ h (.refl W.au) (by unfold ai;rfl)
end
theorem Eu.fin{p b L lt t:Int}(h:Eu p b L lt 0 t)(hp:iJ p)(hb:b%p≠0):∃k,lt%p*b=1+p*k:=by
 obtain⟨g1,g2⟩:=h.dv L (Int.dvd_refl L) (Int.dvd_zero L)
 have m1:=iW b (show p≠0 by have:=hp.1;omega)
 have m2:=iX b (show 0<p by have:=hp.1;omega)
 have hL:L=1:=by
  rcases hp.2 L h.l0 g1 with e|e
  ·exact e
  ·exfalso
   rw[e] at g2
   have:=Int.le_of_dvd (by omega) g2
   omega
 obtain⟨k,hk⟩:=h.lc
 have e:=pB lt p
 refine⟨-k-lt/p*b,?_⟩
 have e2:lt%p=lt-p*(lt/p):=by omega
 rw[e2,qG,mh,Int.mul_neg,lq]
 omega
noncomputable def sol(p b a:Int):Int:=open Classical in if h:∃x,0<=x/\x<p/\∃k,b*x-a=p*k then Classical.choose h else 0
theorem Dj{p b a x:Int}(hp:iJ p)(hb:b%p≠0)(h0:0<=x)(h1:x<p)(hx:∃k,b*x-a=p*k):x=sol p b a:=by
 have ex:∃x,0<=x/\x<p/\∃k,b*x-a=p*k:=⟨x,h0,h1,hx⟩
 unfold sol
 rw[dif_pos ex]
 obtain⟨g0,g1,k',hk'⟩:=FN ex
 generalize Classical.choose ex=y at*
 obtain⟨k,hk⟩:=hx
 refine LY h0 h1 g0 g1 (Um hp (a:=b) ⟨k-k',?_⟩ fun z=>hb (Int.emod_eq_zero_of_dvd z))
 rw[mh,mh];omega
theorem Oe{p b a:Int}(hp:0<p):0<=sol p b a/\sol p b a<p:=by
 unfold sol
 split
 ·rename_i h
  obtain⟨g0,g1,_⟩:=FN h
  exact⟨g0,g1⟩
 ·omega
def bA(wd:Wo)(prs:az):az:=prs.filter fun pr=>wd[pr.1.toNat]?==some none
theorem Hl{wd:Wo}{prs:az}{pr:Int×Int}:bA wd (prs++[pr])=if wd[pr.1.toNat]?=some none then bA wd prs++[pr] else bA wd prs:=by
 unfold bA
 rw[CL]
 by_cases c:wd[pr.1.toNat]?=some none
 ·rw[if_pos c,uC (by rw[c];rfl)];rfl
 ·rw[if_neg c,BG (by simpa using c)];simp
noncomputable def cL(p:Int)(prs:az)(rest:Int)(wd:Wo):Option (Int×Int):=match bA wd prs with
 |[pr]=>some (pr.1,sol p pr.2 (rest-aQ prs wd%p))
 |_=>none
def Fi:Option (Int×Int)->PyData
 |none=> .none
 |some pr=>pairD pr
def iw(wd:Wo):List Int:=((List.range wd.length).filter fun i=>wd[i]?==some none).map fun(i:Nat)=>(i:Int)
def z5(p:Int)(prs:az):Prop:=∀pr∈prs,pr.2%p≠0
def gf(p:Int)(cs:List az)(m:Nat):Prop:=iJ p/\p<10^40/\cs.length<=1000/\∀prs∈cs,prs.length<=1000/\nE prs m/\z5 p prs
theorem gf.at{p:Int}{cs:List az}{m:Nat}{c:Int}(h:gf p cs m)(h0:0<=c)(h1:c<cs.length):∃prs,cs[c.toNat]?=some prs/\cs.getD c.toNat []=prs/\prs.length<=1000/\nE prs m/\z5 p prs:=by
 have hc:c.toNat<cs.length:=by omega
 refine⟨cs[c.toNat],aI hc,?_,h.2.2.2 _ (gx hc)⟩
 rw[dW,aI hc];rfl
abbrev bP:=Int×Int×Int
abbrev wc(m:bP):PyData:= .tuple [.int m.1, .int m.2.1, .int m.2.2]
noncomputable def qz(p:Int)(cs:List az)(wd:Wo)(m:bP):PyData:=
 if m.2.1<0\/(cs.length:Int)<=m.2.1 then .str "check" else match cL p (cs.getD m.2.1.toNat []) 0 wd with
 |none=> .str "place"
 |some (a,x)=>if a≠m.1 then .str "place" else if x≠m.2.2 then .str "letter" else .none
def putAll(wd:Wo)(ms:List bP):Wo:=ms.foldl (fun w m=>w.set m.1.toNat (some m.2.2)) wd
theorem putAll_snoc{wd:Wo}{ms:List bP}{m:bP}:putAll wd (ms++[m])=(putAll wd ms).set m.1.toNat (some m.2.2):=by
 unfold putAll;rw[List.foldl_append];rfl
def MS(p:Int)(cs:List az)(wd:Wo)(ms:List bP)(j:Nat):Prop:=∃m,ms[j]?=some m/\qz p cs (putAll wd (ms.take j)) m= .none
noncomputable def outs(p:Int)(cs:List az)(w:Wo):List Nat:=(List.range cs.length).filter fun c=>(cL p (cs.getD c []) 0 w).isSome
theorem vZ{wd:Wo}{prs:az}{pr:Int×Int}(h:pr∈bA wd prs):pr∈prs/\wd[pr.1.toNat]?=some none:=by
 unfold bA at h
 have:=jr.mp h
 exact⟨this.1,by simpa using this.2⟩
theorem zA{p:Int}{prs:az}{rest:Int}{wd:Wo}{a x:Int}(hp:0<p)(h:cL p prs rest wd=some (a,x)):∃pr∈prs,pr.1=a/\wd[a.toNat]?=some none/\0<=x/\x<p:=by
 unfold cL at h
 split at h
 ·rename_i pr e
  cases h
  have:=vZ (wd:=wd) (prs:=prs) (pr:=pr) (by rw[e];simp)
  exact⟨pr,this.1,rfl,this.2,Oe hp⟩
 ·cases h
theorem ES{n:Nat}{k:Int}(h0:0<=k)(h1:k<n):gF n k=some k.toNat:=by
 unfold gF;rw[if_pos h0,if_pos h1]
theorem kW{wd:Wo}{ms:List bP}:(putAll wd ms).length=wd.length:=by
 unfold putAll
 induction ms generalizing wd with
 |nil=>rfl
 |cons m r ih=>rw[List.foldl_cons,ih,gQ]
theorem gz{X:Cx}{K:PySem.W.Frag}{tg l:Expr}{tl:TE}(hK:X.K=K)(hl:PE X l tl):PI X tg l (rz K tl):=by subst hK;exact Qa hl
end L2
set_option maxRecDepth 100000
set_option maxHeartbeats 4000000
namespace L2
open PySem PySem.Spec PyProof.Rows
def kr(p:Int)(cs:List az)(wd:Wo)(ms:List bP):Prop:=∀j<ms.length,MS p cs wd ms j
theorem SA{wd:Wo}{ms:List bP}{i:Nat}(h:(putAll wd ms)[i]?=some none):wd[i]?=some none:=by
  induction ms generalizing wd with
  |nil=>exact h
  | cons m r ih =>
    have h2:=ih (wd:=wd.set m.1.toNat (some m.2.2)) h
    by_cases c:m.1.toNat=i
    · subst c
      by_cases hl:m.1.toNat<wd.length
      · rw[cg hl] at h2;cases h2
      · rw[gM (by rw[gQ];omega)] at h2;cases h2
    · rwa[br c] at h2
theorem zg{p:Int}{cs:List az}{wd:Wo}{m:bP}(h:qz p cs wd m= .none):0<=m.2.1/\m.2.1<cs.length/\cL p (cs.getD m.2.1.toNat []) 0 wd=some (m.1,m.2.2):=by
 unfold qz at h
 split at h
 ·cases h
 rename_i c
 split at h
 ·cases h
 rename_i a x e
 split at h
 ·cases h
 rename_i c3
 split at h
 ·cases h
 rename_i c4
 have c3:a=m.1:=by omega
 have c4:x=m.2.2:=by omega
 subst c3 c4
 exact⟨by omega,by omega,e⟩
theorem BB{p:Int}{prs:az}{wd:Wo}{a x:Int}(h:cL p prs 0 wd=some (a,x)):∃pr,bA wd prs=[pr]/\pr.1=a/\x=sol p pr.2 (0-aQ prs wd%p):=by
 unfold cL at h
 split at h
 ·rename_i pr e
  cases h
  exact⟨pr,e,rfl,rfl⟩
 ·cases h
theorem Tc{p:Int}{prs:az}{wd:Wo}{pr:Int×Int}(h:bA wd prs=[pr]):(cL p prs 0 wd).isSome=true:=by
 unfold cL
 rw[h]<;>rfl
theorem P4{p:Int}{cs:List az}{w:Wo}(h:outs p cs w=[]){c:Nat}(hc:c<cs.length):(cL p (cs.getD c []) 0 w).isSome=false:=by
 unfold outs at h
 rw[uN] at h
 have:=h c (pQ.mpr hc)
 simpa using this
theorem Ol{p:Int}{cs:List az}{wd:Wo}{a c x:Int}(h0:0<=c)(h1:c<cs.length)(h:cL p (cs.getD c.toNat []) 0 wd=some (a,x)):qz p cs wd (a,c,x)= .none:=by
 unfold qz
 rw[if_neg (by show¬(c<0\/(cs.length:Int)<=c);omega)]
 show(match cL p (cs.getD c.toNat []) 0 wd with|none=>_|some (a',x')=>_)=_
 rw[h]
 simp
def cnt(wd:Wo):Nat:=wd.countP fun o=>o.isNone
theorem EN:∀{wd:Wo} {k:Nat} {x:Int},wd[k]?=some none->cnt (wd.set k (some x))+1=cnt wd
  |[],k,x,h=>by simp at h
  | o :: wd, 0, x, h => by
    simp at h
    subst h
    simp[cnt]
  | o :: wd, k + 1, x, h => by
    have ih:=EN (wd:=wd) (k:=k) (x:=x) (by simpa using h)
    unfold cnt at ih⊢
    rw[List.set_cons_succ,List.countP_cons,List.countP_cons]
    omega
theorem Dy{p:Int}{cs:List az}{wd:Wo}{ms:List bP}(hp:0<p)(h1:kr p cs wd ms):∀j,j<=ms.length->cnt (putAll wd (ms.take j))+j=cnt wd
  |0,_=>by simp[putAll]
  | j + 1, hj => by
    have ih:=Dy hp h1 j (by omega)
    obtain⟨m,e1,e2⟩:=h1 j (by omega)
    rw[take_snoc e1,putAll_snoc]
    obtain⟨c0,c1,e3⟩:=zg e2
    obtain⟨pr,g1,g2,g3,_⟩:=zA hp e3
    have:=EN (x:=m.2.2) g3
    omega
theorem VS(wd:Wo):cnt wd<=wd.length:=List.countP_le_length
def Agree(os:List Int)(wd:Wo):Prop:=∀(i:Nat) (x:Int),wd[i]?=some (some x)->os[i]?=some x
theorem G3{os:List Int}{wd:Wo}(hl:wd.length=os.length)(ha:Agree os wd):∀{prs:az},(∀pr∈prs,0<=pr.1/\pr.1<wd.length)->
    aQ prs (os.map some)=aQ prs wd+((bA wd prs).map fun q=>q.2*os.getD q.1.toNat 0).sum
  |[],_=>by simp[aQ,bA]
  | pr :: prs, h => by
    have ih:=G3 hl ha (prs:=prs) fun q hq=>h q (cH _ hq)
    obtain⟨h0,h1⟩:=h pr (bV ..)
    have k1:pr.1.toNat<wd.length:=by omega
    have k2:pr.1.toNat<os.length:=by omega
    rw[nA,nA,ih,oY (w:=os) (aI k2)]
    have eg:os.getD pr.1.toNat 0=os[pr.1.toNat]:=by rw[dW,aI k2];rfl
    cases e:wd[pr.1.toNat] with
    | none =>
      have e2:wd[pr.1.toNat]?=some none:=by rw[aI k1,e]
      have e3:bA wd (pr::prs)=pr::bA wd prs:=by unfold bA;rw[uC (by rw[e2];rfl)]
      have e4:i9 wd pr=0:=by unfold i9;rw[e2]
      rw[e3,bx,t6,e4,eg]
      omega
    | some x =>
      have e2:wd[pr.1.toNat]?=some (some x):=by rw[aI k1,e]
      have e3:bA wd (pr::prs)=bA wd prs:=by unfold bA;rw[BG (by rw[e2];simp)]
      have e4:i9 wd pr=pr.2*x:=by unfold i9;rw[e2]
      have e5:=ha _ _ e2
      rw[aI k2] at e5
      cases e5
      rw[e3,e4]
      omega
theorem B6{p:Int}{cs:List az}{wd:Wo}{ms:List bP}{os:List Int}(hN:gf p cs wd.length)(hl:wd.length=os.length)(hos:∀x∈os,0<=x/\x<p)(ht:∀prs∈cs,aQ prs (os.map some)%p=0)(ha:Agree os wd)(h1:kr p cs wd ms):
    ∀j,j<=ms.length->Agree os (putAll wd (ms.take j))
  |0,_=>by simpa[putAll] using ha
  | j + 1, hj => by
    have ih:=B6 hN hl hos ht ha h1 j (by omega)
    obtain⟨m,e1,e2⟩:=h1 j (by omega)
    rw[take_snoc e1,putAll_snoc]
    obtain⟨c0,c1,e3⟩:=zg e2
    obtain⟨prs,g1,g2,g3,g4,g5⟩:=hN.at c0 c1
    rw[g2] at e3
    obtain⟨pr,e4,e5,e6⟩:=BB e3
    have lD:prs∈cs:=eY g1
    have hle:(putAll wd (ms.take j)).length=wd.length:=kW
    have hd:=G3 (by rw[hle];exact hl) ih (prs:=prs) fun q hq=>by rw[hle];exact⟨(g4 q hq).1,(g4 q hq).2.1⟩
    have rL:pr∈prs:=(vZ (wd:=putAll wd (ms.take j)) (by rw[e4];simp)).1
    have k2:pr.1.toNat<os.length:=by have:=g4 pr rL;omega
    rw[e4] at hd
    simp only[bx,k9,t6,List.sum_nil,um] at hd
    have eg:os.getD pr.1.toNat 0=os[pr.1.toNat]:=by rw[dW,aI k2];rfl
    rw[eg] at hd
    have ho:=hos _ (gx k2)
    have hz:=ht prs lD
    have p2:=hN.1.1
    have es:os[pr.1.toNat]=sol p pr.2 (0-aQ prs (putAll wd (ms.take j))%p):=by
      refine Dj hN.1 (g5 pr rL) ho.1 ho.2 ?_
      have d1:=pB (aQ prs (putAll wd (ms.take j))) p
      have d2:=pB (aQ prs (os.map some)) p
      generalize aQ prs (putAll wd (ms.take j))=S at*
      generalize aQ prs (os.map some)=T at*
      generalize os[pr.1.toNat]=o at*
      refine⟨T/p-S/p,?_⟩
      rw[mh]
      omega
    intro i x hx
    by_cases c:m.1.toNat=i
    · subst c
      have hk:m.1.toNat<(putAll wd (ms.take j)).length:=by
        rw[hle,hl,<-e5];exact k2
      rw[cg hk] at hx
      cases hx
      rw[<-e5,aI k2,es,e6]
    · rw[br c] at hx
      exact ih i x hx
section
variable{G:Gx}{ρ:Rh}{Φ:Pd}{ta tb te:TE}{E:DE}{K:PySem.W.Frag}
theorem Ev.WM{tl th:TO}(h:Ev G ρ te fun f x=>∃ds,x= .tuple ds/\Ov G ρ tl fun lo=>Ov G ρ th fun hi=>¬(HT.dw ds.length 0 lo=0/\HT.dw ds.length ds.length hi=ds.length)/\Φ f (.tuple (gy ds lo hi))):Ev G ρ (qS (UG K) te tl th) Φ:=fun nb σ H Q W z=>
 h nb σ H _ W fun f v H1 d ⟨ds,e,q⟩ s1 hv=>q nb σ H1 _ (W.step s1) fun lo H2 q2 s2=>q2 nb σ H2 _ ((W.step s1).step s2) fun hi H3 ⟨hn,q3⟩ s3=>by
  subst e
  obtain⟨a,xs,rfl,n,hx,hd⟩:=((hv.keep s2.dj).keep s3.dj).ofT
  have W3:=((W.step s1).step s2).step s3
  refine⟨a,xs,rfl, .of hx,by rw[hd.length];exact hn,fun p hp=>?_⟩
  exact z f _ _ _ q3 (s1.trans (s2.trans (s3.trans (.same W3.au (cP hp))))) (.tup (W3.fresh hp) bh (hd.cut.keep (aU.of (cP hp))))
theorem Ev.W7(h:Ev G ρ ta fun f x=>∃ds,x= .tuple ds/\ds≠[]/\Ev G ρ tb fun g y=>∃es,y= .tuple es/\es≠[]/\ds.length+es.length<=10000/\Φ (f && g) (.tuple (ds++es))):Ev G ρ (dD (VN K) ta tb) Φ:=fun nb σ H Q W z=>
 h nb σ H _ W fun f v H1 d ⟨ds,e,hne,q⟩ s1 hv=>q nb σ H1 _ (W.step s1) fun g u H2 d2 ⟨es,e2,UD,hl,p⟩ s2 hu=>by
  subst e e2
  obtain⟨a,xs,rfl,n,hx,hd⟩:=(hv.keep s2.dj).ofT
  obtain⟨c,ys,rfl,m,hy,hc⟩:=hu.ofT
  have W2:=(W.step s1).step s2
  have kU:=hd.length
  have hyl:=hc.length
  refine⟨a,c,xs,ys,rfl,rfl, .of hx, .of hy,fun z=>hne (qc.mp (by rw[<-kU,z];rfl)),fq (by rw[kU,hyl];exact hl) (by decide),fun z=>absurd (qc.mp (by rw[<-hyl,z];rfl)) UD,fun _ q hq=>?_⟩
  refine z (f && g) _ _ _ p (s1.trans (s2.trans (.same W2.au (cP hq)))) (.tup (W2.fresh hq) bh ?_)
  exact(af.append (hd.av (cV (fun z=>(dP _ _▸z).1) fun _ z=>z)) (hc.av (cV (fun z=>(dP _ _▸z).2) fun _ z=>z))).keep (aU.of (cP hq))
end
end L2
set_option maxRecDepth 100000
set_option maxHeartbeats 4000000
namespace L2
open PySem PySem.Spec PyProof.Rows
def tW(es:List Fd):Bool:=es.all fun e=>e.1||iG e.2
section
variable{G:Gx}{ρ:Rh}{Φ:Pd}{t:TA}{te:TE}
theorem jh.E2{nb:Addr->Prop}{H:Hp}:∀{es:List Fd} {vs:List V} {f:Bool},jh G nb H es vs->(f=true->tW es=true)->af (G.S nb f) H (es.map (·.2)) vs
  |[],_,_,h,_=>by unfold jh at h;subst h;exact .nil
  | e :: es, _, f, h, hf => by
    obtain⟨v,ws,rfl,h1,h2⟩:=h
    have hh:f=true->(e.1||iG e.2)=true/\tW es=true:=fun z=>by
      have:=hf z
      unfold tW at this
      rw[mD,dP] at this
      exact this
    refine .cons ?_ (h2.E2 fun z=>(hh z).2)
    cases hs:iG e.2 with
    |true=>exact h1.jN hs
    |false=>exact h1.av (cV (fun z=>by have:=(hh z).1;rw[hs,m5] at this;exact this) fun _ z=>z)
theorem Ev.Qd(h:Av G ρ t fun es=>es.length<=10000/\Φ (tW es) (.tuple (es.map (·.2)))):Ev G ρ (sI t) Φ:=fun nb σ H Q W z=>
 h nb σ H _ W fun es vs H1 ⟨hl,p⟩ s1 q1=>⟨fq (by rw[q1.len];exact hl) (by decide),fun a ha=>z _ _ _ _ p (s1.trans (.same (W.step s1).au (cP ha)))
  (.tup ((W.step s1).fresh ha) bh ((q1.E2 fun z=>z).keep (aU.of (cP ha))))⟩
end
def HX:R2:=fun x y H Q=>∃a b:Bool,x= .bl a/\y= .bl b/\Q (.bl (!(a==b))) H
theorem JV{X:Cx}:cR X (compareOp .IsNot) HX:=by
 intro pins s σ H x y v u Q I rx ry h
 obtain⟨a,b,rfl,rfl,q⟩:=h
 cases (show v=Value.bool a from rx)
 cases (show u=Value.bool b from ry)
 have:compareOp .IsNot (Value.bool a) (Value.bool b)=pure (Value.bool (!(a==b))):=by cases a<;>cases b<;>rfl
 rw[this]
 exact wpAny_pure ⟨.bl _,H,I,rfl,q⟩
theorem Ev.La{G:Gx}{ρ:Rh}{ta:TE}{b:Bool}{Φ:Pd}(h:Ev G ρ ta fun _ x=>∃a,x= .bool a/\Φ true (.bool (!(a==b)))):Ev G ρ (dD HX ta (tC (.bl b))) Φ:=fun nb σ H Q W z=>
 h nb σ H _ W fun f v H1 d ⟨a,e,q⟩ s1 hv=>by
  subst e
  unfold ai at hv
  subst hv
  exact⟨a,b,rfl,rfl,z true _ H1 _ q s1 (.bl _)⟩
theorem GC{α:Type}{xs:List α}{k:Int}(h0:0<=k):gy xs none (some k)=xs.take k.toNat:=by
 by_cases h:k<=xs.length
 ·exact QT h0 h
 ·unfold gy HT.dw
  simp only[oJ,B8]
  rw[nQ (by first|omega|(split<;>omega)),nQ (by omega)]
abbrev aO(r:List Int):PyData:= .list (r.map .int)
def fL(p k c:Int)(row:List Int):az:=((row++(if 0<c then[k+c-1] else[])).map fun x=>(x,(1:Int)))++[(k+c,p-1)]
def bB(p k:Int)(rows:List (List Int)):List az:=(List.range rows.length).map fun(c:Nat)=>fL p k c (rows.getD c [])
def mj(k:Int)(r:List Int):Prop:=(r.Pairwise fun a b=>a<b)/\(∀x∈r,0<=x/\x<k)/\r.length<=200
theorem U1{p k:Int}{c:Nat}{r:List Int}{n:Int}(hp:2<=p)(hr:mj k r)(hk:1<=k)(hn:k+c<n):Vg p n (fL p k c r):=by
 obtain⟨h1,h2,h3⟩:=hr
 unfold fL
 refine⟨by simp,?_,fun pr bS=>?_⟩
 ·rw[yq]
  refine⟨?_,by simp,fun a ha b hb=>?_⟩
  ·rw[rN,yq]
   refine⟨h1,by split<;>simp,fun a ha b hb=>?_⟩
   have:=h2 a ha
   split at hb
   ·rw[aP.mp hb];omega
   ·cases hb
  ·rw[aP.mp hb]
   obtain⟨x,hx,rfl⟩:=cZ.mp ha
   show x<k+c
   rcases fR.mp hx with h|h
   ·have:=h2 x h;omega
   ·split at h
    ·rw[aP.mp h];omega
    ·cases h
 ·rcases fR.mp bS with h|h
  ·obtain⟨x,hx,rfl⟩:=cZ.mp h
   show 0<=x/\x<n/\1<=1/\1<p
   rcases fR.mp hx with h|h
   ·have:=h2 x h;omega
   ·split at h
    ·rw[aP.mp h];omega
    ·cases h
  ·rw[aP.mp h]
   show 0<=k+c/\k+c<n/\1<=p-1/\p-1<p
   omega
theorem Rb{p k c:Int}{r:List Int}:(fL p k c r).length<=r.length+2:=by
 unfold fL
 rw[c7,ak,c7,kj]
 split<;>simp
end L2
set_option maxRecDepth 100000
set_option maxHeartbeats 4000000
namespace L2
open PySem PySem.Spec PyProof.Rows
theorem Hw(rows:List (List Int)):SeqAt.shaped (.list (rows.map aO))=true:=by
  have h:PyData.depthAll (rows.map aO)<=1/\PyData.canLayAll0 (rows.map aO)=true:=by
    induction rows with
    |nil=>simp[PyData.depthAll,PyData.canLayAll0]
    | cons r rs ih =>
      have h2:=t9 (r.map some)
      have e:(r.map some).map c8=r.map PyData.int:=by rw[iz];rfl
      rw[e] at h2
      simp[PyData.depthAll,PyData.depth,PyData.canLayAll0,PyData.canLay0,h2.1,h2.2,ih.2]
      have:=ih.1
      omega
  unfold SeqAt.shaped
  simp[PyData.canLay0,PyData.depth,h.2]
  have:=h.1
  omega
end L2
set_option maxRecDepth 100000
namespace L2
open PySem PySem.Spec PyProof.Rows
section
variable{κ:Type}[DecidableEq κ]
def gJ(kvs:List (κ×V))(k:κ):Option V:=(kvs.find? fun kv=>decide (kv.1=k)).map (·.2)
def putK(kvs:List (κ×V))(k:κ)(v:V):List (κ×V):=
 if(kvs.any fun kv=>decide (kv.1=k))=true then kvs.map (fun kv=>if kv.1=k then(kv.1,v) else kv) else kvs++[(k,v)]
theorem Su{k:κ}:gJ ([]:List (κ×V)) k=none:=rfl
theorem vC{p:κ×V}{r:List (κ×V)}{k:κ}(e:p.1=k):gJ (p::r) k=some p.2:=by simp[gJ,mH,e]
theorem sU{p:κ×V}{r:List (κ×V)}{k:κ}(e:¬p.1=k):gJ (p::r) k=gJ r k:=by simp[gJ,mH,e]
theorem ye(k:κ):∀kvs:List (κ×V),(kvs.any fun kv=>decide (kv.1=k))=(gJ kvs k).isSome
  |[]=>rfl
  | p :: r => by
    rw[lB]
    by_cases e:p.1=k
    · simp only[vC e,decide_eq_true e,AZ,Option.isSome_some]
    · rw[sU e,decide_eq_false e,pV];exact ye k r
theorem Tp(kvs:List (κ×V))(k:κ)(v:V):(putK kvs k v).length<=kvs.length+1:=by
 unfold putK
 split
 ·rw[ak];omega
 ·rw[c7,eB,BF];omega
theorem gW.sZ{o:Option V}{u:Option Value}(r:gW o u):o.isSome=u.isSome:=by
  cases o with
  | none => cases u with
    |none=>rfl
    |some _=>exact(show False from r).elim
  | some _ => cases u with
    |none=>exact(show False from r).elim
    |some _=>rfl
theorem KV.val{kvs:List (κ×V)}{vs:List (κ×Value)}(r:KV kvs vs)(k:κ):gW (gJ kvs k) (valueAt vs k):=by
  unfold KV at r
  induction r with
  |nil=>exact True.intro
  | @cons p q ps qs h t ih =>
    obtain⟨h1,h2⟩:=h
    by_cases e:p.1=k
    · have e':q.1=k:=h1.symm.trans e
      have b:valueAt (q::qs) k=some q.2:=by simp[valueAt,mH,e']
      rw[vC e,b];exact h2
    · have e':¬q.1=k:=fun z=>e (h1.trans z)
      have b:valueAt (q::qs) k=valueAt qs k:=by simp[valueAt,mH,e']
      rw[sU e,b];exact ih
theorem KV.any{kvs:List (κ×V)}{vs:List (κ×Value)}(r:KV kvs vs)(k:κ):(kvs.any fun kv=>decide (kv.1=k))=vs.any fun kv=>decide (kv.1=k):=by
 unfold KV at r
 induction r with
 |nil=>rfl
 |cons h t ih=>rw[lB,lB,ih,h.1]
theorem KV.repl{kvs:List (κ×V)}{vs:List (κ×Value)}(r:KV kvs vs)(k:κ){y:V}{u:Value}(ry:RelV y u):
    KV (kvs.map fun kv=>if kv.1=k then(kv.1,y) else kv) (vs.map fun kv=>if kv.1=k then(kv.1,u) else kv):=by
  unfold KV at r⊢
  induction r with
  |nil=>exact .nil
  | @cons p q ps qs h t ih =>
    rw[bx,bx]
    refine .cons ?_ ih
    obtain⟨h1,h2⟩:=h
    by_cases e:p.1=k
    · rw[if_pos e,if_pos (h1.symm.trans e)];exact⟨h1,ry⟩
    · rw[if_neg e,if_neg (fun z=>e (h1.trans z))];exact⟨h1,h2⟩
theorem KV.put{kvs:List (κ×V)}{vs:List (κ×Value)}(r:KV kvs vs)(k:κ){y:V}{u:Value}(ry:RelV y u):KV (putK kvs k y) (stored vs k u):=by
 unfold putK stored
 rw[r.any k]
 by_cases e:(vs.any fun kv=>decide (kv.1=k))=true
 ·rw[if_pos e,if_pos e];exact r.repl k ry
 ·rw[if_neg e,if_neg e];exact Paired.snoc r ⟨rfl,ry⟩
theorem KV.keys{kvs:List (κ×V)}{vs:List (κ×Value)}(r:KV kvs vs):kvs.map (·.1)=vs.map (·.1):=by
 unfold KV at r
 induction r with
 |nil=>rfl
 |cons h t ih=>rw[bx,bx,ih,h.1]
theorem KV.length{kvs:List (κ×V)}{vs:List (κ×Value)}(r:KV kvs vs):kvs.length=vs.length:=Paired.length r
end
theorem rE{P:Program}{w:World}{k:Key}{u:Value}(r:RelV (kV k) u):(ig P w).is k u=true:=by
 cases k with
 |inl i=>obtain⟨t,e⟩:=(show∃t,u=Value.int i t from r);subst e;exact Q0 P w i t
 |inr x=>obtain⟨t,e⟩:=(show∃t,u=Value.str x t from r);subst e;exact TZ P w x t
theorem ED{P:Program}{w:World}:∀{ks:List Key} {us:List Value},Vals (ks.map kV) us->ItemsAre (ig P w) ks us
  |[],_,r=>by rw[k9] at r;cases r;exact .nil
  | k :: ks, _, r => by
    rw[bx] at r
    cases r with
    |cons h t=>exact .cons (rE h) (ED t)
abbrev KT(H:Hp):List (List Key×V)->List (List Key×Addr×Value)->Prop:=Paired fun p q=>p.1=q.1/\H q.2.1=some (.tup (p.1.map kV))/\RelV p.2 q.2.2
theorem KT.val{H:Hp}{kvs:List (List Key×V)}{xs:List (List Key×Addr×Value)}(r:KT H kvs xs)(k:List Key):gW (gJ kvs k) ((atKey xs k).map (·.2)):=by
  induction r with
  |nil=>exact True.intro
  | @cons p q ps qs h t ih =>
    obtain⟨h1,_,h2⟩:=h
    by_cases e:p.1=k
    · have e':q.1=k:=h1.symm.trans e
      have b:atKey (q::qs) k=some q.2:=by simp[atKey,mH,e']
      rw[vC e,b];exact h2
    · have e':¬q.1=k:=fun z=>e (h1.trans z)
      have b:atKey (q::qs) k=atKey qs k:=by simp[atKey,mH,e']
      rw[sU e,b];exact ih
section
variable{P:Program}{w:World}{H:Hp}{h:Heap}{a:Addr}
theorem GL{u:HO}(ok:cT P w H h)(e:Rd H a u):cA P w H h a u:=e.ok ok
theorem qQ{kvs:List (Key×V)}(ok:cT P w H h)(e:Rd H a (.dK kvs)):kvs.length<=sizeLine/\(a==sysModules)=false/\∃vs,KV kvs vs/\h.DictOf (ig P w) a vs:=
 show cA P w H h a (.dK kvs) from GL ok e
theorem Ls{kvs:List (Key×V)}(ok:cT P w H h)(e:H a=some (.dK kvs)):kvs.length<=sizeLine/\(a==sysModules)=false/\∃vs,KV kvs vs/\h.DictOf (ig P w) a vs:=qQ ok (.inl e)
theorem xQ{ks:List Key}(ok:cT P w H h)(e:H a=some (.tup (ks.map kV))):(tupleKind (ig P w)).is h ks a:=by
 obtain⟨_,its,r,o,h1,h2,n,h3⟩:=(show cA P w H h a (.tup (ks.map kV)) from ok a _ e)
 exact⟨o,its.toArray,n,h1,h2,h3,by simpa using ED r⟩
theorem Je{kvs:List (List Key×V)}(ok:cT P w H h)(e:Rd H a (.dT kvs)):kvs.length<=sizeLine/\(a==sysModules)=false/\
    ∃xs,KT H kvs xs/\h.DictOfH (tupleKind (ig P w)) a xs:=by
  obtain⟨z,y,xs,r,o,es,ep,h1,h2,h3,h4,h5⟩:=(show cA P w H h a (.dT kvs) from GL ok e)
  refine⟨z,y,xs,r,o,es,ep,h1,h2,h3,h4,fun x hx=>?_,h5⟩
  have all:∀{l:List (List Key×V)} {m:List (List Key×Addr×Value)},KT H l m->∀x∈m,(tupleKind (ig P w)).is h x.1 x.2.1:=by
    intro l m q
    induction q with
    |nil=>intro x hx;exact nomatch hx
    | @cons p q ps qs hq t ih =>
      intro x hx
      rcases aG.mp hx with e|hx
      · subst e
        exact xQ ok (by rw[<-hq.1];exact hq.2.1)
      · exact ih x hx
  exact all r x hx
end
def pZ(H:Hp)(a:Addr)(y:V)(r:Option V):Prop:=
 (∃kvs k,Rd H a (.dK kvs)/\y=kV k/\r=gJ kvs k)\/∃kvs k b,Rd H a (.dT kvs)/\y= .ref b/\H b=some (.tup (k.map kV))/\r=gJ kvs k
theorem pZ.k{H:Hp}{a:Addr}{kvs:List (Key×V)}{k:Key}(e:H a=some (.dK kvs)):pZ H a (kV k) (gJ kvs k):= .inl ⟨kvs,k, .inl e,rfl,rfl⟩
section
variable{X:Cx}{pins:List (Addr×Obj)}{σ:St}{H:Hp}{s:Shared}{a:Addr}{y v:V}{u r:Value}{o:Option V}{A:Around}{E:Value->Shared->Prop}
theorem Inv.big(I:Inv X pins σ H s):sysModules<s.heap.objs.size:=by
 have h:mainGlobals<s.heap.objs.size:=(I.mod.glob.keeps I.bk).lt
 exact qD (by decide) h
theorem PR{Q:Value->Shared->Prop}(hu:A.units+1<cLine)(I:Inv X pins σ H s)(g:pZ H a y o)(ry:RelV y u)(h:∀s',Inv X pins σ H s'->Q (.bool o.isSome) s'):
  wpAny (model X.prog X.w) A (compareOp .In u (.ref a)) Q E s:=by
 rcases g with ⟨kvs,k,e,ey,l⟩|⟨kvs,k,b,e,ey,eb,l⟩
 ·subst ey
  obtain⟨z,hd,vs,rel,dd⟩:=qQ I.hok e
  refine wpAny_in_of (rE ry) hd dd.mapOf ?_
  rw[<-(rel.val k).sZ,<-l]
  exact h _ (I.tok _)
 ·subst ey
  cases (show u=Value.ref b from ry)
  obtain⟨z,hd,xs,rel,dd⟩:=Je I.hok e
  refine wpAny_in_heap (tupleKind_room_in1 hu) (xQ I.hok eb) hd dd ?_
  have q:=(rel.val k).sZ
  rw[yi] at q
  rw[<-q,<-l]
  exact h _ (I.tok _)
theorem Mf{Q:Value->Shared->Prop}(hu:A.units+1<cLine)(I:Inv X pins σ H s)(g:pZ H a y o)(ry:RelV y u)(h:∀s',Inv X pins σ H s'->Q (.bool (!o.isSome)) s'):
  wpAny (model X.prog X.w) A (compareOp .NotIn u (.ref a)) Q E s:=by
 rcases g with ⟨kvs,k,e,ey,l⟩|⟨kvs,k,b,e,ey,eb,l⟩
 ·subst ey
  obtain⟨z,hd,vs,rel,dd⟩:=qQ I.hok e
  refine wpAny_notIn_of (rE ry) hd dd.mapOf ?_
  rw[<-(rel.val k).sZ,<-l]
  exact h _ (I.tok _)
 ·subst ey
  cases (show u=Value.ref b from ry)
  obtain⟨z,hd,xs,rel,dd⟩:=Je I.hok e
  refine wpAny_notIn_heap (tupleKind_room_in1 hu) (xQ I.hok eb) hd dd ?_
  have q:=(rel.val k).sZ
  rw[yi] at q
  rw[<-q,<-l]
  exact h _ (I.tok _)
theorem Ny{h':Heap}{t':Nat}{ob:HO}(I:Inv X pins σ H s)(mu:qg (H a))(hs:Heap.SameBut a s.heap h')(he:∃q,h'.get? a=some q)(new:cA X.prog X.w (upd H a ob) h' a ob):
  Inv X pins σ (upd H a ob) {s with heap:=h',toks:=t'}:=
 I.write (x:=a) (e:=a) mu (.inl rfl) (fun b q hb z=>(hs.2 b hb).trans z) he new
theorem LJ{P:Program}{w:World}{H':Hp}{h':Heap}{kvs:List (Key×V)}{vs:List (Key×Value)}(z:kvs.length<=sizeLine)(hd:(a==sysModules)=false)(rel:KV kvs vs)(dd:h'.DictOf (ig P w) a vs):
  cA P w H' h' a (.dK kvs):=⟨z,hd,vs,rel,dd⟩
end
theorem RD{P:Program}{w:World}{H:Hp}(h:Heap)(hb:sysModules<h.objs.size):cA P w H (h.push {cls:= .type "dict",data:= .dict #[]}) h.objs.size (.dK []):=
 ⟨fG _,beq_eq_false_iff_ne.mpr (bJ (cW hb)),[], .nil,Heap.DictOf.new h⟩
def FW:TE:=fun _ H Q=>∀p,H p=none->Q (.ref p) (upd H p (.dK []))
section
variable{X:Cx}{pos:Pos}
theorem S6:PE X (.Dict [] [] pos) FW:=fun pins s σ H Q I h=>
 wpAny_Dict_empty ⟨.ref s.heap.objs.size,_,I.laid (a:=s.heap.objs.size) (o:= .dK []) (t':=s.toks) (fun _ _ q=>bQ _ q) (aF _) (RD s.heap I.big),rfl,h _ (I.hok.fresh (aF _))⟩
end
end L2
/-THE LAST THEOREM (shape;LID,My.*are yours):
   My.Adr:a structure of the addresses that your layer names (classes,functions);My.Txt K t:a structure (Prop) of the equations over K;
   My.txt_mk:{K} {implicit addresses ..} (e1:nsIn K mainGlobals "law"=some (some (.ref f))) (e2:K.lookup f=some ⟨oc,od, .func (fnOf "law" "law" params body scope dV kV doc pm an cdv ct),sl⟩) (e3:codeIn K cdv "law"=true) .. :∃t,My.Txt K t
set_option maxRecDepth 100000 in
set_option maxHeartbeats 0 in
(the tactic k_is has no namespace:write k_is)-/
set_option maxRecDepth 100000
set_option maxHeartbeats 4000000
namespace L2
open PySem PySem.Spec PyProof.Rows
section
variable{prog:Program}{w:World}{A:Around}{E:Value->Shared->Prop}{s:Shared}
theorem Mn{T:String}{r d:Addr}{n:Nat}{P:Nat->Value->Prop}{OK:Heap->Prop}{Q:List Value->Shared->Prop}(K:PySem.W.KdlSrc prog w T r d n P OK)(hh:A.handled=none)(hok:OK s.heap)(hn:n<=sizeLine)
  (hQ:∀h' tk' items,(∀b o,s.heap.get? b=some o->h'.get? b=some o)->s.heap.objs.size<=h'.objs.size->items.length=n->(∀(i:Nat) v,items[i]?=some v->P i v)->Q items {s with heap:=h',toks:=tk'}):wpAny (model prog w) A (collect (.ref r)) Q E s:=by
 obtain⟨lr,ld⟩:=K.there _ hok
 unfold collect
 refine wpAny_bind (wpAny_runValue (codeAny_builtin Ec ?_))
 rw[nK Gj _]
 show wpAny _ A.in1 (newList []>>=fun l=>again (.builtin "list.__iadd__" ⟨[l, .ref r],[]⟩)) _ _ s
 refine wpAny_bind (wpAny_newObj_type ?_)
 refine wpAny_pure ⟨plainId_quiet uX _,codeAny_builtin Dm ?_⟩
 rw[nK uX _]
 have gL:(s.heap.push ({cls:= .type "list",data:= .seq ([]:List Value).toArray}:Obj)).get? s.heap.objs.size=some {cls:= .type "list",data:= .seq ([]:List Value).toArray}:=fP _ rfl
 show wpAny _ A.in1 (Builtin.List.listExtendWith (.ref s.heap.objs.size) (.ref r) (.ref s.heap.objs.size)) _ _ {s with heap:=s.heap.push ({cls:= .type "list",data:= .seq ([]:List Value).toArray}:Obj)}
 refine PySem.W.kdl_extend (A:=A) (R:=fun r s'=>match r with
    | .ok (.ret v)=>wpAny (model prog w) A (match v with| .ref x=>(do match(<-load x).data with| .seq xs _=>pure xs.toList|_=>unsupported "internal:collect")|_=>unsupported "internal:collect") Q E s'
    | .ok _=>False
    | .error e=>E e s') (s:={s with heap:=s.heap.push ({cls:= .type "list",data:= .seq ([]:List Value).toArray}:Obj)}) K hh (K.keep _ _ hok fun b _ o e=>bQ _ e) s.heap.objs.size (pN lr) (pN ld) _ _ gL (fun h' tk acc' c' hk hS hacc=>?_) hn
 refine wpAny_bind (wpAny_load hS (wpAny_pure ?_))
 refine hQ h' tk acc'.toList (fun b o e=>hk b o (cW (bw e)) (bQ _ e)) (jP (bw hS)) (by rw[cU];exact hacc.1) fun i v e=>hacc.2 i v (by rw[<-jC];exact e)
end
section
variable{X:Cx}
def BV:R2:=fun x y H Q=>∃a kvs k v,x= .ref a/\y=kV k/\Rd H a (.dK kvs)/\gJ kvs k=some v/\Q v H
theorem NI:kP X BV:=by
 intro value slice pins s σ H x y v u Q I rx ry h hs
 obtain⟨a,kvs,k,z,rfl,rfl,hH,hv,q⟩:=h
 cases rx
 obtain⟨hz,hd,vs,rel,dd⟩:=qQ I.hok hH
 have hT:=dd.typeIs (s:=s)
 obtain⟨w',hw,rw'⟩:=gW.some_of (v:=z) (o:=valueAt vs k) (by rw[<-hv];exact rel.val k)
 unfold subscriptTail
 refine wpAny_bind ?_
 rw[getitemInPython_of_ne hT.not_modules]
 refine wpAny_bind (wpAny_specialOf hT PySem.F.slot_dict_getitem.lookup ?_)
 have fin:wpAny (model X.prog X.w) X.A (subscripted slice false (.ref a) u) (fun r s₃=>wpAny (model X.prog X.w) X.A (letTemporaryGo value (.ref a) r>>=fun _=>pure r) (EP X pins σ Q) X.xe s₃) X.xe s:=by
  rw[hs]
  refine wpAny_operating (wpAny_getItem_of (rE ry) dd.mapOf hw ?_)
  exact wpAny_bind (wpAny_letTemporaryGo (wpAny_pure ⟨z,H,I.tok _,rw',q⟩))
 first
  |exact wpAny_pure (wpAny_bind fin)
  |exact wpAny_bind (wpAny_pure (wpAny_bind fin))
  |exact wpAny_bind fin
def FA:V->V->V->Hp->(Hp->Prop)->Prop:=fun o i v H Q=>∃a kvs k,o= .ref a/\i=kV k/\H a=some (.dK kvs)/\kvs.length<sizeLine/\Q (upd H a (.dK (putK kvs k v)))
theorem set_dict:wV X FA:=by
 intro pins s σ H o i v ov iv u Q I ro ri rv h
 obtain⟨a,kvs,k,rfl,rfl,hH,WI,q⟩:=h
 cases ro
 obtain⟨z,hd,vs,rel,dd⟩:=Ls I.hok hH
 have hz:vs.length<=sizeLine:=by rw[<-rel.length];exact z
 have hl:(putK kvs k v).length<=sizeLine:=by have:=Tp kvs k v;omega
 refine wpAny_setItem_pairs (hsz:=hz) (rE ri) dd fun h' Hv hs=>?_
 have he:∃q,h'.get? a=some q:=let ⟨q,_,_,hq,_⟩:=Hv;⟨q,hq⟩
 exact⟨_,Ny I (by rw[hH];exact True.intro) hs he (LJ hl hd (rel.put k rv) Hv),q⟩
end
end L2
set_option maxRecDepth 100000
set_option maxHeartbeats 4000000
set_option maxRecDepth 100000
set_option maxHeartbeats 4000000
namespace L2
abbrev Cn:=List (Int×Int)
structure EV(cs:Cn):Prop where
 vP:∀c∈cs,0<=c.1/\c.1<=12/\0<=c.2/\c.2<=10^7
 nd:(cs.map (·.1)).Nodup
 len:cs.length<=14
 pos:∃c∈cs,0<c.1/\0<c.2
def Io:Cn->Rat->Rat
 |[],_=>0
 |c::r,v=>(if 0<c.1 then((c.1*c.2:Int):Rat)*v^(c.1.toNat-1) else 0)+Io r v
def Ey:Cn->Int
 |[]=>0
 |c::r=>c.1*c.2+Ey r
def EJ(cs:Cn)(v:Rat):Rat:=Io cs v/(Ey cs:Int)
def KD(l c:Cn)(s v:Rat):Rat:=s*EJ l (1-EJ c (1-v))
section
variable{l c:Cn}{s:Rat}(hl:EV l)(hc:EV c)(s0:0<=s)
include hl hc s0
end
def D4(x:Rat):Int:= -((-x).floor)
end L2
namespace L2
structure Gw where
 l:Cn
 c:Cn
 s:Rat
 u:Int
def Gw.gr(g:Gw)(x:Int):Rat:=KD g.l g.c g.s ((x:Rat)/g.u)*g.u
def Gw.lo(g:Gw):Nat->Int
 |0=>(g.s*g.u).floor
 |k+1=>(g.gr (g.lo k)).floor
def Gw.hi(g:Gw):Nat->Int
 |0=>D4 (g.s*g.u)
 |k+1=>D4 (g.gr (g.hi k))
end L2
set_option maxRecDepth 100000
set_option maxHeartbeats 4000000
namespace L2
open PySem PySem.Spec PyProof.Rows
@[reducible] def W8(g:Gw)(k:Nat):PyData:= .tuple [.int (g.lo k), .int (g.hi k)]
@[reducible] def Xj(n:Nat):PyData:= .tuple [.str "falls", .int n]
@[reducible] def Xp(x:Int):PyData:= .tuple [.str "stays", .int x]
@[reducible] def WJ:PyData:= .tuple [.str "open"]
def Vu(K:PySem.W.Frag)(n:Nat)(t:g7):TG:=fun v σ H Q=>∃a xs,v= .ref a/\aS K H a xs/\xs.length=n/\t xs σ H Q
theorem Gv.lst{G:Gx}{ρ:Rh}{f:Bool}{ds:List PyData}{K:PySem.W.Frag}{Θ:Rh->Prop}{n:Nat}{u:g7}(hl:ds.length=n)(h:rY G ρ u f ds Θ):Gv G ρ (Vu K n u) f (.list ds) Θ:=fun nb σ H v Q W hv z=>by
 obtain⟨a,xs,rfl,m,hx,hd⟩:=hv.dU
 exact⟨a,xs,rfl, .of hx,by rw[hd.length];exact hl,h nb σ H xs Q W hd z⟩
end L2
set_option maxRecDepth 100000
set_option maxHeartbeats 4000000
namespace L2
open PySem PySem.Spec PyProof.Rows PySem.W
section
variable{n:Nat}{cmp:Nat->Nat->(Bool->Shared->Prop)->Shared->Prop}{s:Shared}
variable(h0:0<n)(hc:∀i j C,i<n->j<n->(∀b,C b s)->cmp i j C s)
include h0 hc
end
end L2
set_option maxRecDepth 100000
set_option maxHeartbeats 4000000
namespace L2
open PySem PySem.Spec PyProof.Rows PySem.W
section
variable{n:Nat}{key:Nat->Int}{cmp:Nat->Nat->(Bool->Shared->Prop)->Shared->Prop}{s:Shared}
variable(h0:0<n)(hc:∀i j C,i<n->j<n->C (decide (key i<key j)) s->cmp i j C s)
include h0 hc
end
end L2
set_option maxRecDepth 100000
set_option maxHeartbeats 4000000
set_option maxRecDepth 100000
set_option maxHeartbeats 4000000
namespace L2
open PySem PySem.Spec PyProof.Rows
@[reducible] def Xo(l c:Cn)(u p:Int):Gw:=⟨l,c,(p:Rat)/u,u⟩
end L2
set_option maxRecDepth 100000
set_option maxHeartbeats 4000000
namespace L2
open PySem PySem.Spec PyProof.Rows
theorem Ev.lend{G:Gx}{ρ:Rh}{te:TE}{Φ:Pd}{a:Addr}{f:Bool}{ds:List PyData}(i:Nat)(e:ρ[i]?=some (.own a f ds))(h:Ev G (ρ.set i (.d f (.list ds))) te fun _ d=>iG d=true/\Φ true d):Ev G ρ te Φ:=fun nb σ H Q W z=>
 h _ σ H Q (Sv.share W e) fun f v H' d ⟨hs,p⟩ st hv=>z true v H' d p st (hv.jN hs)
theorem Tv.lend{G:Gx}{ρ:Rh}{t:TT}{Θ:Bool->Prop}{a:Addr}{f:Bool}{ds:List PyData}(i:Nat)(e:ρ[i]?=some (.own a f ds))(h:Tv G (ρ.set i (.d f (.list ds))) t Θ):Tv G ρ t Θ:=fun nb σ H Q W z=>
 h _ σ H Q (Sv.share W e) z
end L2
set_option maxRecDepth 100000
set_option maxHeartbeats 4000000
set_option maxRecDepth 100000
set_option maxHeartbeats 4000000
set_option maxRecDepth 100000
set_option maxHeartbeats 4000000
namespace L2
open PySem PySem.Spec PyProof.Rows
abbrev Ks:=List (Int×PyData)
def jj(ks:Ks)(k:Int):Option PyData:=(ks.find? fun p=>decide (p.1=k)).map (·.2)
def j9(ks:Ks)(k:Int):Bool:=ks.any fun p=>decide (p.1=k)
def tD(ks:Ks)(k:Int)(d:PyData):Ks:=if j9 ks k then ks.map fun p=>if p.1=k then(p.1,d) else p else ks++[(k,d)]
theorem UK(ks:Ks)(k:Int):(jj ks k).isSome=j9 ks k:=by
  unfold jj j9
  rw[yi]
  induction ks with
  |nil=>rfl
  | cons p r ih =>
    rw[mH,lB]
    by_cases h:p.1=k
    · simp[h]
    · simp only[h,decide_false,pV];exact ih
theorem D0{ks:Ks}{k:Int}:j9 ks k=true↔k∈ks.map (·.1):=by
 unfold j9
 rw[sP,cZ]
 constructor
 ·rintro⟨p,h1,h2⟩;exact⟨p,h1,by simpa using h2⟩
 ·rintro⟨p,h1,h2⟩;exact⟨p,h1,by simpa using h2⟩
theorem VB{k:Int}:jj [] k=none:=rfl
theorem sO{p:Int×PyData}{r:Ks}{k:Int}:jj (p::r) k=if p.1=k then some p.2 else jj r k:=by
 unfold jj
 rw[mH]
 by_cases h:p.1=k<;>simp[h]
theorem WE{ks:Ks}{k j:Int}{d:PyData}:jj (ks++[(k,d)]) j=match jj ks j with|some x=>some x|none=>if j=k then some d else none:=by
  induction ks with
  | nil =>
    rw[List.nil_append,sO,VB]
    by_cases h:k=j
    · subst h;simp
    · have h':¬j=k:=fun z=>h z.symm
      simp[h,h']
  | cons p r ih =>
    rw[lG,sO,sO,ih]
    by_cases h:p.1=j<;>simp[h]
section
variable{S:Addr->Prop}{H:Hp}
theorem aq.val:∀{ks:Ks} {ps:List (Key×V)} (k:Int),aq S H (ks.map ie) ps->match jj ks k with|some d=>∃v,gJ ps (Sum.inl k)=some v/\ai S H d v|none=>gJ ps (Sum.inl k)=none
  |[],ps,k,h=>by unfold aq at h;subst h;exact Su
  | p :: r, ps, k, h => by
    rw[bx] at h
    unfold aq at h
    obtain⟨q,qs,rfl,h1,h2⟩:=h
    unfold bO at h1
    obtain⟨h3,h4⟩:=h1
    have h3:q.1=Sum.inl p.1:=h3
    rw[sO]
    have ih:=aq.val k h2
    by_cases e:p.1=k
    · rw[if_pos e]
      refine⟨q.2,?_,h4⟩
      rw[vC (by rw[h3,e])]
    · rw[if_neg e,sU (fun z=>e (by rw[h3] at z;exact wU z))]
      exact ih
theorem aq.snoc:∀{ks:Ks} {ps:List (Key×V)} {k:Int} {d:PyData} {v:V},aq S H (ks.map ie) ps->ai S H d v->aq S H ((ks++[(k,d)]).map ie) (ps++[(Sum.inl k,v)])
  | [], ps, k, d, v, h, hd => by
    unfold aq at h;subst h
    show aq S H [ie (k,d)] [(Sum.inl k,v)]
    unfold aq
    exact⟨_,_,rfl,by unfold bO;exact⟨rfl,hd⟩,by unfold aq;rfl⟩
  | p :: r, ps, k, d, v, h, hd => by
    rw[bx] at h
    unfold aq at h
    obtain⟨q,qs,rfl,h1,h2⟩:=h
    rw[lG,bx,lG]
    unfold aq
    exact⟨q,_,rfl,h1,aq.snoc h2 hd⟩
theorem aq.repl:∀{ks:Ks} {ps:List (Key×V)} {k:Int} {d:PyData} {v:V},aq S H (ks.map ie) ps->ai S H d v->aq S H ((ks.map fun p=>if p.1=k then(p.1,d) else p).map ie) (ps.map fun kv=>if kv.1=Sum.inl k then(kv.1,v) else kv)
  |[],ps,k,d,v,h,hd=>by unfold aq at h;subst h;simp only[k9];unfold aq;rfl
  | p :: r, ps, k, d, v, h, hd => by
    rw[bx] at h
    unfold aq at h
    obtain⟨q,qs,rfl,h1,h2⟩:=h
    rw[bx,bx,bx]
    unfold bO at h1
    obtain⟨h3,h4⟩:=h1
    have h3:q.1=Sum.inl p.1:=h3
    unfold aq
    refine⟨_,_,rfl,?_,aq.repl h2 hd⟩
    by_cases e:p.1=k
    · rw[if_pos e,if_pos (by rw[h3,e])]
      unfold bO
      exact⟨h3,hd⟩
    · rw[if_neg e,if_neg (fun z=>e (by rw[h3] at z;exact wU z))]
      unfold bO
      exact⟨h3,h4⟩
theorem aq.any:∀{ks:Ks} {ps:List (Key×V)} (k:Int),aq S H (ks.map ie) ps->(ps.any fun kv=>decide (kv.1=Sum.inl k))=j9 ks k:=fun{ks ps} k h=>by
 rw[ye,<-UK]
 have:=aq.val k h
 cases hv:jj ks k with
 |none=>rw[hv] at this;rw[this];rfl
 |some d=>rw[hv] at this;obtain⟨v,e,_⟩:=this;rw[e];rfl
theorem aq.put{ks:Ks}{ps:List (Key×V)}{k:Int}{d:PyData}{v:V}(h:aq S H (ks.map ie) ps)(hd:ai S H d v):aq S H ((tD ks k d).map ie) (putK ps (Sum.inl k) v):=by
 unfold tD putK
 rw[aq.any k h]
 split
 ·exact aq.repl h hd
 ·exact aq.snoc h hd
theorem aq.len:∀{ks:Ks} {ps:List (Key×V)},aq S H (ks.map ie) ps->ps.length=ks.length
  |[],ps,h=>by unfold aq at h;subst h;rfl
  | p :: r, ps, h => by
    rw[bx] at h
    unfold aq at h
    obtain⟨q,qs,rfl,_,h2⟩:=h
    simp[aq.len h2]
theorem aq.keys:∀{ks:Ks} {ps:List (Key×V)},aq S H (ks.map ie) ps->ps.map (·.1)=(ks.map (·.1)).map Sum.inl
  |[],ps,h=>by unfold aq at h;subst h;rfl
  | p :: r, ps, h => by
    rw[bx] at h
    unfold aq at h
    obtain⟨q,qs,rfl,h1,h2⟩:=h
    unfold bO at h1
    have h3:q.1=Sum.inl p.1:=h1.1
    simp[aq.keys h2,h3]
end
def uZ(G:Gx)(ρ:Rh)(te:TE)(Φ:Bool->Ks->Prop):Prop:=∀nb σ H (Q:VK),Wd G nb ρ σ H->
 (∀f a ps H' ks,Φ f ks->Step G.B H H'->H a=none->H' a=some (.dK ps)->aq (fun x=>G.S nb f x\/x=a) H' (ks.map ie) ps->Q (.ref a) H')->te σ H Q
section
variable{G:Gx}{ρ bY:Rh}{Φ Ψ:Pd}{ta tb te:TE}{t:TA}{i:Nat}{f g:Bool}{d e:PyData}{ks:Ks}{K:PySem.W.Frag}{E:DE}{Θ:Bool->Ks->Prop}
theorem Wd.grow{nb:Addr->Prop}{σ:St}{H H1:Hp}{a:Addr}{o:HO}(W:Wd G nb ρ σ H)(s1:Step G.B H H1)(ha:H a=none)(e:H1 a=some o):Wd G (fun x=>nb x\/x=a) ρ σ H1/\NB G.B a/\∀f x,G.S (fun x=>nb x\/x=a) f x->(G.S nb f x\/x=a):=by
  have hN:NB G.B a:=NB.new W.au ha
  have hA:∀f x,G.S (fun x=>nb x\/x=a) f x->(G.S nb f x\/x=a):=fun f x z=>by
    rcases z with (z|z)|z|z|z
    · exact .inl (.inl z)
    · exact .inr z
    · exact .inl (.inr (.inl z))
    · exact .inl (.inr (.inr (.inl z)))
    · exact .inl (.inr (.inr (.inr z)))
  have W1:=W.step s1
  refine⟨?_,hN,hA⟩
  refine⟨W1.au,fun x n=>?_,W1.old,fun x n q=>?_,W.gA,W.len,W.gB,fun h m=>(((W.gu h m).fresh ha).keep (s1.but fun x z=> .inl (.inr (.inr (.inl z))))).av (hA h.1),fun j s e'=>?_,W.apart,W.gb,W.dQ⟩
  · rcases n with n|n
    · exact W1.live x n
    · subst n;rw[e];exact iM _
  · rcases n with n|n
    · exact W.dh x n q
    · subst n
      cases z:G.H0 x with
      |none=>rfl
      |some o=>rw[W.old x o q z] at ha;cases ha
  · obtain⟨x,e1,h⟩:=W.ok j s e'
    refine⟨x,e1,?_⟩
    cases s with
    |no=>trivial
    |d f d=>obtain⟨v,e,h⟩:=h;exact⟨v,e,((h.fresh ha).keep (s1.but fun x z=> .inl (.inr (.inr (.inl z))))).av (hA f)⟩
    |own c f es=>obtain⟨e,n,q,xs,hx,hd⟩:=h;exact⟨e, .inl n,q,xs,s1.1 _ _ q hx,((hd.fresh ha).keep (s1.but fun x z=> .inl (.inr (.inr (.inl z))))).av (hA f)⟩
    |au=>exact h
    |raw v=>exact h
    |cy c f es=>obtain⟨e,n,q,xs,hx,hd⟩:=h;exact⟨e, .inl n,q,xs,s1.1 _ _ q hx,((hd.fresh ha).keep (s1.but fun x z=> .inl (.inr (.inr (.inl z))))).av (hA f)⟩
    | cu c =>
      obtain⟨e,n,q⟩:=h
      refine⟨e,fun a ha=>⟨.inl (n a ha).1,(n a ha).2⟩,c.av (hA c.f) (c.keep (.of fun x o hx e=>s1.1 x o ?_ e) (c.fresh ha q))⟩
      rcases hx with hx|hx
      · exact jF fun z=>hx (.inl (.inr (.inr (.inl z))))
      · exact(n x hx).2
theorem Sk{nb:Addr->Prop}{σ:St}{H H1:Hp}{a:Addr}{ps:List (Key×V)}(W:Wd G nb ρ σ H)(s1:Step G.B H H1)(ha:H a=none)(e:H1 a=some (.dK ps))(hd:aq (fun x=>G.S nb f x\/x=a) H1 (ks.map ie) ps):
  Wd G (fun x=>nb x\/x=a) (ρ.set i (.cy a f ks)) (σ.set i (some (.ref a))) H1:=by
 obtain⟨W2,hN,hA⟩:=W.grow s1 ha e
 refine W2.set ⟨rfl, .inr rfl,hN,ps,e,hd.av (hA f)⟩ (fun _ _ _ z=>by cases z) ?_ (fun x hx j t hj ht hc=>?_)
 rotate_left
 ·have hx:x=a:=aP.mp hx
  subst hx
  rcases hc with ⟨c,z⟩|⟨c,rfl⟩
  ·cases z
  ·exact fun z=>W.live x ((W.ok j _ ht).choose_spec.2.2.1 x z).1 ha
 rintro a' f' ds' ⟨rfl,rfl,rfl⟩ j c g cs hj hc z
 subst z
 obtain⟨x,e1,h1,h2,h3,ys,hy,_⟩:=W.ok j _ hc
 rw[hy] at ha;cases ha
theorem Sv.Ma(h:uZ G ρ te fun f ks=>∀a,E.nx (ρ.set i (.cy a f ks))):Sv G ρ (fS te (gP i)) E:=fun nb σ H D W K=>h nb σ H _ W fun f a ps H1 ks q s1 ha e hd=>K.nx _ _ _ H1 (q a) (Sk W s1 ha e hd)
theorem uZ.new(h:Θ true []):uZ G ρ FW Θ:=fun nb σ H Q W z p hp=>z true p [] _ [] h (.same W.au (cP hp)) hp bh (by unfold aq;rfl)
@[reducible] def W9(p:Int×PyData):PyData:= .tuple [.int p.1,p.2]
theorem OY{nb:Addr->Prop}{σ:St}{H:Hp}{a:Addr}{ps:List (Key×V)}{ks':Ks}(W:Wd G nb ρ σ H)(e:ρ[i]?=some (.cy a f ks))(hd:aq (G.S nb g) H (ks'.map ie) ps):Wd G nb (ρ.set i (.cy a g ks')) σ (upd H a (.dK ps)):=by
 obtain⟨x,e1,h1,h2,h3,ys,hy,_⟩:=W.ok i _ e
 subst h1
 have hil:i<ρ.length:=(bW.mp e).1
 have W0:Wd G nb (ρ.set i .no) (σ.set i (some (.ref a))) H:=W.set trivial fun _ _ _ z=>by cases z
 have W1:Wd G nb (ρ.set i .no) (σ.set i (some (.ref a))) (upd H a (.dK ps)):=W0.write h2 h3 (fun j c f' cs hc z=>by
   subst z
   have hij:i≠j:=fun z=>by subst z;rw[cg hil] at hc;cases hc
   rw[br hij] at hc
   obtain⟨_,_,_,_,_,ps,hp,_⟩:=W.ok j _ hc
   rw[hy] at hp;cases hp) (fun j c f' cs hc=>by
   by_cases hij:i=j
   ·subst hij;rw[cg hil] at hc;cases hc
   ·rw[br hij] at hc
    exact(W.gb i j _ _ _ _ _ _ hij e hc).symm) (fun j c hc z=>by
   have hij:i≠j:=fun z=>by subst z;rw[cg hil] at hc;cases hc
   rw[br hij] at hc
   exact W.dQ j i c _ (bJ hij) hc e a z (aP.mpr rfl))
 have W2:=W1.set (i:=i) (s:= .cy a g ks') (x:=some (.ref a)) ⟨rfl,h2,h3,ps,bh,hd.keep (aU.set (.inl h2))⟩ (fun _ _ _ z=>by cases z) (by
  rintro a' f' ds' ⟨rfl,rfl,rfl⟩ j c g' cs hj hc
  rw[br (bJ hj)] at hc
  exact W.gb i j _ _ _ _ _ _ (bJ hj) e hc) (fun x hx j t hj ht hc z=>by
  rw[br (bJ hj)] at ht
  have hx:x=a:=aP.mp hx
  subst hx
  rcases hc with ⟨c,q⟩|⟨c,rfl⟩
  ·cases q
  ·exact W.dQ j i c _ hj ht e x z (aP.mpr rfl))
 rw[l8,l8] at W2
 have:σ.set i (some (.ref a))=σ:=by
  apply jX
  intro j
  by_cases hij:i=j
  ·subst hij;rw[cg (by rw[W.len];exact hil),e1]
  ·rw[br hij]
 rwa[this] at W2
theorem Sv.Mb{a:Addr}(e:ρ[i]?=some (.cy a f ks))(h:Ev G ρ te fun g d=>Ev G ρ tb fun _ y=>∃k,y= .int k/\ks.length<10000/\E.nx (ρ.set i (.cy a (f && g) (tD ks k d)))):Sv G ρ (fS te (pU (cI i) tb FA)) E:=fun nb σ H D W KK=>
 h nb σ H _ W fun g v H1 d q s1 hv=>by
  obtain⟨x,e1,h1,h2,h3,ps,hp,hd⟩:=(W.step s1).ok i _ e
  subst h1
  refine⟨.ref a,e1,q nb σ H1 _ (W.step s1) fun g' u H2 y ⟨k,ey,hl,p⟩ s2 hu=>?_⟩
  subst ey
  have W2:=(W.step s1).step s2
  have hlen:=hd.len
  refine⟨a,ps, .inl k,rfl,hu.bR,s2.1 _ _ h3 hp,eE (by rw[hlen];exact hl) (by decide),KK.nx nb _ _ _ p (OY W2 e ?_)⟩
  exact aq.put ((hd.keep s2.dj).av (cV (fun z=>(dP _ _▸z).1) fun _ z=>z)) ((hv.keep s2.dj).av (cV (fun z=>(dP _ _▸z).2) fun _ z=>z))
namespace Ev
theorem Ky{a:Addr}(e:ρ[i]?=some (.cy a f ks))(h:Ev G ρ tb fun _ y=>∃k,y= .int k/\∃d,jj ks k=some d/\Φ f d):Ev G ρ (dD BV (cI i) tb) Φ:=fun nb σ H Q W z=>by
 obtain⟨x,e1,h1,h2,h3,ps,hp,hd⟩:=W.ok i _ e
 subst h1
 refine⟨.ref a,e1,h nb σ H _ W fun g w H1 y ⟨k,ey,d,hv,p⟩ s1 hw=>?_⟩
 subst ey
 have:=aq.val k (hd.keep s1.dj)
 rw[hv] at this
 obtain⟨v,hv',hD⟩:=this
 exact⟨a,ps, .inl k,v,rfl,hw.bR, .inl (s1.1 _ _ h3 hp),hv',z f _ H1 _ p s1 hD⟩
end Ev
end
def Cd(ng:Bool):R2:=fun x y H Q=>∃a o,y= .ref a/\pZ H a x o/\Q (.bl (o.isSome !=ng)) H
theorem WX{X:Cx}(hu:X.A.units+64<cLine):cR X (compareOp .In) (Cd false):=by
 intro pins s σ H x y v u Q I rx ry h
 obtain⟨a,o,rfl,g,q⟩:=h
 cases ry
 exact PR (by omega) I g rx fun s' I'=>⟨.bl o.isSome,H,I',rfl,by simpa using q⟩
theorem NZ{X:Cx}(hu:X.A.units+64<cLine):cR X (compareOp .NotIn) (Cd true):=by
 intro pins s σ H x y v u Q I rx ry h
 obtain⟨a,o,rfl,g,q⟩:=h
 cases ry
 exact Mf (by omega) I g rx fun s' I'=>⟨.bl (!o.isSome),H,I',rfl,by simpa using q⟩
section
variable{G:Gx}{ρ:Rh}{Φ:Pd}{ta tb te:TE}{i:Nat}{f:Bool}{ks:Ks}{K:PySem.W.Frag}{E:DE}
theorem Ev.LC{a:Addr}{ng:Bool}(e:ρ[i]?=some (.cy a f ks))(h:Ev G ρ ta fun _ y=>∃k,y= .int k/\Φ true (.bool (j9 ks k !=ng))):Ev G ρ (dD (Cd ng) ta (cI i)) Φ:=fun nb σ H Q W z=>
 h nb σ H _ W fun g w H1 y ⟨k,ey,p⟩ s1 hw=>by
  obtain⟨x,e1,h1,h2,h3,ps,hp,hd⟩:=(W.step s1).ok i _ e
  subst h1 ey
  refine⟨.ref a,e1,a,_,rfl,by rw[hw.bR];exact pZ.k (k:= .inl k) hp,?_⟩
  have:(gJ ps (Sum.inl k)).isSome=j9 ks k:=by rw[<-ye];exact aq.any k hd
  rw[this]
  exact z true _ H1 _ p s1 (.bl _)
end
end L2
set_option maxRecDepth 100000
set_option maxHeartbeats 4000000
set_option maxRecDepth 100000
set_option maxHeartbeats 4000000
namespace L2
open PySem PySem.Spec PyProof.Rows
structure PF(n:Int)(cs:List az):Prop where
 n0:1<=n
 n1:n<=10
 c0:cs≠[]
 c1:cs.length<=8
 ok:∀prs∈cs,prs≠[]/\prs.length<=4/\(prs.map (·.1)).Pairwise (· < ·)/\∀pr∈prs,0<=pr.1/\pr.1<n
section
variable{n:Int}{cs:List az}(h:PF n cs)
include h
end
end L2
set_option maxRecDepth 100000
set_option maxHeartbeats 4000000
set_option maxRecDepth 100000
set_option maxHeartbeats 4000000
set_option maxRecDepth 100000
set_option maxHeartbeats 4000000
namespace L2
open PySem PySem.Spec PyProof.Rows
theorem Ut{H:Hp}{a:Addr}{xs ys:List (Key×V)}(h:Rd H a (.dK xs))(g:Rd H a (.dK ys)):xs=ys:=by
 rcases h with h|⟨o,h⟩<;>rcases g with g|⟨u,g⟩<;>rw[h] at g<;>cases g<;>rfl
theorem rF.fn:∀{d e:PyData} {k:Key},rF d k->rF e k->d=e
  | .int i, e, k, h, g => by
    have h:k= .inl i:=h
    cases e<;>first|exact g.elim|(have g:k=_:=g;rw[h] at g;injection g with g;subst g;rfl)|(have g:k=_:=g;rw[h] at g;cases g)
  | .str i, e, k, h, g => by
    have h:k= .inr i:=h
    cases e<;>first|exact g.elim|(have g:k=_:=g;rw[h] at g;injection g with g;subst g;rfl)|(have g:k=_:=g;rw[h] at g;cases g)
  | .none,_,_,h,_=>h.elim
  | .bool _,_,_,h,_=>h.elim
  | .list _,_,_,h,_=>h.elim
  | .tuple _,_,_,h,_=>h.elim
  | .dict _,_,_,h,_=>h.elim
mutual
theorem ai.fn{S S':Addr->Prop}{H:Hp}:∀{d e:PyData} {v:V},ai S H d v->ai S' H e v->d=e
  | .none, e, v, h, g => by
    unfold ai at h;subst h
    cases e<;>unfold ai at g<;>first|rfl|(cases g;done)|(obtain⟨_,_,z,_⟩:=g;cases z)
  | .bool b, e, v, h, g => by
    unfold ai at h;subst h
    cases e<;>unfold ai at g<;>first|(cases g;done)|(cases g;rfl)|(obtain⟨_,_,z,_⟩:=g;cases z)
  | .int b, e, v, h, g => by
    unfold ai at h;subst h
    cases e<;>unfold ai at g<;>first|(cases g;done)|(cases g;rfl)|(obtain⟨_,_,z,_⟩:=g;cases z)
  | .str b, e, v, h, g => by
    unfold ai at h;subst h
    cases e<;>unfold ai at g<;>first|(cases g;done)|(cases g;rfl)|(obtain⟨_,_,z,_⟩:=g;cases z)
  | .list ds, e, v, h, g => by
    unfold ai at h
    obtain⟨a,xs,rfl,n,hx,hd⟩:=h
    cases e<;>unfold ai at g<;>first|(cases g;done)|skip
    all_goals (obtain⟨a',xs',z,n',hx',hd'⟩:=g;cases z)
    all_goals first
      |(rcases hx' with hx'|⟨o,hx'⟩<;>rw[hx] at hx'<;>cases hx';done)
      |(rw[hx] at hx';cases hx';done)
      |(rw[hx] at hx';cases hx';rw[af.fn hd hd'])
  | .tuple ds, e, v, h, g => by
    unfold ai at h
    obtain⟨a,xs,rfl,n,hx,hd⟩:=h
    cases e<;>unfold ai at g<;>first|(cases g;done)|skip
    all_goals (obtain⟨a',xs',z,n',hx',hd'⟩:=g;cases z)
    all_goals first
      |(rcases hx' with hx'|⟨o,hx'⟩<;>rw[hx] at hx'<;>cases hx';done)
      |(rw[hx] at hx';cases hx';done)
      |(rw[hx] at hx';cases hx';rw[af.fn hd hd'])
  | .dict ds, e, v, h, g => by
    unfold ai at h
    obtain⟨a,xs,rfl,n,hx,hd⟩:=h
    cases e<;>unfold ai at g<;>first|(cases g;done)|skip
    all_goals (obtain⟨a',xs',z,n',hx',hd'⟩:=g;cases z)
    all_goals first
      |(rcases hx with hx|⟨o,hx⟩<;>rw[hx] at hx'<;>cases hx';done)
      |(rw[aq.fn hd (by rw[Ut hx hx'];exact hd')])
theorem af.fn{S S':Addr->Prop}{H:Hp}:∀{ds es:List PyData} {vs:List V},af S H ds vs->af S' H es vs->ds=es
  | [], es, vs, h, g => by
    unfold af at h;subst h
    cases es with
    |nil=>rfl
    |cons e es=>unfold af at g;obtain⟨_,_,z,_⟩:=g;cases z
  | d :: ds, es, vs, h, g => by
    unfold af at h
    obtain⟨y,ys,rfl,h1,h2⟩:=h
    cases es with
    |nil=>unfold af at g;cases g
    | cons e es =>
      unfold af at g
      obtain⟨y',ys',z,g1,g2⟩:=g
      cases z
      rw[ai.fn h1 g1,af.fn h2 g2]
theorem aq.fn{S S':Addr->Prop}{H:Hp}:∀{ds es:List (PyData×PyData)} {vs:List (Key×V)},aq S H ds vs->aq S' H es vs->ds=es
  | [], es, vs, h, g => by
    unfold aq at h;subst h
    cases es with
    |nil=>rfl
    |cons e es=>unfold aq at g;obtain⟨_,_,z,_⟩:=g;cases z
  | d :: ds, es, vs, h, g => by
    unfold aq at h
    obtain⟨y,ys,rfl,h1,h2⟩:=h
    cases es with
    |nil=>unfold aq at g;cases g
    | cons e es =>
      unfold aq at g
      obtain⟨y',ys',z,g1,g2⟩:=g
      cases z
      rw[bO.fn h1 g1,aq.fn h2 g2]
theorem bO.fn{S S':Addr->Prop}{H:Hp}:∀{d e:PyData×PyData} {v:Key×V},bO S H d v->bO S' H e v->d=e
  | (k, d), (k', e), v, h, g => by
    unfold bO at h g
    rw[rF.fn h.1 g.1,ai.fn h.2 g.2]
end
mutual
theorem ai.out{S:Addr->Prop}{H:Hp}{c:Addr}{D:PyData}(hc:ai S H D (.ref c)):∀{d:PyData} {v:V},sizeOf d<sizeOf D->ai S H d v->ai (fun x=>S x\/x=c) H d v
  | .none,_,_,h=>by unfold ai at h⊢;exact h
  | .bool _,_,_,h=>by unfold ai at h⊢;exact h
  | .int _,_,_,h=>by unfold ai at h⊢;exact h
  | .str _,_,_,h=>by unfold ai at h⊢;exact h
  | .list ds, v, hs, h => by
    have h0:=h
    unfold ai at h⊢
    obtain⟨a,xs,rfl,n,hx,hd⟩:=h
    refine⟨a,xs,rfl,fun z=>z.elim n fun z=>?_,hx,af.out hc (by simp at hs;omega) hd⟩
    subst z
    rw[ai.fn hc h0] at hs
    exact absurd hs (iR _)
  | .tuple ds, v, hs, h => by
    have h0:=h
    unfold ai at h⊢
    obtain⟨a,xs,rfl,n,hx,hd⟩:=h
    refine⟨a,xs,rfl,fun z=>z.elim n fun z=>?_,hx,af.out hc (by simp at hs;omega) hd⟩
    subst z
    rw[ai.fn hc h0] at hs
    exact absurd hs (iR _)
  | .dict ds, v, hs, h => by
    have h0:=h
    unfold ai at h⊢
    obtain⟨a,xs,rfl,n,hx,hd⟩:=h
    refine⟨a,xs,rfl,fun z=>z.elim n fun z=>?_,hx,aq.out hc (by simp at hs;omega) hd⟩
    subst z
    rw[ai.fn hc h0] at hs
    exact absurd hs (iR _)
theorem af.out{S:Addr->Prop}{H:Hp}{c:Addr}{D:PyData}(hc:ai S H D (.ref c)):∀{ds:List PyData} {vs:List V},sizeOf ds<sizeOf D->af S H ds vs->af (fun x=>S x\/x=c) H ds vs
  |[],_,_,h=>by unfold af at h⊢;exact h
  | d :: ds, _, hs, h => by
    unfold af at h⊢
    obtain⟨y,ys,e,h1,h2⟩:=h
    exact⟨y,ys,e,ai.out hc (by simp at hs;omega) h1,af.out hc (by simp at hs;omega) h2⟩
theorem aq.out{S:Addr->Prop}{H:Hp}{c:Addr}{D:PyData}(hc:ai S H D (.ref c)):∀{ds:List (PyData×PyData)} {vs:List (Key×V)},sizeOf ds<sizeOf D->aq S H ds vs->aq (fun x=>S x\/x=c) H ds vs
  |[],_,_,h=>by unfold aq at h⊢;exact h
  | d :: ds, _, hs, h => by
    unfold aq at h⊢
    obtain⟨y,ys,e,h1,h2⟩:=h
    exact⟨y,ys,e,bO.out hc (by simp at hs;omega) h1,aq.out hc (by simp at hs;omega) h2⟩
theorem bO.out{S:Addr->Prop}{H:Hp}{c:Addr}{D:PyData}(hc:ai S H D (.ref c)):∀{d:PyData×PyData} {v:Key×V},sizeOf d<sizeOf D->bO S H d v->bO (fun x=>S x\/x=c) H d v
  | (k, d), _, hs, h => by
    unfold bO at h⊢
    exact⟨h.1,ai.out hc (by simp at hs;omega) h.2⟩
end
def pG(G:Gx)(ρ:Rh)(te:TE)(Φ:PyData->Prop):Prop:=∀nb σ H (Q:VK),Wd G nb ρ σ H->(∀v H' d,Φ d->Step G.B H H'->ai (fun a=>H a≠none) H' d v->Q v H')->te σ H Q
section
variable{G:Gx}{ρ:Rh}{ta tb te:TE}{t:TA}{E:DE}{i j k m:Nat}{f:Bool}{K:PySem.W.Frag}{Φ:PyData->Prop}
theorem Wd.GX{nb:Addr->Prop}{σ:St}{H H1:Hp}{a:Addr}(W:Wd G nb ρ σ H)(s:Step G.B H H1)(h:H a≠none):H1 a≠none:=fun e=>h (W.none_of s e)
theorem pG.pP{n:Nat}{F:DF}(hm:eG F)(e:ρ[i]?=some .au)(h:Av G ρ t fun es=>es.length+1=n/\F (es.map (·.2)) fun f d=>f=true/\Φ d):pG G ρ (g9 (iu n F) [] E0 (bC (cI i) t)) Φ:=fun nb σ H Q W z=>by
 obtain⟨b,l,hB,e1,B⟩:=W.vL e
 refine⟨.ref b,e1,h nb σ H _ W fun es vs H1 ⟨hl,p⟩ s1 q1=>?_⟩
 have W1:=W.step s1
 show iu n F ((V.ref b::vs)++[]) H1 Q E0
 rw[jG]
 have hb:∀f,G.S nb f b:=fun f=> .inr (.inr (.inl fun n=>n b l hB rfl))
 refine⟨by rw[eB,q1.len,hl],b,l,vs,G.S nb (ja es),es.map (·.2),rfl,W1.au b l hB,W1.jn,hb _,q1.all fun z=>z,hm _ _ _ p fun f d ⟨hf,hp⟩ v H' bt B' hd=>z v H' d hp (s1.trans (.vF hB bt B')) (hd.av fun a q=>?_)⟩
 exact .inr ⟨hf,W.GX s1 q⟩
theorem pG.e7{n:Nat}{F:DF}(hm:eG F)(h:Av G ρ t fun es=>es.length=n/\F (es.map (·.2)) fun f d=>f=true/\Φ d):pG G ρ (g9 (bT n F) [] E0 t) Φ:=fun nb σ H Q W z=>
 h nb σ H _ W fun es vs H1 ⟨hl,p⟩ s1 q1=>by
  have W1:=W.step s1
  rw[jG]
  refine⟨by rw[q1.len,hl],G.S nb (ja es),es.map (·.2),W1.jn,q1.all fun z=>z,hm _ _ _ p fun f d ⟨hf,hp⟩ v H' sm hd=>z v H' d hp (s1.trans (.same W1.au sm)) (hd.av fun a q=>?_)⟩
  exact .inr ⟨hf,W.GX s1 q⟩
theorem Wd.Pc{nb:Addr->Prop}{σ:St}{H H1:Hp}{c:Addr}{ds:List PyData}(W:Wd G nb ρ σ H)(s1:Step G.B H H1)(h:ai (fun a=>H a≠none) H1 (.list ds) (.ref c)):
  Wd G (fun x=>nb x\/x=c) (ρ.set i (.own c true ds)) (σ.set i (some (.ref c))) H1:=by
 have h0:=h
 obtain⟨c',xs,e,n,hx,hd⟩:=h.dU
 cases e
 have hc:H c=none:=jF fun z=>n z
 refine Sv.HF W s1 hc hx ((af.out h0 (by simp) hd).av fun x z=>?_)
 rcases z with z|z
 ·exact .inl (W.jn x z)
 ·exact .inr z
end
end L2
set_option maxRecDepth 100000
set_option maxHeartbeats 1000000
set_option maxRecDepth 100000
set_option maxHeartbeats 4000000
namespace L2
open PySem PySem.Spec PyProof.Rows
def ko(k6:List Int)(prs:az):Nat:=(prs.filter fun pr=>decide (pr.1∈k6)).length
def pY(cs:List az)(k6:List Int):Bool:=cs.all fun prs=>decide (ko k6 prs≠1)
end L2
set_option maxRecDepth 100000
set_option maxHeartbeats 4000000
set_option maxRecDepth 100000
set_option maxHeartbeats 4000000
namespace L2
open PySem PySem.Spec PyProof.Rows
structure AH(cs:List az)(k6 g:List Int):Prop where
 sub:∃q:Int->Bool,g=k6.filter q
 out:pY cs g=true
 max:∀T:List Int,(∀x∈T,x∈k6)->pY cs T=true->∀x∈T,x∈g
theorem OI{S T:List Int}(h:∀x∈T,x∈S)(prs:az):ko T prs<=ko S prs:=by
  unfold ko
  induction prs with
  |nil=>exact aF _
  | cons pr prs ih =>
    rw[List.filter_cons,List.filter_cons]
    by_cases c:pr.1∈T
    · rw[if_pos (by simpa using c),if_pos (by simpa using h _ c),eB,eB];omega
    · rw[if_neg (by simpa using c)]
      by_cases c2:pr.1∈S
      · rw[if_pos (by simpa using c2),eB];omega
      · rw[if_neg (by simpa using c2)];exact ih
theorem U0{T:List Int}{x:Int}{prs:az}(hx:x∈T)(h:x∈prs.map (·.1)):1<=ko T prs:=by
 obtain⟨pr,hp,e⟩:=cZ.mp h
 unfold ko
 exact List.length_pos_of_mem (jr.mpr ⟨hp,by rw[e];simpa using hx⟩)
@[reducible] def Xg(S:List Int):Ks:=S.map fun x=>(x,PyData.bool true)
end L2
set_option maxRecDepth 100000
set_option maxHeartbeats 4000000
namespace L2
open PySem PySem.Spec PyProof.Rows
theorem E5:∀{a b:List Int},a.Pairwise (· < ·)->b.Pairwise (· < ·)->(∀k,k∈a↔k∈b)->a=b
  |[],[],_,_,_=>rfl
  |[],y::b,_,_,h=>absurd ((h y).mpr (bV ..)) (by simp)
  |x::a,[],_,_,h=>absurd ((h x).mp (bV ..)) (by simp)
  | x :: a, y :: b, ha, hb, h => by
    obtain⟨ha1,ha2⟩:=pJ.mp ha
    obtain⟨hb1,hb2⟩:=pJ.mp hb
    have e:x=y:=by
      rcases aG.mp ((h x).mp (bV ..)) with z|z
      · exact z
      · rcases aG.mp ((h y).mpr (bV ..)) with w|w
        · exact w.symm
        · have:=hb1 x z;have:=ha1 y w;omega
    subst e
    have:a=b:=E5 ha2 hb2 fun k=>by
      constructor
      · intro hk
        rcases aG.mp ((h k).mp (cH _ hk)) with z|z
        · have:=ha1 k hk;omega
        · exact z
      · intro hk
        rcases aG.mp ((h k).mpr (cH _ hk)) with z|z
        · have:=hb1 k hk;omega
        · exact z
    rw[this]
theorem AH.mem{cs:List az}{k6 g:List Int}(h:AH cs k6 g):∀x∈g,x∈k6:=fun x hx=>by
 obtain⟨q,e⟩:=h.sub
 rw[e] at hx
 exact(jr.mp hx).1
end L2
set_option maxRecDepth 100000
set_option maxHeartbeats 4000000
namespace L2
open PySem PySem.Spec PyProof.Rows
def Gz(row:List Int):Int:=match row.getLast? with|none=>0|some l=>l+1
def TU(n:Int)(row:List Int):List Int:=(List.range (n-Gz row).toNat).map fun(i:Nat)=>Gz row+(i:Int)
def ext(n:Int)(row:List Int):List (List Int):=(TU n row).map fun p=>row++[p]
@[reducible] def Xi:Option (List Int)->PyData
 |none=> .none
 |some r=>aO r
theorem Na{α β:Type}{φ:α->β}{l1 l2:List β}(h:l1.Perm l2):∀xs:List α,l2=xs.map φ->∃ys:List α,l1=ys.map φ/\ys.Perm xs:=by
  induction h with
  |nil=>intro xs e;exact⟨[],rfl,by cases xs<;>first|exact .nil|cases e⟩
  | cons x _ ih =>
    intro xs e
    cases xs with
    |nil=>cases e
    | cons a xs =>
      obtain⟨e1,e2⟩:=rS e
      obtain⟨ys,e3,p⟩:=ih xs e2
      exact⟨a::ys,by rw[e3,e1];rfl,p.cons a⟩
  | swap x y l =>
    intro xs e
    match xs,e with
    | a :: b :: xs, e =>
      obtain⟨e1,e2⟩:=rS e
      obtain⟨e3,e4⟩:=rS e2
      exact⟨b::a::xs,by rw[e1,e3,e4];rfl, .swap a b xs⟩
  | trans _ _ ih1 ih2 =>
    intro xs e
    obtain⟨ys,e1,p1⟩:=ih2 xs e
    obtain⟨zs,e2,p2⟩:=ih1 ys e1
    exact⟨zs,e2,p2.trans p1⟩
end L2
set_option maxRecDepth 100000
set_option maxHeartbeats 4000000
namespace L2
open PySem PySem.Spec PyProof.Rows
section
variable{G:Gx}{ρ:Rh}{Φ:Pd}{t:TA}{te:TE}
theorem Sv.SJ{i:Nat}{E:DE}(h:pG G ρ te fun d=>(∃ds,d= .list ds/\∀a,E.nx (ρ.set i (.own a true ds)))\/(iG d=true/\E.nx (ρ.set i (.d true d)))):Sv G ρ (fS te (gP i)) E:=fun nb σ H D W K=>
 h nb σ H _ W fun v H1 d hd st hv=>by
  rcases hd with ⟨ds,rfl,q⟩|⟨hs,q⟩
  ·have h0:=hv
   obtain⟨c,xs,rfl,_⟩:=hv.dU
   exact K.nx _ _ _ _ (q c) (Wd.Pc (i:=i) W st h0)
  ·exact K.nx nb _ _ _ q ((W.step st).nI (i:=i) (f:=true) (hv.jN hs))
end
end L2
set_option maxRecDepth 100000
set_option maxHeartbeats 4000000
set_option maxRecDepth 100000
set_option maxHeartbeats 4000000
set_option maxRecDepth 100000
set_option maxHeartbeats 4000000
namespace L2
open PySem PySem.Spec PyProof.Rows
def gI(r:List Int)(i:Nat):Int:=r.getD i 0
def co(prs:az)(j:Nat):Int:=(prs.map fun pr=>if pr.1.toNat=j then pr.2 else 0).sum
end L2
set_option maxRecDepth 100000
set_option maxHeartbeats 4000000
set_option maxRecDepth 100000
set_option maxHeartbeats 4000000
set_option maxRecDepth 100000
set_option maxHeartbeats 4000000
set_option maxRecDepth 100000
set_option maxHeartbeats 4000000
namespace L2
open PySem PySem.Spec PyProof.Rows
theorem jm{P:(Addr->Prop)->Prop}{H:Hp}(hP:∀{S S':Addr->Prop},(∀a,S' a->S a)->P S->P S')(hf:∀{S:Addr->Prop} {p:Addr},H p=none->P S->P fun a=>S a\/a=p):∀{L:List Addr} {S:Addr->Prop},(∀a∈L,H a=none)->P S->P fun a=>S a\/a∈L
 |[],S,_,h=>hP (fun a z=>z.elim (fun z=>z) fun z=>by cases z) h
 | p :: L, S, hL, h => hP (fun a z => by
   rcases z with z|z
   ·exact .inl (.inl z)
   ·rcases aG.mp z with z|z
    ·exact .inr z
    ·exact .inl (.inr z)) (hf (hL p (bV ..)) (jm hP hf (L:=L) (fun a m=>hL a (cH _ m)) h))
section
variable{G:Gx}{ρ:Rh}{nb:Addr->Prop}{σ:St}{H H1:Hp}{i:Nat}{L:List Addr}{c c':Cu}{f:Bool}{d:PyData}{p:Addr}{o:HO}{E:DE}
theorem Wd.FL(W:Wd G nb ρ σ H)(s1:Step G.B H H1)(ha:∀a∈L,H a=none)(e:∀a∈L,H1 a≠none):Wd G (fun x=>nb x\/x∈L) ρ σ H1/\(∀a∈L,NB G.B a)/\∀f x,G.S (fun x=>nb x\/x∈L) f x->(G.S nb f x\/x∈L):=by
  have hN:∀a∈L,NB G.B a:=fun a m=>NB.new W.au (ha a m)
  have hA:∀f x,G.S (fun x=>nb x\/x∈L) f x->(G.S nb f x\/x∈L):=fun f x z=>by
    rcases z with (z|z)|z|z|z
    · exact .inl (.inl z)
    · exact .inr z
    · exact .inl (.inr (.inl z))
    · exact .inl (.inr (.inr (.inl z)))
    · exact .inl (.inr (.inr (.inr z)))
  have W1:=W.step s1
  have fD:∀{S:Addr->Prop} {d:PyData} {v:V},ai S H d v->ai (fun a=>S a\/a∈L) H d v:=fun{S d v} h=>jm (P:=fun S=>ai S H d v) (fun z h=>ai.av z h) (fun hp h=>ai.fresh hp h) ha h
  have zf:∀{S:Addr->Prop} {d:List PyData} {v:List V},af S H d v->af (fun a=>S a\/a∈L) H d v:=fun{S d v} h=>jm (P:=fun S=>af S H d v) (fun z h=>af.av z h) (fun hp h=>af.fresh hp h) ha h
  have A8:∀{S:Addr->Prop} {d:List (PyData×PyData)} {v:List (Key×V)},aq S H d v->aq (fun a=>S a\/a∈L) H d v:=fun{S d v} h=>jm (P:=fun S=>aq S H d v) (fun z h=>aq.av z h) (fun hp h=>aq.fresh hp h) ha h
  have fH:∀{S:Addr->Prop} {d:HD} {v:V},fE S H d v->fE (fun a=>S a\/a∈L) H d v:=fun{S d v} h=>jm (P:=fun S=>fE S H d v) (fun z h=>fE.av h z) (fun hp h=>fE.fresh h hp) ha h
  refine⟨?_,hN,hA⟩
  refine⟨W1.au,fun x n=>?_,W1.old,fun x n q=>?_,W.gA,W.len,W.gB,fun h m=>((fH (W.gu h m)).keep (s1.but fun x z=> .inl (.inr (.inr (.inl z))))).av (hA h.1),fun j s e'=>?_,W.apart,W.gb,W.dQ⟩
  · rcases n with n|n
    · exact W1.live x n
    · exact e x n
  · rcases n with n|n
    · exact W.dh x n q
    · cases z:G.H0 x with
      |none=>rfl
      |some o=>have:=ha x n;rw[W.old x o q z] at this;cases this
  · obtain⟨x,e1,h⟩:=W.ok j s e'
    refine⟨x,e1,?_⟩
    cases s with
    |no=>trivial
    |d f d=>obtain⟨v,e,h⟩:=h;exact⟨v,e,((fD h).keep (s1.but fun x z=> .inl (.inr (.inr (.inl z))))).av (hA f)⟩
    |own c f es=>obtain⟨e,n,q,xs,hx,hd⟩:=h;exact⟨e, .inl n,q,xs,s1.1 _ _ q hx,((zf hd).keep (s1.but fun x z=> .inl (.inr (.inr (.inl z))))).av (hA f)⟩
    |au=>exact h
    |raw v=>exact h
    |cy c f es=>obtain⟨e,n,q,xs,hx,hd⟩:=h;exact⟨e, .inl n,q,xs,s1.1 _ _ q hx,((A8 hd).keep (s1.but fun x z=> .inl (.inr (.inr (.inl z))))).av (hA f)⟩
    | cu c =>
      obtain⟨e,n,q⟩:=h
      refine⟨e,fun a ha=>⟨.inl (n a ha).1,(n a ha).2⟩,c.av (hA c.f) (c.keep (.of fun x o hx e=>s1.1 x o ?_ e) (jm (P:=fun S=>c.P S H) (fun z h=>c.av z h) (fun hp h=>c.fresh hp h) ha q))⟩
      rcases hx with hx|hx
      · exact jF fun z=>hx (.inl (.inr (.inr (.inl z))))
      · exact(n x hx).2
theorem n5.yE{x:Option V}{s:Sl}(h:n5 G nb H x s):∀a∈s.adr,nb a/\NB G.B a:=by
 cases s with
 |own a f ds=>intro x hx;rw[aP.mp hx];exact⟨h.2.1,h.2.2.1⟩
 |cy a f ds=>intro x hx;rw[aP.mp hx];exact⟨h.2.1,h.2.2.1⟩
 |cu c=>exact h.2.1
 |no=>intro _ z;cases z
 |d _ _=>intro _ z;cases z
 |au=>intro _ z;cases z
 |raw _=>intro _ z;cases z
theorem Wd.QS(W:Wd G nb ρ σ H)(s1:Step G.B H H1)(ha:∀a∈c.F,H a=none)(e:∀a∈c.F,H1 a≠none)(hP:c.P (fun x=>G.S nb c.f x\/x∈c.F) H1):Wd G (fun x=>nb x\/x∈c.F) (ρ.set i (.cu c)) (σ.set i (some c.v)) H1:=by
 obtain⟨W2,hN,hA⟩:=W.FL s1 ha e
 refine W2.set ⟨rfl,fun a m=>⟨.inr m,hN a m⟩,c.av (hA c.f) hP⟩ (fun _ _ _ z=>by cases z) (fun _ _ _ z=>by cases z) (fun x hx j t hj ht hc z=>?_)
 obtain⟨y,e1,h⟩:=W.ok j _ ht
 exact W.live x (h.yE x z).1 (ha x hx)
theorem Wd.IE(W:Wd G nb ρ σ H)(e:ρ[i]?=some (.cu c))(hp:p∈c.F)(hv:c'.v=c.v)(hF:∀a∈c'.F,a∈c.F)(h:c'.P (G.S nb c'.f) (upd H p o)):Wd G nb (ρ.set i (.cu c')) σ (upd H p o):=by
 obtain⟨x,e1,h1,h2,h3⟩:=W.ok i _ e
 subst h1
 have hil:i<ρ.length:=(bW.mp e).1
 have W0:Wd G nb (ρ.set i .no) (σ.set i (some c.v)) H:=W.set trivial fun _ _ _ z=>by cases z
 have other:∀(j:Nat) s,(ρ.set i .no)[j]?=some s->s≠ .no->p∉s.adr:=fun j s hs hn=>by
  have hij:i≠j:=fun z=>by subst z;rw[cg hil] at hs;cases hs;exact hn rfl
  rw[br hij] at hs
  exact W.dQ i j c s hij e hs p hp
 have W1:Wd G nb (ρ.set i .no) (σ.set i (some c.v)) (upd H p o):=W0.write (h2 p hp).1 (h2 p hp).2 (fun j a f ds hs z=>other j _ hs (by intro z;cases z) (aP.mpr z.symm)) (fun j a f ds hs z=>other j _ hs (by intro z;cases z) (aP.mpr z.symm)) (fun j c hs=>other j _ hs (by intro z;cases z))
 have W2:=W1.set (i:=i) (s:= .cu c') (x:=some c.v) ⟨by rw[hv],fun a m=>h2 a (hF a m),h⟩ (fun _ _ _ z=>by cases z) (fun _ _ _ z=>by cases z) (fun x hx j t hj ht hc=>by
  rw[br (bJ hj)] at ht
  exact W.dQ i j c t (bJ hj) e ht x (hF x hx))
 rw[l8,l8] at W2
 have:σ.set i (some c.v)=σ:=by
  apply jX
  intro j
  by_cases hij:i=j
  ·subst hij;rw[cg (by rw[W.len];exact hil),e1]
  ·rw[br hij]
 rwa[this] at W2
end
end L2
set_option maxRecDepth 100000
set_option maxHeartbeats 4000000
namespace L2
open PySem PySem.Spec PyProof.Rows
abbrev Xe:=Int×Addr×List PyData
end L2
set_option maxRecDepth 100000
set_option maxHeartbeats 4000000
set_option maxRecDepth 100000
set_option maxHeartbeats 4000000
namespace L2
open PySem PySem.Spec PyProof.Rows
@[reducible] def sJ(t:Int×Int×Int):PyData:= .tuple [.int t.1, .int t.2.1, .int t.2.2]
end L2
set_option maxRecDepth 100000
set_option maxHeartbeats 4000000
namespace L2
open PySem PySem.Spec PyProof.Rows
def brk(p:Int)(cs:List az)(ws:List Int):Nat:=cs.countP fun prs=>decide (aQ prs (ws.map some)%p≠0)
end L2
set_option maxRecDepth 100000
set_option maxHeartbeats 4000000
namespace L2
open PySem PySem.Spec PyProof.Rows
abbrev Gy:=Int×Int×Int
theorem K5(ts:List Gy):SeqAt.shaped (.list (ts.map sJ))=true:=by
 have h:PyData.depthAll (ts.map sJ)<=1/\PyData.canLayAll0 (ts.map sJ)=true:=by
  induction ts with
  |nil=>simp[PyData.depthAll,PyData.canLayAll0]
  |cons a r ih=>simp[sJ,PyData.depthAll,PyData.depth,PyData.canLayAll0,PyData.canLay0,ih.2];have:=ih.1;omega
 unfold SeqAt.shaped
 simp only[PyData.canLay0,PyData.depth,h.2,Cg]
 have:=h.1
 simp
 omega
theorem HE:SeqAt.shaped (.list [])=true:=by with_unfolding_all rfl
theorem NW(ts:List Gy):(PyData.eqv (.list (ts.map sJ)) (.list []) !=false)=decide (ts=[]):=by
 cases ts<;>simp[PyData.eqv,PyData.eqvAll]
end L2
set_option maxRecDepth 100000
set_option maxHeartbeats 4000000
set_option maxRecDepth 100000
set_option maxHeartbeats 4000000
namespace L2
open PySem PySem.Spec PyProof.Rows
structure l9(P:Program)(w:World)(K:PySem.W.Frag)(mg:Str->Option Value)(base:Heap)(C:Addr)(m:Str)(k:Nat)(ps:List Str)(sp:Sp):Prop where
 cl:ez K C
 ex:∃f fd,bu P w K mg base bD k f fd ps sp/\Binds K fd ps []/\Meth K C m f
structure yd(P:Program)(w:World)(K:PySem.W.Frag)(mg:Str->Option Value)(base:Heap)(C:Addr)(x:Str)(k:Nat)(ps:List Str)(sp:Sp):Prop where
 ex:∃f fd,bu P w K mg base bD k f fd ps sp/\Binds K fd ps []/\Mk K C f/\mg x=some (.ref C)
section
variable{X:Cx}{C:Addr}{k:Nat}{ps:List Str}{sp:Sp}{x m:Str}{p pos apos:Pos}{e o:Expr}{es:List Expr}{ta:TE}{t:TA}
theorem WU{pl:Sem Bool}(c:l9 X.prog X.w X.K X.mg X.base C m k ps sp)(he:PE X o ta)(hr:cX k X.A)(ha:PA X (e::es) t)
  (hst:starEach (e::es) X.env=(false,eval e X.env)::starEach es X.env:=by rfl) (hpl:(backTo pos (starEach es X.env)).any (·.1)=false:=by rfl)
  (ht : eval (.Call (.Attribute o m apos) (e :: es) [] pos) X.env = (do
   let ov<-eval o X.env
   standAt apos.atName
   let (f,first)<-holding [ov] (getMethod ov m pl)
   callWith pos f first (backTo pos (starEach (e::es) X.env)) (backToKw pos (keywordEach [] X.env))):=by rfl):
  PE X (.Call (.Attribute o m apos) (e::es) [] pos) (qW C m sp [] E0 ta t):=by
 obtain⟨f,fd,F,b,mm⟩:=c.ex
 exact MM (pl:=pl) he c.cl mm F hr b .nil vJ ha hst hpl ht
theorem uY{pl:Sem Bool}(c:l9 X.prog X.w X.K X.mg X.base C m k ps sp)(he:PE X o ta)(hr:cX k X.A)
  (ht : eval (.Call (.Attribute o m apos) [] [] pos) X.env = (do
   let ov<-eval o X.env
   standAt apos.atName
   let (f,first)<-holding [ov] (getMethod ov m pl)
   callWith pos f first (backTo pos (starEach [] X.env)) (backToKw pos (keywordEach [] X.env))):=by rfl):
  PE X (.Call (.Attribute o m apos) [] [] pos) (qW C m sp [] E0 ta cz):=by
 obtain⟨f,fd,F,b,mm⟩:=c.ex
 exact MX (pl:=pl) he c.cl mm F hr b .nil vJ ht
theorem Wb(c:yd X.prog X.w X.K X.mg X.base C x k ps sp)(hr:cX (k+1) X.A)(ha:PA X (e::es) t)(hg:Gl X x:=by rfl)
  (hdb:(x==("__debug__":Str))=false:=by decide) (he:starEach (e::es) X.env=(false,eval e X.env)::starEach es X.env:=by rfl) (hpl:(backTo pos (starEach es X.env)).any (·.1)=false:=by rfl):
  PE X (.Call (.Name x p) (e::es) [] pos) (yh C sp [] E0 t):=by
 obtain⟨f,fd,F,b,M,m⟩:=c.ex
 exact LK M F hr hg m b .nil vJ ha hdb he hpl
end
section
variable{G:Gx}{ρ:Rh}{nb:Addr->Prop}{σ:St}{H H':Hp}{i:Nat}{c c':Cu}{E:DE}
theorem Wd.D3(W:Wd G nb ρ σ H)(e:ρ[i]?=some (.cu c))(hH:∀a o,a∉c.F->H a=some o->H' a=some o)(hv:c'.v=c.v)(hF:∀a∈c'.F,a∈c.F\/H a=none\/(nb a/\NB G.B a/\∀(j:Nat) s,ρ[j]?=some s->a∉s.adr))(hl:∀a,a∈c.F\/a∈c'.F->H' a≠none)
    (h:c'.P (G.S (fun x=>nb x\/x∈c'.F) c'.f) H'):Wd G (fun x=>nb x\/x∈c'.F) (ρ.set i (.cu c')) σ H':=by
  obtain⟨x0,e1,h1,h2,h3⟩:=W.ok i _ e
  subst h1
  have hil:i<ρ.length:=(bW.mp e).1
  obtain⟨L,hL⟩:∃L,L=c'.F.filter fun a=>(H a).isNone:=⟨_,rfl⟩
  have ha:∀a∈L,H a=none:=fun a m=>by
    rw[hL,jr] at m
    exact IZ.mp m.2
  have PB:∀a∈c'.F,nb a\/a∈L:=fun a m=>by
    rcases hF a m with z|z|z
    · exact .inl (h2 a z).1
    · exact .inr (by rw[hL];exact jr.mpr ⟨m,IZ.mpr z⟩)
    · exact .inl z.1
  have hA:∀f x,G.S (fun x=>nb x\/x∈c'.F) f x->(G.S nb f x\/x∈L):=fun f x z=>by
    rcases z with (z|z)|z|z|z
    · exact .inl (.inl z)
    · exact(PB x z).elim (fun z=> .inl (.inl z)) .inr
    · exact .inl (.inr (.inl z))
    · exact .inl (.inr (.inr (.inl z)))
    · exact .inl (.inr (.inr (.inr z)))
  have bt:∀f,aU (G.S (fun x=>nb x\/x∈c'.F) f) H H':=fun f a o n q=>hH a o (fun z=>n (.inl (.inl (h2 a z).1))) q
  have fD:∀{S:Addr->Prop} {d:PyData} {v:V},ai S H d v->ai (fun a=>S a\/a∈L) H d v:=fun{S d v} h=>jm (P:=fun S=>ai S H d v) (fun z h=>ai.av z h) (fun hp h=>ai.fresh hp h) ha h
  have zf:∀{S:Addr->Prop} {d:List PyData} {v:List V},af S H d v->af (fun a=>S a\/a∈L) H d v:=fun{S d v} h=>jm (P:=fun S=>af S H d v) (fun z h=>af.av z h) (fun hp h=>af.fresh hp h) ha h
  have A8:∀{S:Addr->Prop} {d:List (PyData×PyData)} {v:List (Key×V)},aq S H d v->aq (fun a=>S a\/a∈L) H d v:=fun{S d v} h=>jm (P:=fun S=>aq S H d v) (fun z h=>aq.av z h) (fun hp h=>aq.fresh hp h) ha h
  have fH:∀{S:Addr->Prop} {d:HD} {v:V},fE S H d v->fE (fun a=>S a\/a∈L) H d v:=fun{S d v} h=>jm (P:=fun S=>fE S H d v) (fun z h=>fE.av h z) (fun hp h=>fE.fresh h hp) ha h
  have mJ:∀a∈c'.F,NB G.B a:=fun a m=>(hF a m).elim (fun z=>(h2 a z).2) fun z=>z.elim (fun z=>NB.new W.au z) fun z=>z.2.1
  have Sd:jA G.B H':=fun b l eb=>by
    obtain⟨ns,i0,c0,st,n,g1,g2,g3⟩:=W.au b l eb
    have hb:b∉c.F:=fun z=>(h2 b z).2 b l eb rfl
    have J8:l∉c.F:=fun z=>by
      obtain⟨_,_,_,_,_,_,q2,_⟩:=W.gB b l eb
      rw[W.dh l (h2 l z).1 (h2 l z).2] at q2;cases q2
    exact⟨ns,i0,c0,st,n,hH _ _ hb g1,hH _ _ J8 g2,g3⟩
  have other:∀(j:Nat) s,i≠j->ρ[j]?=some s->∀a∈s.adr,a∉c.F:=fun j s hij hs a m z=>W.dQ i j c s hij e hs a z m
  refine⟨Sd,fun a n=>?_,fun a o n q=>?_,fun a n q=>?_,W.gA,by rw[gQ];exact W.len,W.gB,fun h m=>((fH (W.gu h m)).av (hA h.1)).keep (bt h.1),fun j s e'=>?_,?_,?_,?_⟩
  · rcases n with n|n
    · by_cases z:a∈c.F
      · exact hl a (.inl z)
      · cases q:H a with
        |none=>exact absurd q (W.live a n)
        |some o=>rw[hH a o z q];exact iM _
    · exact hl a (.inr n)
  · refine hH a o (fun z=>?_) (W.old a o n q)
    rw[W.dh a (h2 a z).1 n] at q;cases q
  · rcases n with n|n
    · exact W.dh a n q
    · rcases hF a n with z|z|z
      · exact W.dh a (h2 a z).1 q
      · cases w:G.H0 a with
        |none=>rfl
        |some o=>rw[W.old a o q w] at z;cases z
      · exact W.dh a z.1 q
  · by_cases hij:i=j
    · subst hij
      rw[cg hil] at e'
      cases e'
      exact⟨some c.v,e1,by rw[hv],fun a m=>⟨.inr m,mJ a m⟩,h⟩
    · rw[br hij] at e'
      obtain⟨x,e2,q⟩:=W.ok j s e'
      refine⟨x,e2,?_⟩
      have ap:=other j s hij e'
      cases s with
      |no=>trivial
      |d f d=>obtain⟨v,e,h⟩:=q;exact⟨v,e,((fD h).av (hA f)).keep (bt f)⟩
      |own a f es=>obtain⟨e,n,q,xs,hx,hd⟩:=q;exact⟨e, .inl n,q,xs,hH _ _ (ap a (aP.mpr rfl)) hx,((zf hd).av (hA f)).keep (bt f)⟩
      |au=>exact q
      |raw v=>exact q
      |cy a f es=>obtain⟨e,n,q,xs,hx,hd⟩:=q;exact⟨e, .inl n,q,xs,hH _ _ (ap a (aP.mpr rfl)) hx,((A8 hd).av (hA f)).keep (bt f)⟩
      | cu c2 =>
        obtain⟨e,n,q⟩:=q
        refine⟨e,fun a ha=>⟨.inl (n a ha).1,(n a ha).2⟩,c2.keep (.of fun x o hx e=>hH x o ?_ e) (c2.av (hA c2.f) (jm (P:=fun S=>c2.P S H) (fun z h=>c2.av z h) (fun hp h=>c2.fresh hp h) ha q))⟩
        rcases hx with hx|hx
        · exact fun z=>hx (.inl (.inl (h2 x z).1))
        · exact ap x hx
  all_goals
    intro j k
  · intro a f as c2 g cs hjk q1 q2
    have hj:i≠j:=fun z=>by subst z;rw[cg hil] at q1;cases q1
    have hk:i≠k:=fun z=>by subst z;rw[cg hil] at q2;cases q2
    rw[br hj] at q1
    rw[br hk] at q2
    exact W.apart j k a f as c2 g cs hjk q1 q2
  · intro a f as c2 g cs hjk q1 q2
    have hj:i≠j:=fun z=>by subst z;rw[cg hil] at q1;cases q1
    have hk:i≠k:=fun z=>by subst z;rw[cg hil] at q2;cases q2
    rw[br hj] at q1
    rw[br hk] at q2
    exact W.gb j k a f as c2 g cs hjk q1 q2
  · intro c2 s hjk q1 q2 a m z
    have EL:∀(j:Nat) s,i≠j->ρ[j]?=some s->∀a∈s.adr,a∉c'.F:=fun j s hij hs a m z=>by
      rcases hF a z with w|w|w
      · exact other j s hij hs a m w
      · obtain⟨x,_,q⟩:=W.ok j s hs
        exact W.live a (q.yE a m).1 w
      · exact w.2.2 j s hs m
    by_cases hj:i=j
    · subst hj
      rw[cg hil] at q1
      cases q1
      rw[br hjk] at q2
      exact EL k s hjk q2 a z m
    · rw[br hj] at q1
      by_cases hk:i=k
      · subst hk
        rw[cg hil] at q2
        cases q2
        exact EL j _ hj q1 a m z
      · rw[br hk] at q2
        exact W.dQ j k c2 s hjk q1 q2 a m z
end
def fB(G:Gx)(ρ:Rh)(te:TE)(Φ:Rh->Pd):Prop:=∀nb σ H (Q:VK),Wd G nb ρ σ H->(∀aL ρ' f v H' d,Φ ρ' f d->Wd G aL ρ' σ H'->ai (G.S aL f) H' d v->Q v H')->te σ H Q
def ux(G:Gx)(ρ:Rh)(ta:TA)(Φ:Rh->List Fd->Prop):Prop:=∀nb σ H (Q:List V->Hp->Prop),Wd G nb ρ σ H->(∀aL ρ' es vs H',Φ ρ' es->Wd G aL ρ' σ H'->jh G aL H' es vs->Q vs H')->ta σ H Q
section
variable{G:Gx}{ρ:Rh}{Φ:Rh->Pd}{ta tb te:TE}{t:TA}{c u:TT}{i:Nat}{E:DE}{s s':TS}
theorem fB.of(h:Ev G ρ te (Φ ρ)):fB G ρ te Φ:=fun nb σ H Q W z=>h nb σ H Q W fun f v H' d q st hv=>z nb ρ f v H' d q (W.step st) hv
theorem ux.cons{Θ:Rh->List Fd->Prop}(h:fB G ρ te fun ρ' f d=>Av G ρ' t fun es=>Θ ρ' ((f,d)::es)):ux G ρ (bC te t) Θ:=fun nb σ H Q W z=>
 h nb σ H _ W fun aL ρ' f v H1 d p1 W1 q1=>p1 aL σ H1 _ W1 fun es vs H2 p2 s2 q2=>z aL ρ' _ _ H2 p2 (W1.step s2) ⟨v,vs,rfl,q1.keep s2.dj,q2⟩
namespace Sv
theorem xZ{g:TG}(h:fB G ρ te fun ρ' f d=>Gv G ρ' g f d E.nx):Sv G ρ (fS te g) E:=fun nb σ H D W K=>h nb σ H _ W fun aL ρ' f v H1 d q W1 hv=>q aL σ H1 v _ W1 hv fun σ' ρ' p W'=>K.nx aL ρ' σ' H1 p W'
theorem retS(h:fB G ρ te fun _=>E.rt):Sv G ρ (o9 te) E:=fun nb σ H D W K=>h nb σ H _ W fun aL ρ' f v H1 d q W1 hv=>K.rt aL ρ' σ f v H1 d q W1 (hv.av (cV (fun z=>z) fun _ z=>z.elim))
theorem xS(h:fB G ρ te fun ρ' f d=>∀nb v H,ai (G.S nb f) H d v->E.rw nb ρ' v H):Sv G ρ (o9 te) E:=fun nb σ H D W K=>h nb σ H _ W fun aL ρ' f v H1 d q W1 hv=>K.rw aL ρ' σ v H1 (q aL v H1 hv) W1
end Sv
end
structure oF(c c':Cu)(H H':Hp):Prop where
 v:c'.v=c.v
 f:c'.f=false
 sub:∀a∈c.F,a∈c'.F
 new:∀a∈c'.F,a∈c.F\/H a=none
 kp:∀a o,a∉c.F->H a=some o->H' a=some o
 lv:∀a∈c'.F,H' a≠none
abbrev CF:=Cu->List PyData->(Cu->Pd)->Prop
def nG(F:CF):Prop:=∀c ds (Φ Ψ:Cu->Pd),F c ds Φ->(∀c f d,Φ c f d->Ψ c f d)->F c ds Ψ
def g8(n:Nat)(F:CF):Sp:=fun vs H Q _=>vs.length=n/\∃(nb:Addr->Prop) (c:Cu) (ws:List V) (ds:List PyData),vs=c.v::ws/\jQ nb H/\(∀a∈c.F,nb a)/\c.f=false/\c.P nb H/\af nb H ds ws/\
 F c ds fun c' f d=>∀v H',oF c c' H H'->c'.P (fun a=>nb a\/a∈c'.F) H'->ai (fun a=>nb a\/a∈c'.F\/(f=true/\H a≠none)) H' d v->Q v H'
section
variable{G:Gx}{ρ:Rh}{Φ:Rh->Pd}{ta tb te:TE}{t:TA}{i:Nat}{E:DE}{c:Cu}{C:Addr}{m:Str}{n:Nat}{F:CF}
theorem fB.QH{nb:Addr->Prop}{σ:St}{H1:Hp}{Q:VK}{es:List Fd}{vs:List V}(hm:nG F)(e:ρ[i]?=some (.cu c))(W1:Wd G nb ρ σ H1)(q1:jh G nb H1 es vs)(hl:es.length+1=n)(hcf:c.f=false)(p:F c (es.map (·.2)) fun c' f d=>Φ (ρ.set i (.cu c')) f d)
  (z:∀aL ρ' f v H' d,Φ ρ' f d->Wd G aL ρ' σ H'->ai (G.S aL f) H' d v->Q v H'):g8 n F (c.v::(vs++[])) H1 Q E0:=by
 rw[jG]
 obtain⟨x0,e1,h1,h2,h3⟩:=W1.ok i _ e
 refine⟨by rw[eB,q1.len,hl],G.S nb false,c,vs,es.map (·.2),rfl,W1.jn,fun a m=> .inl (h2 a m).1,hcf,by rw[hcf] at h3;exact h3,q1.all (f:=false) (fun z=>by cases z),hm _ _ _ _ p fun c' f d hp v H' to hP hd=>?_⟩
 refine z _ _ f v H' d hp (W1.D3 (c':=c') e to.kp to.v (fun a m=>(to.new a m).imp id .inl) (fun a m=>m.elim (fun m=>to.lv a (to.sub a m)) fun m=>to.lv a m) (c'.av (fun a y=>?_) hP)) (hd.av fun a y=>?_)
 ·rw[to.f] at y
  rcases y with (y|y)|y|y|y
  ·exact .inl (.inl y)
  ·exact .inr y
  ·exact .inl (.inr (.inl y))
  ·exact .inl (.inr (.inr (.inl y)))
  ·cases y.1
 ·rcases y with (y|y)|y|y|y
  ·exact .inl (.inl y)
  ·exact .inr (.inl y)
  ·exact .inl (.inr (.inl y))
  ·exact .inl (.inr (.inr (.inl y)))
  ·exact .inr (.inr ⟨y.1,W1.jn (f:=true) a (.inr (.inr (.inr ⟨rfl,y.2⟩)))⟩)
theorem fB.u0(hm:nG F)(e:ρ[i]?=some (.cu c))(hcf:c.f=false)(hi:∀S H,c.P S H->∃a dx fs,c.v= .ref a/\H a=some (.ins C dx fs)/\fs.lookup m=none)
  (h:Av G ρ t fun es=>es.length+1=n/\F c (es.map (·.2)) fun c' f d=>Φ (ρ.set i (.cu c')) f d):fB G ρ (qW C m (g8 n F) [] E0 (cI i) t) Φ:=fun nb σ H Q W z=>by
 obtain⟨x0,e1,h1,h2,h3⟩:=W.ok i _ e
 subst h1
 obtain⟨a,dx,fs,g1,g2,g3⟩:=hi _ _ h3
 refine⟨c.v,e1,a,dx,fs,g1,g2,g3,h nb σ H _ W fun es vs H1 ⟨hl,p⟩ s1 q1=>?_⟩
 exact fB.QH hm e (W.step s1) q1 hl hcf p z
end
def nJ(F:List Addr)(H:Hp)(nb:Addr->Prop):Gx:=⟨none,fun a=>if a∈F then none else H a,fun a=>nb a/\a∉F,[]⟩
structure Aj(c c':Cu):Prop where
 v:c'.v=c.v
 f:c'.f=false
 sub:∀a∈c.F,a∈c'.F
def objE(G:Gx)(c:Cu)(Φ:Cu->Pd):DE where
 nx:=fun ρ=>∃c',ρ[0]?=some (.cu c')/\Aj c c'/\Φ c' true .none
 rt:=fun _ _=>False
 rw:=fun nb ρ v H=>∃c' f d,ρ[0]?=some (.cu c')/\Aj c c'/\Φ c' f d/\ai (G.S nb f) H d v
section
variable{ρ:Rh}{t:TS}{N:List Str}{ws:List V}{ds:List PyData}{nb:Addr->Prop}{H:Hp}{Q:VK}{Φ:Cu->Pd}{c:Cu}
theorem Sv.ua(hl:jQ nb H)(hF:∀a∈c.F,nb a)(hf:c.f=false)(hP:c.P nb H)(hd:af nb H ds ws)
    (aE:∀c' f d v H',Φ c' f d->oF c c' H H'->c'.P (fun a=>nb a\/a∈c'.F) H'->ai (fun a=>nb a\/a∈c'.F\/(f=true/\H a≠none)) H' d v->Q v H')
    (dH:ρ= .cu c::ds.map (Sl.d false)++List.replicate (N.length-(ds.length+1)) .no) (h:Sv (nJ c.F H nb) ρ t (objE (nJ c.F H nb) c Φ)):t {nx:=fun _ H'=>Q .aC H',rt:=Q} (start N (c.v::ws)) H:=by
  have hlen:=hd.length
  have mJ:∀a,NB (nJ c.F H nb).B a:=fun a b l e=>by cases e
  have key:∀{aL ρ' σ' H' c'} {f:Bool} {d:PyData} {v:V},Wd (nJ c.F H nb) aL ρ' σ' H'->ρ'[0]?=some (.cu c')->Aj c c'->Φ c' f d->ai ((nJ c.F H nb).S aL f) H' d v->Q v H':=fun{aL ρ' σ' H' c' f d v} W e up p hv=>by
    obtain⟨x0,e1,h1,h2,h3⟩:=W.ok 0 _ e
    have Ii:∀(f:Bool) a,nb a\/a∈c'.F\/(f=true/\H a≠none)->(nJ c.F H nb).S aL f a:=fun f a z=>by
      by_cases m:a∈c'.F
      · exact .inl (h2 a m).1
      have m':a∉c.F:=fun z=>m (up.sub a z)
      rcases z with z|z|z
      · exact .inr (.inl ⟨z,m'⟩)
      · exact absurd z m
      · exact .inr (.inr (.inr ⟨z.1,by show(if a∈c.F then none else H a)≠none;rw[if_neg m'];exact z.2⟩))
    refine aE c' f d v H' p ⟨up.v,up.f,up.sub,fun a m=>?_,fun a o n q=>?_,fun a m=>W.live a (h2 a m).1⟩ (c'.av (fun a z=>by rw[up.f];exact Ii false a (z.elim .inl fun z=> .inr (.inl z))) h3) (hv.av (Ii f))
    · have:=W.dh a (h2 a m).1 (h2 a m).2
      by_cases z:a∈c.F
      · exact .inl z
      · exact .inr (by have q:(if a∈c.F then none else H a)=none:=this;rwa[if_neg z] at q)
    · exact W.old a o (mJ a) (by show(if a∈c.F then none else H a)=_;rw[if_neg n];exact q)
  refine h (fun a=>a∈c.F) _ H _ ⟨fun _ _ z=>(by cases z),fun a z=>hl a (hF a z),fun a o _ e=>?_,fun a z _=>by show(if a∈c.F then none else H a)=none;rw[if_pos z],fun a z=>?_,?_,fun _ _ z=>(by cases z),fun _ m=>(by cases m),fun i s e=>?_,?_,?_,?_⟩ ⟨fun aL ρ' σ' H' ⟨c',e,up,p⟩ W=>key W e up p .aC,fun _ _ _ _ q _=>q.elim,fun _ _ _ _ q _=>q.elim,fun _ _ _ _ _ _ _ q _ _=>q.elim,fun aL ρ' σ' v H' ⟨c',f,d,e,up,p,hv⟩ W=>key W e up p hv⟩
  · have e:(if a∈c.F then none else H a)=some o:=e
    by_cases z:a∈c.F
    · rw[if_pos z] at e;cases e
    · rwa[if_neg z] at e
  · show(if a∈c.F then none else H a)≠none
    rw[if_neg z.2];exact hl a z.1
  · rw[dH];unfold start;simp[hlen]
  · rw[dH] at e
    unfold start
    have av:∀a,(nJ c.F H nb).S (fun a=>a∈c.F) false a->nb a:=fun a z=>by
      rcases z with z|z|z|z
      · exact hF a z
      · exact z.1
      · exact absurd (mJ a) z
      · cases z.1
    cases i with
    |zero=>simp at e;subst e;exact⟨some c.v,by simp,rfl,fun a m=>⟨m,mJ a⟩,by rw[hf];exact c.av av hP⟩
    | succ i =>
      simp only[lG,kF,bx,eB] at e⊢
      by_cases hi:i<ds.length
      · rw[fF (by rw[ak];exact hi)] at e
        obtain⟨v,d,hv,rfl,q⟩:=kq hd e
        refine⟨some v,?_,v,rfl,q.av av⟩
        rw[fF (by rw[ak,hlen];exact hi),bI,hv];rfl
      · rw[fX (by rw[ak];omega),gh] at e
        split at e
        · rename_i h'
          cases e
          refine⟨none,?_,trivial⟩
          rw[ak] at h'
          rw[fX (by rw[ak];omega),gh,if_pos (by rw[ak,hlen];exact h')]
        · cases e
  all_goals
    have sl:∀{i:Nat} {s:Sl},ρ[i+1]?=some s->s.adr=[]:=fun{i s} e1=>by
      rw[dH] at e1
      simp only[lG,kF] at e1
      by_cases hi:i<ds.length
      · rw[fF (by rw[ak];exact hi)] at e1
        obtain⟨_,_,_,z,_⟩:=kq hd e1
        subst z;rfl
      · rw[fX (by rw[ak];omega),gh] at e1
        split at e1
        · cases e1;rfl
        · cases e1
    have s0:∀{s:Sl},ρ[0]?=some s->s= .cu c:=fun{s} e1=>by rw[dH] at e1;simp at e1;exact e1.symm
  · intro i j a f as c2 g cs hij e1
    cases i with
    |zero=>cases s0 e1
    |succ i=>cases sl e1
  · intro i j a f as c2 g cs hij e1
    cases i with
    |zero=>cases s0 e1
    |succ i=>cases sl e1
  · intro i j c2 s hij e1 e2 a m
    cases i with
    | zero =>
      cases j with
      |zero=>exact absurd rfl hij
      |succ j=>rw[sl e2];exact fun z=>by cases z
    | succ i =>
      have:=sl e1
      rw[show Sl.adr (.cu c2)=c2.F from rfl] at this
      rw[this] at m;cases m
end
end L2
set_option maxRecDepth 100000
set_option maxHeartbeats 4000000
namespace L2
open PySem PySem.Spec PyProof.Rows
theorem Kp.sub{S:Addr->Prop}{F F':List Addr}{H H':Hp}(k:Kp S F H H')(h:∀a∈F',a∈F):Kp S F' H H':=⟨fun a m=>k.own a (h a m),k.lst,k.tup,k.cy⟩
def kJ(a:Addr)(ds:List PyData):Cu where
 v:= .ref a
 F:=[a]
 f:=false
 P:=fun S H=>∃xs,H a=some (.lst xs)/\af S H ds xs
 keep:=fun k ⟨xs,h,q⟩=>⟨xs,k.own _ (aP.mpr rfl) _ h,af.kp k q⟩
 av:=fun z ⟨xs,h,q⟩=>⟨xs,h,q.av z⟩
 fresh:=fun z ⟨xs,h,q⟩=>⟨xs,h,q.fresh z⟩
inductive Fl where
 |d (d:PyData)|cu (c:Cu)
def Fl.adr:Fl->List Addr
 | .d _=>[]
 | .cu c=>c.F
def kN(S:Addr->Prop)(H:Hp)(v:V):Fl->Prop
 | .d d=>ai S H d v
 | .cu c=>v=c.v/\c.P S H
abbrev Fs:=List (Str×Fl)
def bG(S:Addr->Prop)(H:Hp):Fs->List (Str×V)->Prop
 |[],vs=>vs=[]
 |f::fs,vs=>∃v ws,vs=(f.1,v)::ws/\kN S H v f.2/\bG S H fs ws
def bX(x dx:Addr)(fs:Fs):List Addr:=x::dx::fs.flatMap fun f=>f.2.adr
theorem kN.map{S S':Addr->Prop}{H H':Hp}{v:V}{fl:Fl}(h:kN S H v fl)(hd:∀d v,ai S H d v->ai S' H' d v)(hc:∀c,fl= .cu c->c.P S H->c.P S' H'):kN S' H' v fl:=by
 cases fl with
 |d d=>exact hd _ _ h
 |cu c=>exact⟨h.1,hc c rfl h.2⟩
theorem bG.map{S S':Addr->Prop}{H H':Hp}:∀{fs:Fs} {vs:List (Str×V)},bG S H fs vs->(∀d v,ai S H d v->ai S' H' d v)->(∀f∈fs,∀c,f.2= .cu c->c.P S H->c.P S' H')->bG S' H' fs vs
 |[],_,h,_,_=>h
 |f::fs,_,⟨v,ws,e,h1,h2⟩,hd,hc=>⟨v,ws,e,h1.map hd (hc f (bV ..)),bG.map h2 hd fun g m=>hc g (cH _ m)⟩
theorem FD{x dx:Addr}{fs:Fs}{f:Str×Fl}(h:f∈fs){a:Addr}(m:a∈f.2.adr):a∈bX x dx fs:=cH _ (cH _ (zV.mpr ⟨f,h,m⟩))
def bz(C x dx:Addr)(fs:Fs):Cu where
 v:= .ref x
 F:=bX x dx fs
 f:=false
 P:=fun S H=>(bX x dx fs).Nodup/\H dx=some (.own x)/\fs.length<=900/\∃vs,H x=some (.ins C dx vs)/\bG S H fs vs
 keep:=fun k ⟨n,h,l,vs,q,r⟩=>⟨n,k.own _ (by simp[bX]) _ h,l,vs,k.own _ (by simp[bX]) _ q,r.map (fun d v z=>ai.kp k z) fun f m c e z=>c.keep (k.sub fun a y=>FD m (by rw[e];exact y)) z⟩
 av:=fun z ⟨n,h,l,vs,q,r⟩=>⟨n,h,l,vs,q,r.map (fun d v y=>y.av z) fun f m c e y=>c.av z y⟩
 fresh:=fun z ⟨n,h,l,vs,q,r⟩=>⟨n,h,l,vs,q,r.map (fun d v y=>y.fresh z) fun f m c e y=>c.fresh z y⟩
theorem bG.get{S:Addr->Prop}{H:Hp}{f:Str}{fl:Fl}:∀{fs:Fs} {vs:List (Str×V)},bG S H fs vs->fs.lookup f=some fl->∃v,vs.lookup f=some v/\kN S H v fl
  |[],_,h,e=>by simp at e
  | (g, x) :: fs, _, ⟨v, ws, e, h1, h2⟩, q => by
    subst e
    rw[dY] at q⊢
    cases hb:(f==g) with
    |true=>rw[hb] at q;cases q;exact⟨v,rfl,h1⟩
    |false=>rw[hb] at q;exact bG.get h2 q
theorem bG.no{S:Addr->Prop}{H:Hp}{f:Str}:∀{fs:Fs} {vs:List (Str×V)},bG S H fs vs->fs.lookup f=none->vs.lookup f=none
  |[],_,h,e=>by unfold bG at h;subst h;rfl
  | (g, x) :: fs, _, ⟨v, ws, e, h1, h2⟩, q => by
    subst e
    rw[dY] at q⊢
    cases hb:(f==g) with
    |true=>rw[hb] at q;cases q
    |false=>rw[hb] at q;exact bG.no h2 q
def dN(f:Str)(v:Fl):Fs->Fs
 |[]=>[(f,v)]
 |(g,x)::r=>if g=f then(g,v)::r else(g,x)::dN f v r
theorem bG.put{S:Addr->Prop}{H:Hp}{f:Str}{fl:Fl}{v:V}(hv:kN S H v fl):∀{fs:Fs} {vs:List (Str×V)},bG S H fs vs->bG S H (dN f fl fs) (fc f v vs)
  |[],_,h=>by unfold bG at h;subst h;exact⟨v,[],rfl,hv,rfl⟩
  | (g, x) :: fs, _, ⟨w, ws, e, h1, h2⟩ => by
    subst e
    unfold dN fc
    by_cases h:g=f
    · rw[if_pos h,if_pos h];exact⟨v,ws,rfl,hv,h2⟩
    · rw[if_neg h,if_neg h];exact⟨w,_,rfl,h1,bG.put hv h2⟩
theorem bG.len{S:Addr->Prop}{H:Hp}:∀{fs:Fs} {vs:List (Str×V)},bG S H fs vs->vs.length=fs.length
 |[],_,h=>by unfold bG at h;subst h;rfl
 |f::fs,_,⟨v,ws,e,h1,h2⟩=>by subst e;simp[bG.len h2]
theorem bz.is{C x dx:Addr}{fs:Fs}{m:Str}(hm:fs.lookup m=none):∀S H,(bz C x dx fs).P S H->∃a dx' vs,(bz C x dx fs).v= .ref a/\H a=some (.ins C dx' vs)/\vs.lookup m=none:=fun S H ⟨n,h,l,vs,q,r⟩=>⟨x,dx,vs,rfl,q,r.no hm⟩
section
variable{G:Gx}{ρ:Rh}{Φ:Pd}{ta tb te:TE}{t:TA}{i:Nat}{E:DE}{C x dx l:Addr}{fs:Fs}{K:PySem.W.Frag}{f m:Str}{d:PyData}{ds:List PyData}
theorem Wd.mY{nb:Addr->Prop}{σ:St}{H:Hp}(W:Wd G nb ρ σ H)(e:ρ[i]?=some (.cu (bz C x dx fs))):∃vs,σ[i]?=some (some (.ref x))/\(∀a∈bX x dx fs,nb a/\NB G.B a)/\(bX x dx fs).Nodup/\H dx=some (.own x)/\fs.length<=900/\H x=some (.ins C dx vs)/\bG (G.S nb false) H fs vs:=by
 obtain⟨x0,e1,h1,h2,n,h,l,vs,q,r⟩:=W.ok i _ e
 subst h1
 exact⟨vs,e1,h2,n,h,l,q,r⟩
theorem Ev.fld(e:ρ[i]?=some (.cu (bz C x dx fs)))(cl:ez K C)(na:gc K C f)(hl:fs.lookup f=some (.d d))(h:Φ false d):Ev G ρ (mO K (cI i) f) Φ:=fun nb σ H Q W z=>by
 obtain⟨vs,e1,h2,n,h3,l,q,r⟩:=W.mY e
 obtain⟨v,g1,g2⟩:=r.get hl
 exact⟨.ref x,e1,x,C,dx,vs,v,rfl,q,cl,na,g1,z false v H d h (.refl W.au) g2⟩
theorem lookup_mem{fl:Fl}:∀{fs:Fs},fs.lookup f=some fl->(f,fl)∈fs
  |[],h=>by simp at h
  | (g, y) :: r, h => by
    rw[dY] at h
    cases hb:(f==g) with
    |true=>rw[hb] at h;cases h;rw[beq_iff_eq.mp hb];exact bV ..
    |false=>rw[hb] at h;exact cH _ (lookup_mem h)
theorem GG{fl:Fl}(hl:fs.lookup f=some fl){a:Addr}(m:a∈fl.adr):a∈bX x dx fs:=FD (lookup_mem hl) m
theorem B0{nb:Addr->Prop}{σ:St}{H:Hp}{Q:VK}{c:Cu}(W:Wd G nb ρ σ H)(e:ρ[i]?=some (.cu (bz C x dx fs)))(cl:ez K C)(na:gc K C f)(hl:fs.lookup f=some (.cu c))
  (z:(∀a∈c.F,nb a/\NB G.B a)->c.P (G.S nb false) H->Q c.v H):mO K (cI i) f σ H Q:=by
 obtain⟨vs,e1,h2,n,h3,len,q,r⟩:=W.mY e
 obtain⟨v,g1,g2,g3⟩:=r.get hl
 exact⟨.ref x,e1,x,C,dx,vs,v,rfl,q,cl,na,g1,by rw[g2];exact z (fun a m=>h2 a (GG hl m)) g3⟩
theorem zI{fl oW:Fl}(h':oW.adr=fl.adr):∀{fs:Fs},fs.lookup f=some fl->((dN f oW fs).flatMap fun g=>g.2.adr)=fs.flatMap fun g=>g.2.adr
  |[],h=>by simp at h
  | (g, y) :: r, h => by
    unfold dN
    rw[dY] at h
    cases hb:(f==g) with
    | true =>
      rw[hb] at h;cases h
      rw[if_pos (beq_iff_eq.mp hb).symm,p5,p5,h']
    | false =>
      rw[hb] at h
      rw[if_neg (fun z=>by rw[z,beq_self_eq_true] at hb;cases hb),p5,p5,zI h' h]
theorem zb{fl oW:Fl}:∀{fs:Fs},fs.lookup f=some fl->(dN f oW fs).length=fs.length
  |[],h=>by simp at h
  | (g, y) :: r, h => by
    unfold dN
    rw[dY] at h
    cases hb:(f==g) with
    |true=>rw[if_pos (beq_iff_eq.mp hb).symm];rfl
    | false =>
      rw[hb] at h
      rw[if_neg (fun z=>by rw[z,beq_self_eq_true] at hb;cases hb),eB,eB,zb h]
theorem kN.wr{S:Addr->Prop}{H:Hp}{v:V}{fl:Fl}{p:Addr}{o:HO}(hS:S p)(hp:p∉fl.adr)(h:kN S H v fl):kN S (upd H p o) v fl:=
 h.map (fun d v z=>z.keep (aU.set hS)) fun c e z=>c.keep (.of fun a o' m q=>by
  rw[aX]
  ·exact q
  ·rintro rfl
   rcases m with m|m
   ·exact m hS
   ·rw[e] at hp;exact hp m) z
theorem bG.zp{S:Addr->Prop}{H:Hp}{p:Addr}{o:HO}(hS:S p):∀{fs:Fs} {vs:List (Str×V)},(p∉fs.flatMap fun g=>g.2.adr)->bG S H fs vs->bG S (upd H p o) fs vs
  |[],_,_,h=>h
  | g :: fs, _, hp, ⟨v, ws, e, h1, h2⟩ => by
    rw[p5,fR] at hp
    exact⟨v,ws,e,h1.wr hS fun z=>hp (.inl z),bG.zp hS (fun z=>hp (.inr z)) h2⟩
theorem bG.wr{S:Addr->Prop}{H:Hp}{p:Addr}{o:HO}{c c':Cu}(hS:S p)(hp:p∈c.F)(hv:c'.v=c.v)(hc:c'.P S (upd H p o)):∀{fs:Fs} {vs:List (Str×V)},(fs.flatMap fun g=>g.2.adr).Nodup->fs.lookup f=some (.cu c)->bG S H fs vs->bG S (upd H p o) (dN f (.cu c') fs) vs
  |[],_,_,h,_=>by simp at h
  | (g, y) :: r, _, hn, h, ⟨v, ws, e, h1, h2⟩ => by
    unfold dN
    rw[p5,ue] at hn
    rw[dY] at h
    cases hb:(f==g) with
    | true =>
      rw[hb] at h;cases h
      rw[if_pos (beq_iff_eq.mp hb).symm]
      exact⟨v,ws,e,⟨by rw[hv];exact h1.1,hc⟩,bG.zp hS (fun z=>hn.2.2 p hp p z rfl) h2⟩
    | false =>
      rw[hb] at h
      rw[if_neg (fun z=>by rw[z,beq_self_eq_true] at hb;cases hb)]
      exact⟨v,ws,e,h1.wr hS fun z=>hn.2.2 p z p (zV.mpr ⟨_,lookup_mem h,hp⟩) rfl,bG.wr hS hp hv hc hn.2.1 h h2⟩
theorem Wd.UZ{nb:Addr->Prop}{σ:St}{H:Hp}{c c':Cu}{p:Addr}{o:HO}(W:Wd G nb ρ σ H)(e:ρ[i]?=some (.cu (bz C x dx fs)))(hl:fs.lookup f=some (.cu c))(hp:p∈c.F)(hv:c'.v=c.v)(hF:c'.F=c.F)(h:c'.P (G.S nb false) (upd H p o)):
  Wd G nb (ρ.set i (.cu (bz C x dx (dN f (.cu c') fs)))) σ (upd H p o):=by
 obtain⟨vs,e1,h2,n,h3,len,q,r⟩:=W.mY e
 have lD:p∈bX x dx fs:=GG hl hp
 have hS:G.S nb false p:= .inl (h2 p lD).1
 have hn:=n
 unfold bX at hn
 obtain⟨n1,n2⟩:=jD.mp hn
 obtain⟨n3,n4⟩:=jD.mp n2
 have hin:p∈fs.flatMap fun g=>g.2.adr:=zV.mpr ⟨_,lookup_mem hl,hp⟩
 have hpx:x≠p:=fun z=>n1 (by rw[z];exact cH _ hin)
 have VV:dx≠p:=fun z=>n3 (by rw[z];exact hin)
 have eF:bX x dx (dN f (.cu c') fs)=bX x dx fs:=by unfold bX;rw[zI (fl:= .cu c) (oW:= .cu c') hF hl]
 refine W.IE (c':=bz C x dx (dN f (.cu c') fs)) e lD rfl (fun a m=>by rw[show(bz C x dx (dN f (.cu c') fs)).F=bX x dx fs from eF] at m;exact m) ?_
 exact⟨by rw[eF];exact n,by rw[aX VV];exact h3,by rw[zb hl];exact len,vs,by rw[aX hpx];exact q,bG.wr hS hp hv h n4 hl r⟩
theorem bG.DO{S:Addr->Prop}{H:Hp}{fl:Fl}{v:V}{p:Addr}{o:HO}(hS:S p)(hv:kN S (upd H p o) v fl){fs:Fs}{vs:List (Str×V)}(hp:p∉fs.flatMap fun g=>g.2.adr)(h:bG S H fs vs):bG S (upd H p o) (dN f fl fs) (fc f v vs):=bG.put hv (bG.zp hS hp h)
theorem vz{fl:Fl}:∀{fs:Fs},fs.lookup f=none->dN f fl fs=fs++[(f,fl)]
  |[],_=>rfl
  | (g, y) :: r, h => by
    unfold dN
    rw[dY] at h
    cases hb:(f==g) with
    |true=>rw[hb] at h;cases h
    | false =>
      rw[hb] at h
      rw[if_neg (fun z=>by rw[z,beq_self_eq_true] at hb;cases hb),vz h];rfl
theorem Sv.MK(e:ρ[i]?=some (.cu (bz C x dx fs)))(cl:ez K C)(na:gc K C f)(hl:fs.lookup f=none\/∃d0,fs.lookup f=some (.d d0))(hlen:fs.length<900)(h:Ev G ρ te fun _ d=>E.nx (ρ.set i (.cu (bz C x dx (dN f (.d d) fs))))):Sv G ρ (zk K (cI i) te f) E:=fun nb σ H D W KK=>
 h nb σ H _ W fun fg v H1 d q s1 hv=>by
  have W1:=W.step s1
  obtain⟨vs,e1,h2,n,h3,len,qx,r⟩:=W1.mY e
  have qC:G.S nb false x:= .inl (h2 x (by simp[bX])).1
  have hn:=n
  unfold bX at hn
  obtain⟨n1,n2⟩:=jD.mp hn
  have hdx:dx≠x:=fun z=>n1 (by rw[z];exact bV ..)
  have hx:x∉fs.flatMap fun g=>g.2.adr:=fun z=>n1 (cH _ z)
  have eF:bX x dx (dN f (.d d) fs)=bX x dx fs:=by
   unfold bX
   rcases hl with hl|⟨d0,hl⟩
   ·rw[vz hl,Dp]
    show _::_::(_++([]++[]))=_
    rw[jG,jG]
   ·rw[zI (fl:= .d d0) (oW:= .d d) rfl hl]
  have eL:(dN f (.d d) fs).length<=900:=by
   rcases hl with hl|⟨d0,hl⟩
   ·rw[vz hl,c7,kj];omega
   ·rw[zb hl];exact len
  refine⟨.ref x,e1,x,C,dx,vs,rfl,qx,cl,na,by rw[r.len];omega,KK.nx nb _ _ _ q ?_⟩
  refine W1.IE (c':=bz C x dx (dN f (.d d) fs)) e (by show x∈bX x dx fs;simp[bX]) rfl (fun a m=>by rw[show(bz C x dx (dN f (.d d) fs)).F=bX x dx fs from eF] at m;exact m) ?_
  refine⟨by rw[eF];exact n,by rw[aX hdx];exact h3,eL,_,bh,bG.DO qC ?_ hx r⟩
  exact(hv.av (cV (fun z=>by cases z) fun _ z=>z)).keep (aU.set qC)
theorem Wd.OP{nb:Addr->Prop}{σ:St}{H H1:Hp}{c:Cu}{vs:List (Str×V)}{l:Addr}(W:Wd G nb ρ σ H)(s1:Step G.B H H1)(e:ρ[i]?=some (.cu (bz C x dx fs)))(hl:fs.lookup f=none)(hlen:fs.length<900)(kD:c.F=[l])(Xm:c.v= .ref l)(nX:H l=none)(hl1:H1 l≠none)
  (hP:c.P (fun a=>G.S nb false a\/a=l) H1) (qx:H1 x=some (.ins C dx vs)):Wd G (fun a=>(nb a\/a∈[l])\/a∈bX x dx (fs++[(f, .cu c)])) (ρ.set i (.cu (bz C x dx (fs++[(f, .cu c)])))) σ (upd H1 x (.ins C dx (fc f c.v vs))):=by
 have RV:∀a∈[l],H a=none:=fun a m=>by rw[aP.mp m];exact nX
 obtain⟨Xc,e0,Rm,_⟩:=W.mY e
 have sL:l∉bX x dx fs:=fun z=>W.live l (Rm l z).1 nX
 obtain⟨W1,Qy,VW⟩:=W.FL s1 RV (fun a m=>by rw[aP.mp m];exact hl1)
 obtain⟨vs',e1,h2,n,h3,len,Jz,r⟩:=W1.mY e
 rw[qx] at Jz
 cases Jz
 have hn:=n
 unfold bX at hn
 obtain⟨n1,n2⟩:=jD.mp hn
 have hdx:dx≠x:=fun z=>n1 (by rw[z];exact bV ..)
 have hx:x∉fs.flatMap fun g=>g.2.adr:=fun z=>n1 (cH _ z)
 have hlx:l≠x:=fun z=>sL (by rw[z];simp[bX])
 have Dg:x∈bX x dx fs:=by simp[bX]
 have eF:bX x dx (fs++[(f, .cu c)])=bX x dx fs++[l]:=by
  unfold bX
  rw[Dp]
  show _::_::(_++(c.F++[]))=_
  rw[kD]
  rfl
 have hS:∀{a},G.S (fun y=>(nb y\/y∈[l])\/y∈bX x dx (fs++[(f, .cu c)])) false a->G.S (fun y=>nb y\/y∈[l]) false a:=fun{a} z=>by
  rcases z with (z|z)|z|z|z
  ·exact .inl z
  ·rw[eF,fR] at z
   rcases z with z|z
   ·exact .inl (h2 a z).1
   ·exact .inl (.inr z)
  ·exact .inr (.inl z)
  ·exact .inr (.inr (.inl z))
  ·exact .inr (.inr (.inr z))
 refine W1.D3 (c:=bz C x dx fs) (c':=bz C x dx (fs++[(f, .cu c)])) e (fun a o na q=>?_) rfl (fun a m=>?_) (fun a m=>?_) ?_
 ·rw[aX (fun z=>na (by rw[z];exact Dg))];exact q
 ·rw[show(bz C x dx (fs++[(f, .cu c)])).F=bX x dx fs++[l] from eF,fR] at m
  rcases m with m|m
  ·exact .inl m
  ·rw[aP.mp m]
   refine .inr (.inr ⟨.inr (aP.mpr rfl),Qy l (aP.mpr rfl),fun j s hs z=>?_⟩)
   obtain⟨y,_,q⟩:=W.ok j s hs
   exact W.live l (q.yE l z).1 nX
 ·by_cases z:a=x
  ·rw[z,bh];exact iM _
  ·rw[aX z]
   rcases m with m|m
   ·exact W1.live a (h2 a m).1
   ·rw[show(bz C x dx (fs++[(f, .cu c)])).F=bX x dx fs++[l] from eF,fR] at m
    rcases m with m|m
    ·exact W1.live a (h2 a m).1
    ·rw[aP.mp m];exact hl1
 ·refine⟨?_,by rw[aX hdx];exact h3,by rw[c7,kj];omega,_,bh,?_⟩
  ·rw[eF,ue]
   exact⟨n,by simp,fun a m b m' z=>sL (by rw[aP.mp m'] at z;rw[<-z];exact m)⟩
  ·have qC:G.S (fun y=>nb y\/y∈[l]) false x:= .inl (h2 x Dg).1
   have:=bG.DO (f:=f) (fl:= .cu c) (v:=c.v) (o:= .ins C dx (fc f c.v vs)) qC ⟨rfl,c.keep (S:=G.S (fun y=>nb y\/y∈[l]) false) (.of fun a o m q=>?_) (c.av (fun a z=>?_) hP)⟩ hx r
   ·rw[vz hl] at this
    exact this.map (fun d v z=>z.av fun a=>hS) fun g m c' e z=>c'.av (fun a=>hS) z
   ·rw[aX]
    ·exact q
    ·rintro rfl
     rcases m with m|m
     ·exact m qC
     ·rw[kD] at m;exact hlx (aP.mp m).symm
   ·rcases VW false a z with z|z
    ·exact .inl z
    ·exact .inr (aP.mp z)
theorem Sv.Pa(e:ρ[i]?=some (.cu (bz C x dx fs)))(cl:ez K C)(na:gc K C f)(hl:fs.lookup f=none)(hlen:fs.length<900)(h:aB G ρ te fun _ ds=>∀l,E.nx (ρ.set i (.cu (bz C x dx (fs++[(f, .cu (kJ l ds))]))))):Sv G ρ (zk K (cI i) te f) E:=fun nb σ H D W KK=>
 h nb σ H _ W fun fg l xs H1 ds q s1 nX el hd=>by
  obtain⟨vs,e1,h2,n,h3,len,qx,r⟩:=(W.step s1).mY e
  refine⟨.ref x,e1,x,C,dx,vs,rfl,qx,cl,na,by rw[r.len];omega,KK.nx _ _ _ _ (q l) (W.OP (c:=kJ l ds) s1 e hl hlen rfl rfl nX (by rw[el];exact iM _) ⟨xs,el,hd.av fun a z=>?_⟩ qx)⟩
  rcases z with z|z
  ·exact .inl (cV (fun w=>by cases w) (fun _ w=>w) a z)
  ·exact .inr z
theorem Sv.UW{l:Addr}(e:ρ[i]?=some (.cu (bz C x dx fs)))(cl:ez K C)(na:gc K C f)(hl:fs.lookup f=some (.cu (kJ l ds)))(h:Ev G ρ te fun _ d=>Ev G ρ tb fun _ y=>∃k j,y= .int k/\gF ds.length k=some j/\E.nx (ρ.set i (.cu (bz C x dx (dN f (.cu (kJ l (ds.set j d))) fs))))):Sv G ρ (fS te (pU (mO K (cI i) f) tb ql)) E:=fun nb σ H D W KK=>
 h nb σ H _ W fun g v H1 d q s1 hv=>B0 (W.step s1) e cl na hl fun hF ⟨xs,hx,hd⟩=>q nb σ H1 _ (W.step s1) fun g' u H2 y ⟨k,j,ey,hj,p⟩ s2 hu=>by
  subst ey
  have W2:=(W.step s1).step s2
  have sL:=hF l (aP.mpr rfl)
  have hS:G.S nb false l:= .inl sL.1
  refine⟨l,xs,k,j,rfl,hu.bR,s2.1 _ _ sL.2 hx,by rw[hd.length];exact hj,KK.nx nb _ _ _ p (W2.UZ (c:=kJ l ds) (c':=kJ l (ds.set j d)) e hl (aP.mpr rfl) rfl rfl ⟨_,bh,?_⟩)⟩
  exact(af.set' ((hv.av (cV (fun z=>by cases z) fun _ z=>z)).keep s2.dj) j (hd.keep s2.dj)).keep (aU.set hS)
theorem aB.RM{l:Addr}{Θ:Bool->List PyData->Prop}(e:ρ[i]?=some (.cu (bz C x dx fs)))(cl:ez K C)(na:gc K C f)(hl:fs.lookup f=some (.cu (kJ l ds)))(h:Θ (eu ds) ds):aB G ρ (fJ (gR K) (bC (mO K (cI i) f) cz)) Θ:=fun nb σ H Q W z=>by
 show mO K (cI i) f σ H _
 exact B0 W e cl na hl fun hF ⟨xs,hx,hd⟩=>⟨l,xs,rfl, .inl (.of hx),fun p hp=>aB.fin (f:=false) W (.refl W.au) hp hd (by rw[pV];exact h) z⟩
def jo(G:Gx)(ρ:Rh)(ta:TA)(Φ:List PyData->Prop):Prop:=∀nb σ H (Q:List V->Hp->Prop),Wd G nb ρ σ H->(∀ds vs H',Φ ds->Step G.B H H'->af (fun a=>¬NB G.B a) H' ds vs->Q vs H')->ta σ H Q
theorem jo.nil{Θ:List PyData->Prop}(h:Θ []):jo G ρ cz Θ:=fun nb σ H Q W z=>z [] [] H h (.refl W.au) .nil
theorem jo.cons{Θ:List PyData->Prop}(h:Ev G ρ te fun _ d=>jo G ρ t fun ds=>Θ (d::ds)):jo G ρ (bC te t) Θ:=fun nb σ H Q W z=>
 h nb σ H _ W fun f v H1 d p1 s1 q1=>p1 nb σ H1 _ (W.step s1) fun ds vs H2 p2 s2 q2=>z _ _ H2 p2 (s1.trans s2) (.cons ((q1.av fun a y=> .inr (.inr (.inl y))).keep (s2.but fun _ y=>y)) q2)
theorem jo.fld{Θ:List PyData->Prop}{l:Addr}(e:ρ[i]?=some (.cu (bz C x dx fs)))(cl:ez K C)(na:gc K C f)(hl:fs.lookup f=some (.cu (kJ l ds)))(h:jo G ρ t fun es=>Θ (.list ds::es)):jo G ρ (bC (mO K (cI i) f) t) Θ:=fun nb σ H Q W z=>by
 show mO K (cI i) f σ H _
 exact B0 W e cl na hl fun hF ⟨xs,hx,hd⟩=>h nb σ H _ W fun es vs H2 p2 s2 q2=>z _ _ H2 p2 s2 (.cons (.lst (fun y=>y (hF l (aP.mpr rfl)).2) (s2.1 _ _ (hF l (aP.mpr rfl)).2 hx) ((hd.av fun a y=> .inr (.inr (.inl y))).keep (s2.but fun _ y=>y))) q2)
theorem Ev.Lr{n:Nat}{F:DF}(hm:eG F)(h:jo G ρ t fun ds=>ds.length=n/\F ds fun f d=>(f=true\/iG d=true)/\Φ true d):Ev G ρ (g9 (bT n F) [] E0 t) Φ:=fun nb σ H Q W z=>
 h nb σ H _ W fun ds vs H1 ⟨hl,p⟩ s1 q1=>by
  have W1:=W.step s1
  rw[jG]
  refine⟨by rw[q1.length,hl],fun a=>¬NB G.B a,ds,fun a y=>NB.mK W1.au y,q1,hm _ _ _ p fun f d ⟨hf,hp⟩ v H' sm hd=>z true v H' d hp (s1.trans (.same W1.au sm)) ?_⟩
  rcases hf with hf|hf
  ·exact hd.av fun a y=> .inr ⟨hf,W1.jn (f:=true) a y⟩
  ·exact hd.jN hf
theorem Sv.make{n:Nat}{F:CF}(hm:nG F)(h:Av G ρ t fun es=>es.length+1=n/\∀x dx,F (bz C x dx []) (es.map (·.2)) fun c' _ d=>d= .none/\E.nx (ρ.set i (.cu c'))):Sv G ρ (fS (yh C (g8 n F) [] E0 t) (gP i)) E:=fun nb σ H D W KK=>
 h nb σ H _ W fun es vs H1 ⟨hl,p⟩ s1 q1 x dx hx hdx hne=>by
  have W1:=W.step s1
  have hsm:cQ H1 (upd (upd H1 dx (.own x)) x (.ins C dx [])):=fun a o e=>by
   rw[aX (gU e hx),aX (gU e hdx)];exact e
  have Nh:∀a,G.S nb false a->H1 a≠none:=fun a y=>W1.jn a y
  have fD:af (fun a=>G.S nb false a\/a∈[x,dx]) (upd (upd H1 dx (.own x)) x (.ins C dx [])) (es.map (·.2)) vs:=by
   have hq:=q1.all (f:=false) fun z=>by cases z
   generalize es.map (·.2)=dl at hq
   refine af.keep (aU.of hsm) ?_
   exact jm (P:=fun S=>af S H1 dl vs) (fun z h=>af.av z h) (fun hp h=>af.fresh hp h) (L:=[x,dx]) (fun a m=>by
    rcases aG.mp m with m|m
    ·rw[m];exact hx
    ·rw[aP.mp m];exact hdx) hq
  rw[jG]
  refine⟨by rw[eB,q1.len,hl],fun a=>G.S nb false a\/a∈[x,dx],bz C x dx [],vs,es.map (·.2),rfl,fun a y=>?_,fun a m=> .inr m,rfl,?_,fD,hm _ _ _ _ (p x dx) fun c' f d ⟨hd0,hp⟩ v H' to hP hd=>?_⟩
  ·rcases y with y|y
   ·cases e:H1 a with
    |none=>exact absurd e (Nh a y)
    |some o=>rw[hsm a o e];exact iM _
   ·rcases aG.mp y with m|m
    ·rw[m,bh];exact iM _
    ·rw[aP.mp m,aX hne,bh];exact iM _
  ·refine⟨by simp[bX,bJ hne],by rw[aX hne,bh],by decide,[],bh,rfl⟩
  ·subst hd0
   refine⟨hd.uW,?_⟩
   have hfr:∀a∈c'.F,H1 a=none:=fun a m=>by
    rcases to.new a m with y|y
    ·rcases aG.mp y with m|m
     ·rw[m];exact hx
     ·rw[aP.mp m];exact hdx
    ·cases e:H1 a with
     |none=>rfl
     |some o=>rw[hsm a o e] at y;cases y
   have st:Step G.B H1 H':=by
    have sm:cQ H1 H':=fun a o e=>to.kp a o (fun m=>by
     rcases aG.mp m with m|m
     ·rw[m,hx] at e;cases e
     ·rw[aP.mp m,hdx] at e;cases e) (hsm a o e)
    exact .same W1.au sm
   have:=W1.QS (i:=i) (c:=c') st hfr to.lv (c'.av (fun a y=>?_) hP)
   ·rw[to.v] at this
    exact KK.nx _ _ _ _ hp this
   ·rw[to.f] at y
    rcases y with y|y
    ·exact .inl (.inl y)
    ·exact .inr y
theorem fB.tup{Φ:Rh->Pd}(h:ux G ρ t fun ρ' es=>es.length<=10000/\Φ ρ' (ja es) (.tuple (es.map (·.2)))):fB G ρ (sI t) Φ:=fun nb σ H Q W z=>
 h nb σ H _ W fun aL ρ' es vs H1 ⟨hl,p⟩ W1 q1=>⟨fq (by rw[q1.len];exact hl) (by decide),fun a ha=>z aL ρ' _ _ _ _ p (W1.step (.same W1.au (cP ha)))
  (.tup (W1.fresh ha) bh ((q1.all fun z=>z).keep (aU.of (cP ha))))⟩
end
end L2
set_option maxRecDepth 100000
set_option maxHeartbeats 4000000
namespace L2
open PySem PySem.Spec PyProof.Rows
noncomputable def cO(p:Int)(cs:List az)(wd:Wo):Nat->List bP
  |0=>[]
  | i + 1 => match cL p (cs.getD i []) 0 wd with
    |some (a,x)=>if a∈(cO p cs wd i).map (·.1) then cO p cs wd i else cO p cs wd i++[(a,(i:Int),x)]
    |none=>cO p cs wd i
theorem m8{p:Int}{cs:List az}{wd:Wo}:∀i,((cO p cs wd i).map (·.1)).Nodup
  |0=>by simp[cO]
  | i + 1 => by
    unfold cO
    split
    · split
      · exact m8 i
      · rename_i a x e c
        rw[eZ,ue]
        refine⟨m8 i,by simp,fun y hy z hz e=>c ?_⟩
        simp at hz
        rw[<-hz,<-e];exact hy
    · exact m8 i
theorem qN{p:Int}{cs:List az}{wd:Wo}{m:bP}:∀{i},m∈cO p cs wd i->0<=m.2.1/\m.2.1<i/\cL p (cs.getD m.2.1.toNat []) 0 wd=some (m.1,m.2.2)/\∀c:Nat,(c:Int)<m.2.1->∀x,cL p (cs.getD c []) 0 wd≠some (m.1,x)
  |0,h=>by simp[cO] at h
  | i + 1, h => by
    have key:∀{c:Nat},(∃x,cL p (cs.getD c []) 0 wd=some (m.1,x))->c<i->m.1∈(cO p cs wd i).map (·.1):=fun{c} hx hc=>by
      clear h
      induction i with
      |zero=>omega
      | succ i ih =>
        unfold cO
        by_cases e:c=i
        · subst e
          obtain⟨x,hx⟩:=hx
          rw[hx]
          dsimp only
          split
          · rename_i h;exact h
          · simp
        · have:=ih (by omega)
          split
          · split
            · exact this
            · rw[eZ];exact om _ this
          · exact this
    unfold cO at h
    split at h
    · rename_i a x e
      split at h
      · obtain⟨h1,h2,h3⟩:=qN h;exact⟨h1,by omega,h3⟩
      · rename_i c
        rcases fR.mp h with h|h
        · obtain⟨h1,h2,h3⟩:=qN h;exact⟨h1,by omega,h3⟩
        · simp at h
          subst h
          refine⟨by simp,by simp;omega,by simpa using e,fun c' hc' x' hx'=>c ?_⟩
          exact key ⟨x',hx'⟩ (by simpa using hc')
    · obtain⟨h1,h2,h3⟩:=qN h;exact⟨h1,by omega,h3⟩
theorem IF{p:Int}{cs:List az}{wd:Wo}{c:Nat}{a x:Int}(hx:cL p (cs.getD c []) 0 wd=some (a,x)):∀{i},c<i->a∈(cO p cs wd i).map (·.1)
  |0,h=>by omega
  | i + 1, h => by
    unfold cO
    by_cases e:c=i
    · subst e
      rw[hx]
      dsimp only
      split
      · rename_i h;exact h
      · simp
    · have:=IF hx (i:=i) (by omega)
      split
      · split
        · exact this
        · rw[eZ];exact om _ this
      · exact this
noncomputable def aN(p:Int)(cs:List az)(wd:Wo):List bP:=(cO p cs wd cs.length).mergeSort fun a b=>decide (a.1<=b.1)
theorem tM(p:Int)(cs:List az)(wd:Wo):(aN p cs wd).Perm (cO p cs wd cs.length):=List.mergeSort_perm _ _
theorem A5(p:Int)(cs:List az)(wd:Wo):(aN p cs wd).Pairwise fun a b=>a.1<b.1:=by
 have h1:(aN p cs wd).Pairwise fun a b=>decide (a.1<=b.1)=true:=List.pairwise_mergeSort (fun a b c h1 h2=>by simp at h1 h2⊢;omega) (fun a b=>by simp;omega) _
 have h2:((aN p cs wd).map (·.1)).Nodup:=((tM p cs wd).map _).nodup_iff.mpr (m8 _)
 have h3:(aN p cs wd).Pairwise fun a b=>a.1≠b.1:=rN.mp h2
 exact(h1.and h3).imp fun⟨a,b⟩=>by simp at a;omega
theorem GP:∀{a b:List bP},(a.Pairwise fun x y=>x.1<y.1)->(b.Pairwise fun x y=>x.1<y.1)->a.Perm b->a=b
  |[],b,_,_,h=>by rw[List.nil_perm.mp h]
  |x::a,[],_,_,h=>by cases List.perm_nil.mp h
  | x :: a, y :: b, h1, h2, h => by
    obtain⟨x1,x2⟩:=pJ.mp h1
    obtain⟨y1,y2⟩:=pJ.mp h2
    have e:x=y:=by
      rcases aG.mp (h.mem_iff.mp (bV ..)) with e|e
      · exact e
      rcases aG.mp (h.symm.mem_iff.mp (bV ..)) with e'|e'
      · exact e'.symm
      have:=y1 x e;have:=x1 y e';omega
    subst e
    rw[GP x2 y2 h.cons_inv]
theorem Wm{p:Int}{cs:List az}{wd:Wo}{ms:List bP}(h:ms.Perm (cO p cs wd cs.length))(hs:(ms.map (·.1)).Pairwise (· <= ·)):ms=aN p cs wd:=by
 refine GP ?_ (A5 p cs wd) (h.trans (tM p cs wd).symm)
 have h2:(ms.map (·.1)).Nodup:=(h.map _).nodup_iff.mpr (m8 _)
 exact((rN.mp hs).and (rN.mp h2)).imp fun⟨a,b⟩=>by omega
theorem v8{p:Int}{cs:List az}{wd:Wo}{m:bP}(h:m∈aN p cs wd):0<=m.2.1/\m.2.1<cs.length/\cL p (cs.getD m.2.1.toNat []) 0 wd=some (m.1,m.2.2)/\∀c:Nat,(c:Int)<m.2.1->∀x,cL p (cs.getD c []) 0 wd≠some (m.1,x):=qN ((tM p cs wd).mem_iff.mp h)
theorem Jc{p:Int}{cs:List az}{wd:Wo}{c:Nat}{a x:Int}(hc:c<cs.length)(h:cL p (cs.getD c []) 0 wd=some (a,x)):∃m∈aN p cs wd,m.1=a:=by
 have:=IF h hc
 obtain⟨m,hm,e⟩:=cZ.mp this
 exact⟨m,(tM p cs wd).mem_iff.mpr hm,e⟩
theorem Py{p:Int}{cs:List az}{wd:Wo}(h:aN p cs wd=[]):outs p cs wd=[]:=by
 unfold outs
 rw[uN]
 intro c hc hs
 obtain⟨⟨a,x⟩,e⟩:=yT.mp hs
 obtain⟨m,hm,_⟩:=Jc (pQ.mp hc) e
 rw[h] at hm;cases hm
theorem PU{p:Int}{prs:az}{wd:Wo}{ms:List bP}{a x:Int}(h:cL p prs 0 wd=some (a,x))(ha:∀m∈ms,m.1.toNat≠a.toNat)(hl:∀m∈ms,wd[m.1.toNat]?=some none)(h0:∀pr∈prs,0<=pr.1):cL p prs 0 (putAll wd ms)=some (a,x):=by
  have keep:∀{ms:List bP} {wd:Wo} {k:Nat},(∀m∈ms,m.1.toNat≠k)->(putAll wd ms)[k]?=wd[k]?:=fun{ms}=>by
    induction ms with
    |nil=>intro wd k _;rfl
    | cons m r ih =>
      intro wd k hk
      show(putAll (wd.set m.1.toNat (some m.2.2)) r)[k]?=_
      rw[ih fun m' hm'=>hk m' (cH _ hm'),br (hk m (bV ..))]
  obtain⟨pr,e1,e2,e3⟩:=BB h
  have same:∀q∈prs,(putAll wd ms)[q.1.toNat]?=wd[q.1.toNat]?:=fun q hq=>keep fun m hm z=>by
    have hq':q∈bA wd prs:=by
      unfold bA
      exact jr.mpr ⟨hq,by rw[<-z,hl m hm];rfl⟩
    rw[e1,aP] at hq'
    exact ha m hm (by rw[z,hq',e2])
  have e4:bA (putAll wd ms) prs=bA wd prs:=by
    unfold bA
    exact List.filter_congr fun q hq=>by rw[same q hq]
  have e5:aQ prs (putAll wd ms)=aQ prs wd:=by
    unfold aQ
    congr 1
    exact v5 fun q hq=>by unfold i9;rw[same q hq]
  unfold cL at h⊢
  rw[e4,e5]
  exact h
theorem qw(wd:Wo)(a b:List bP):putAll wd (a++b)=putAll (putAll wd a) b:=by unfold putAll;rw[List.foldl_append]
theorem kr.cat{p:Int}{cs:List az}{wd:Wo}{a b:List bP}(h1:kr p cs wd a)(h2:kr p cs (putAll wd a) b):kr p cs wd (a++b):=fun j hj=>by
 by_cases h:j<a.length
 ·obtain⟨m,e1,e2⟩:=h1 j h
  refine⟨m,by rw[fF h];exact e1,?_⟩
  rw[List.take_append_of_le_length (by omega)]
  exact e2
 ·rw[c7] at hj
  obtain⟨m,e1,e2⟩:=h2 (j-a.length) (by omega)
  refine⟨m,by rw[fX (by omega)];exact e1,?_⟩
  rw[List.take_append,nQ (by omega),qw]
  exact e2
theorem qf{p:Int}{cs:List az}{wd:Wo}(hp:0<p){m:bP}(h:m∈aN p cs wd)(h0:∀prs∈cs,∀pr∈prs,0<=pr.1/\pr.1<wd.length):0<=m.1/\m.1<wd.length/\wd[m.1.toNat]?=some none/\0<=m.2.2/\m.2.2<p:=by
 obtain⟨a1,a2,a3,_⟩:=v8 h
 obtain⟨pr,b1,b2,b3,b4,b5⟩:=zA hp a3
 have hc:m.2.1.toNat<cs.length:=by omega
 rw[dW,aI hc] at b1
 have:=h0 _ (gx hc) pr b1
 rw[b2] at this
 exact⟨this.1,this.2,b3,b4,b5⟩
theorem xM{p:Int}{cs:List az}{wd:Wo}(hp:0<p)(h0:∀prs∈cs,∀pr∈prs,0<=pr.1/\pr.1<wd.length):kr p cs wd (aN p cs wd):=fun j hj=>by
 refine⟨_,aI hj,?_⟩
 have hm:(aN p cs wd)[j]∈aN p cs wd:=gx hj
 obtain⟨a1,a2,a3,_⟩:=v8 hm
 obtain⟨b1,b2,b3,b4,b5⟩:=qf hp hm h0
 have tk:∀m∈(aN p cs wd).take j,m∈aN p cs wd/\m.1.toNat≠(aN p cs wd)[j].1.toNat:=fun m h=>by
  have hm':=wW h
  refine⟨hm',fun z=>?_⟩
  obtain⟨c1,_⟩:=qf hp hm' h0
  have hlt:m.1<(aN p cs wd)[j].1:=by
   obtain⟨i,hi,e⟩:=List.mem_take_iff_getElem.mp h
   rw[<-e]
   exact Ca.mp (A5 p cs wd) i j (by omega) hj (by omega)
  omega
 have hc:(aN p cs wd)[j].2.1.toNat<cs.length:=by omega
 have bS:∀pr∈cs.getD (aN p cs wd)[j].2.1.toNat [],0<=pr.1:=fun pr h=>by
  rw[dW,aI hc] at h
  exact(h0 _ (gx hc) pr h).1
 have:=PU a3 (fun m h=>(tk m h).2) (fun m h=>(qf hp (tk m h).1 h0).2.2.1) bS
 exact Ol a1 a2 this
noncomputable def iH(p:Int)(cs:List az):Nat->Wo->List (List bP)
 |0,_=>[]
 |k+1,wd=>if aN p cs wd=[] then[] else aN p cs wd::iH p cs k (putAll wd (aN p cs wd))
theorem vR{p:Int}{cs:List az}{wd:Wo}(hp:0<p)(h0:∀prs∈cs,∀pr∈prs,0<=pr.1/\pr.1<wd.length):cnt (putAll wd (aN p cs wd))+(aN p cs wd).length=cnt wd:=by
 have:=Dy hp (xM hp h0) (aN p cs wd).length (aF _)
 rwa[kQ] at this
theorem Hz{p:Int}{cs:List az}(hp:0<p):∀{k:Nat} {wd:Wo},(∀prs∈cs,∀pr∈prs,0<=pr.1/\pr.1<wd.length)->cnt wd<=k->iH p cs (k+1) wd=iH p cs k wd
  | 0, wd, h0, h => by
    have e:aN p cs wd=[]:=by
      cases e:aN p cs wd with
      |nil=>rfl
      | cons m r =>
        have:=vR hp h0
        rw[e] at this
        simp at this
        omega
    unfold iH
    rw[if_pos e]
    all_goals rfl
  | k + 1, wd, h0, h => by
    rw[iH]
    conv=>rhs;rw[iH]
    by_cases e:aN p cs wd=[]
    · rw[if_pos e,if_pos e]
    · rw[if_neg e,if_neg e]
      congr 1
      have:=vR hp h0
      have hl:0<(aN p cs wd).length:=tV.mpr e
      exact Hz hp (fun prs hp pr hr=>by rw[kW];exact h0 prs hp pr hr) (by omega)
noncomputable def fM(p:Int)(cs:List az)(wd:Wo):List (List bP):=iH p cs (cnt wd) wd
theorem V8{p:Int}{cs:List az}(hp:0<p){wd:Wo}(h0:∀prs∈cs,∀pr∈prs,0<=pr.1/\pr.1<wd.length):∀{k:Nat},cnt wd<=k->iH p cs k wd=fM p cs wd:=fun{k} h=>by
 obtain⟨j,rfl⟩:∃j,k=cnt wd+j:=⟨k-cnt wd,by omega⟩
 clear h
 induction j with
 |zero=>rfl
 |succ j ih=>rw[<-Nat.add_assoc,Hz hp h0 (by omega),ih]
theorem tT{p:Int}{cs:List az}{wd:Wo}(h:aN p cs wd=[]):fM p cs wd=[]:=by
 unfold fM
 cases cnt wd with
 |zero=>rfl
 |succ k=>rw[iH,if_pos h]
theorem qL{p:Int}{cs:List az}{wd:Wo}(hp:0<p)(h0:∀prs∈cs,∀pr∈prs,0<=pr.1/\pr.1<wd.length)(h:aN p cs wd≠[]):fM p cs wd=aN p cs wd::fM p cs (putAll wd (aN p cs wd)):=by
 have hc:=vR hp h0
 have hl:0<(aN p cs wd).length:=tV.mpr h
 obtain⟨k,hk⟩:∃k,cnt wd=k+1:=⟨cnt wd-1,by omega⟩
 have e:fM p cs wd=iH p cs (k+1) wd:=by unfold fM;rw[hk]
 rw[e,iH,if_neg h,V8 hp (fun prs hp pr hr=>by rw[kW];exact h0 prs hp pr hr) (by omega)]
theorem Ed{p:Int}{cs:List az}(hp:0<p):∀{k:Nat} {wd:Wo},(∀prs∈cs,∀pr∈prs,0<=pr.1/\pr.1<wd.length)->cnt wd<=k->kr p cs wd (fM p cs wd).flatten/\aN p cs (putAll wd (fM p cs wd).flatten)=[]/\∀r∈fM p cs wd,r≠[]
  | k, wd, h0, hk => by
    by_cases e:aN p cs wd=[]
    · rw[tT e]
      exact⟨fun j hj=>by simp at hj,e,fun r hr=>by cases hr⟩
    · have hl:0<(aN p cs wd).length:=tV.mpr e
      have hc:=vR hp h0
      rw[qL hp h0 e]
      obtain⟨k,rfl⟩:∃k',k=k'+1:=⟨k-1,by omega⟩
      obtain⟨i1,i2,i3⟩:=Ed hp (k:=k) (wd:=putAll wd (aN p cs wd)) (fun prs hp pr hr=>by rw[kW];exact h0 prs hp pr hr) (by omega)
      refine⟨(xM hp h0).cat i1,?_,fun r hr=>?_⟩
      · show aN p cs (putAll wd (aN p cs wd++_))=[]
        rw[qw];exact i2
      · rcases aG.mp hr with z|z
        · rw[z];exact e
        · exact i3 r z
noncomputable def dJ(p:Int)(cs:List az)(wd:Wo):Wo:=putAll wd (fM p cs wd).flatten
theorem Bq{p:Int}{cs:List az}{wd:Wo}(hp:0<p)(h0:∀prs∈cs,∀pr∈prs,0<=pr.1/\pr.1<wd.length):kr p cs wd (fM p cs wd).flatten/\aN p cs (dJ p cs wd)=[]/\(∀r∈fM p cs wd,r≠[])/\outs p cs (dJ p cs wd)=[]/\(dJ p cs wd).length=wd.length:=by
 obtain⟨h1,h2,h3⟩:=Ed hp h0 (aF _)
 exact⟨h1,h2,h3,Py h2,kW⟩
theorem M3{p:Int}{cs:List az}{wd:Wo}(h:aN p cs wd=[]):dJ p cs wd=wd:=by unfold dJ;rw[tT h];rfl
theorem RA{p:Int}{cs:List az}{wd:Wo}(hp:0<p)(h0:∀prs∈cs,∀pr∈prs,0<=pr.1/\pr.1<wd.length)(h:aN p cs wd≠[]):dJ p cs wd=dJ p cs (putAll wd (aN p cs wd)):=by
 unfold dJ
 rw[qL hp h0 h]
 exact qw _ _ _
abbrev i8(r:List bP):PyData:= .list (r.map wc)
def jk(nd:PyData)(l:Addr)(wd:Wo):Fs:=[("net", .d nd),("letters", .cu (kJ l (wd.map c8)))]
abbrev kM(m:bP):Int×PyData:=(m.1,wc m)
theorem C1(ms:List bP):(ms.map kM).map (·.1)=ms.map (·.1):=by rw[iz];rfl
theorem D9:∀{ms:List bP} {m:bP},(ms.map (·.1)).Nodup->m∈ms->jj (ms.map kM) m.1=some (wc m)
  | x :: r, m, nd, h => by
    rw[bx,sO]
    rw[bx,jD] at nd
    rcases aG.mp h with e|e
    · subst e;rw[if_pos rfl]
    · rw[if_neg (fun z=>nd.1 (by rw[show x.1=m.1 from z];exact List.mem_map_of_mem e)),D9 nd.2 e]
theorem GK{p:Int}{cs:List az}{wd:Wo}(hp:0<p)(h0:∀prs∈cs,∀pr∈prs,0<=pr.1/\pr.1<wd.length):∀{i},i<=cs.length->(cO p cs wd i).length<=wd.length:=fun{i} hi=>by
 have nd:=m8 (p:=p) (cs:=cs) (wd:=wd) i
 have:=BY (m:=wd.length) nd fun k hk=>by
  obtain⟨m,hm,e⟩:=cZ.mp hk
  obtain⟨a1,a2,a3,_⟩:=qN hm
  obtain⟨pr,b1,b2,_⟩:=zA hp a3
  have hc:m.2.1.toNat<cs.length:=by omega
  rw[dW,aI hc] at b1
  have:=h0 _ (gx hc) pr b1
  omega
 rw[ak] at this
 omega
theorem gf.rg{p:Int}{cs:List az}{m:Nat}(h:gf p cs m):∀prs∈cs,∀pr∈prs,0<=pr.1/\pr.1<m:=fun prs hp pr hr=>⟨((h.2.2.2 prs hp).2.1 pr hr).1,((h.2.2.2 prs hp).2.1 pr hr).2.1⟩
theorem VC{p:Int}{cs:List az}{wd:Wo}(hN:gf p cs wd.length)(hW:gG wd):gG (putAll wd (aN p cs wd)):=by
  have key:∀{ms:List bP} {wd:Wo},gG wd->(∀m∈ms,Sm m.2.2)->gG (putAll wd ms):=fun{ms}=>by
    induction ms with
    |nil=>intro wd h _;exact h
    | cons m r ih =>
      intro wd h hm
      refine ih (wd:=wd.set m.1.toNat (some m.2.2)) (fun x hx=>?_) fun m' h'=>hm m' (cH _ h')
      rcases IM hx with z|z
      · exact h x z
      · cases z;exact hm m (bV ..)
  have p2:=hN.1.1
  have iI:=hN.2.1
  refine key hW fun m hm=>?_
  obtain⟨_,_,_,b4,b5⟩:=qf (by omega) hm hN.rg
  unfold Sm;omega
theorem Ln(wd:Wo):eu (wd.map c8)=true:=by
 unfold eu
 rw[jJ]
 intro x hx
 obtain⟨o,_,rfl⟩:=cZ.mp hx
 cases o<;>rfl
theorem NH(nd:PyData)(l:Addr)(wd D5:Wo):dN "letters" (.cu (kJ l (D5.map c8))) (jk nd l wd)=jk nd l D5:=by
 unfold jk dN
 rw[if_neg (by decide+kernel)]
 unfold dN
 rw[if_pos rfl]
theorem DY{p:Int}{cs:List az}:∀{k:Nat} {wd:Wo},(iH p cs k wd).length<=k
  |0,wd=>by simp[iH]
  | k + 1, wd => by
    rw[iH]
    split
    · simp
    · simp[DY]
theorem Kv{p:Int}{cs:List az}{wd:Wo}:(fM p cs wd).length<=wd.length:=fq DY (VS wd)
theorem Uh(ms:List bP):SeqAt.shaped (i8 ms)=true:=K5 ms
theorem Kd(ms:List bP):PyData.eqv (i8 ms) (.list [])=decide (ms=[]):=by
 have:=NW ms
 rw[Bool.bne_false] at this
 exact this
end L2
set_option maxRecDepth 100000
set_option maxHeartbeats 4000000
namespace L2
open PySem PySem.Spec PyProof.Rows
theorem sq{wd:Wo}{x:Int}:x∈iw wd↔0<=x/\wd[x.toNat]?=some none:=by
 unfold iw
 rw[cZ]
 constructor
 ·rintro⟨i,hi,rfl⟩
  obtain⟨h1,h2⟩:=jr.mp hi
  exact⟨by omega,by simpa using h2⟩
 ·rintro⟨h0,h1⟩
  refine⟨x.toNat,jr.mpr ⟨pQ.mpr (bW.mp h1).1,by simpa using h1⟩,by omega⟩
theorem CS(wd:Wo):(iw wd).Pairwise (· < ·):=by
 unfold iw
 exact rN.mpr ((HZ.filter _).imp fun h=>by omega)
theorem FO{wd:Wo}{prs:az}(h0:∀pr∈prs,0<=pr.1):ko (iw wd) prs=(bA wd prs).length:=by
 unfold ko bA
 rw[List.filter_congr fun pr bS=>?_]
 rw[jS]
 simp only[decide_eq_true_eq,beq_iff_eq]
 rw[sq]
 exact⟨fun h=>h.2,fun h=>⟨h0 pr bS,h⟩⟩
theorem Gi{p:Int}{cs:List az}{wd:Wo}{ms:List bP}(h1:kr p cs wd ms)(h0:∀prs∈cs,∀pr∈prs,0<=pr.1){T:List Int}(hT:∀x∈T,x∈iw wd)(ho:pY cs T=true):∀j,j<=ms.length->∀x∈T,x∈iw (putAll wd (ms.take j))
  |0,_=>by simpa[putAll] using hT
  | j + 1, hj => by
    have ih:=Gi h1 h0 hT ho j (by omega)
    obtain⟨m,e1,e2⟩:=h1 j (by omega)
    obtain⟨c0,c1,e3⟩:=zg e2
    have hc:m.2.1.toNat<cs.length:=by omega
    rw[dW,aI hc] at e3
    obtain⟨pr,e4,e5,e6⟩:=BB e3
    have sA:=gx hc
    have rL:pr∈cs[m.2.1.toNat]:=(vZ (wd:=putAll wd (ms.take j)) (by show pr∈bA _ cs[m.2.1.toNat];rw[show bA (putAll wd (ms.take j)) cs[m.2.1.toNat]=[pr] from e4];simp)).1
    have hl1:ko (iw (putAll wd (ms.take j))) cs[m.2.1.toNat]=1:=by
      rw[FO (h0 _ sA),show bA (putAll wd (ms.take j)) cs[m.2.1.toNat]=[pr] from e4];rfl
    intro x hx
    have kU:=ih x hx
    rw[take_snoc e1,qw]
    show x∈iw ((putAll wd (ms.take j)).set m.1.toNat (some m.2.2))
    rw[sq] at kU⊢
    refine⟨kU.1,?_⟩
    rw[br]
    · exact kU.2
    · intro z
      have tE:x=pr.1:=by have:=h0 _ sA pr rL;omega
      have a1:=OI ih cs[m.2.1.toNat]
      have a2:=U0 hx (cZ.mpr ⟨pr,rL,tE.symm⟩)
      unfold pY at ho
      rw[jJ] at ho
      exact of_decide_eq_true (ho _ sA) (by omega)
theorem QL{p:Int}{cs:List az}{wd:Wo}(hp:0<p)(h0:∀prs∈cs,∀pr∈prs,0<=pr.1/\pr.1<wd.length):AH cs (iw wd) (iw (dJ p cs wd)):=by
 obtain⟨h1,h2,h3,h4,h5⟩:=Bq hp h0
 refine⟨⟨fun x=>decide (x∈iw (dJ p cs wd)),?_⟩,?_,fun T hT ho=>?_⟩
 ·refine E5 (CS _) ((CS wd).filter _) fun k=>?_
  rw[jr]
  refine⟨fun h=>⟨?_,decide_eq_true h⟩,fun h=>of_decide_eq_true h.2⟩
  rw[sq] at h⊢
  exact⟨h.1,SA h.2⟩
 ·unfold pY
  rw[jJ]
  intro prs eS
  refine decide_eq_true fun z=>?_
  rw[FO fun pr bS=>(h0 prs eS pr bS).1] at z
  obtain⟨pr,e⟩:=List.length_eq_one_iff.mp z
  obtain⟨c,hc,e2⟩:=List.getElem_of_mem eS
  have h6:=P4 h4 hc
  rw[dW,aI hc] at h6
  have h7:=Tc (p:=p) (wd:=dJ p cs wd) (prs:=cs[c]) (pr:=pr) (by rw[e2];exact e)
  simp only[Option.getD_some] at h6
  rw[h7] at h6;cases h6
 ·have:=Gi h1 (fun prs hp pr hr=>(h0 prs hp pr hr).1) hT ho _ (aF _)
  rw[kQ] at this
  exact this
theorem Pg{p:Int}{cs:List az}{wd:Wo}{os:List Int}(hN:gf p cs wd.length)(hl:wd.length=os.length)(hos:∀x∈os,0<=x/\x<p)(ht:∀prs∈cs,aQ prs (os.map some)%p=0)(ha:Agree os wd):Agree os (dJ p cs wd):=by
 have p2:=hN.1.1
 have:=B6 hN hl hos ht ha (Bq (by omega) hN.rg).1 _ (aF _)
 rw[kQ] at this
 exact this
end L2
set_option maxRecDepth 100000
set_option maxHeartbeats 4000000
set_option maxRecDepth 100000
set_option maxHeartbeats 4000000
namespace L2
open PySem PySem.Spec PyProof.Rows
section
variable{prog:Program}{w:World}{A:Around}{E:Value->Shared->Prop}{s:Shared}
theorem OD{a:Addr}{vs:List (Key×Value)}{ms:List Int}{Q:Value->Shared->Prop}(hh:A.handled=none)(lo:(a==sysModules)=false)(hd:s.heap.DictOf (ig prog w) a vs)(hk:vs.map (·.1)=ms.map Sum.inl)(h64:ms.length<=4000)
    (h:∀h' tk' (l:Addr) (out:List Value) (ns:List Int) (e:Nat),(∀b o,s.heap.get? b=some o->h'.get? b=some o)->s.heap.objs.size<=l->h'.get? l=some (seqObj "list" out.toArray e)->IntsAre out ns->ns.Pairwise (· <= ·)->ns.Perm ms->
      Q (.ref l) {s with heap:=h',toks:=tk'}):wpAny (model prog w) A (call (.builtin "sorted") [.ref a]) Q E s:=by
  obtain⟨ep,hat⟩:=hd.dictAt
  have hvl:vs.length=ms.length:=by have:=congrArg List.length hk;simpa using this
  refine Gb kind_sorted plain_sorted entry_sorted (args_sorted1 _) ?_
  unfold Builtin.«sorted»
  refine wpAny_bind (m:=checkCount "sorted" 1 1 _) (wpAny_pure (wpAny_bind ?_))
  refine Mn (A:=A.in1) (PySem.W.kdl_dict lo) hh hat (by rw[hvl];exact fq h64 (by decide)) fun h1 zd items k1 k2 hil hit=>?_
  have hI:IntsAre items ms:=by
    have key:∀(its:List Value) (us:List (Key×Value)) (ms:List Int),us.map (·.1)=ms.map Sum.inl->its.length=us.length->(∀(i:Nat) v,its[i]?=some v->∃k x,us[i]?=some (k,x)/\(ig prog w).is k v=true)->IntsAre its ms:=by
      intro its
      induction its with
      | nil =>
        intro us ms e l _
        cases us with
        | nil => cases ms with
          |nil=>exact .nil
          |cons _ _=>cases e
        |cons _ _=>cases l
      | cons v its ih =>
        intro us ms e l hp
        cases us with
        |nil=>cases l
        | cons u us => cases ms with
          |nil=>cases e
          | cons m ms =>
            have e1:u.1=Sum.inl m:=by injection e
            have e2:us.map (·.1)=ms.map Sum.inl:=by injection e
            obtain⟨k,x,q1,q2⟩:=hp 0 v rfl
            have q1:u=(k,x):=by simpa using q1
            subst q1
            have e1:k=Sum.inl m:=e1
            subst e1
            obtain⟨t,rfl⟩:=vh (k:=m) (v:=v) q2
            exact .cons m t (ih us ms e2 (by simpa using l) fun i v q=>by simpa using hp (i+1) v (by simpa using q))
    exact key items vs ms hk hil hit
  have hlen:items.length=ms.length:=by rw[hil,hvl]
  refine wpAny_bind (wpAny_newList ?_)
  have gL:(h1.push (seqObj "list" items.toArray 0)).get? h1.objs.size=some (seqObj "list" items.toArray 0):=fP _ rfl
  refine wpAny_bind (wpAny_holding (wpAny_call_entry slot_list_sort ⟨_,gL,rfl⟩ entry_list_sort (LP gL hI (by omega) fun out ns' a1 a2 a3=>⟨_,rfl,?_⟩) (args_list_sort _)))
  obtain⟨e,he⟩:=sortedHeap_at (out:=out) gL
  refine wpAny_pure ⟨_,rfl,h _ zd h1.objs.size out.toList ns' e (fun b o q=>?_) k2 (by simpa using he) a1 a3 a2⟩
  have lb:=bw (k1 b o q)
  rw[sortedHeap_old (cW lb) (by rw[j6];exact lZ lb)]
  exact bQ _ (k1 b o q)
end
def yz:List V->Hp->VK->Prop:=fun xs H Q=>∃a,∃kvs:List (Key×V),∃ms:List Int,xs=[.ref a]/\Rd H a (.dK kvs)/\kvs.map (·.1)=ms.map Sum.inl/\ms.length<=4000/\
 ∀l (rs:List Int),H l=none->rs.Pairwise (· <= ·)->rs.Perm ms->Q (.ref l) (upd H l (.lst (rs.map V.int)))
theorem RE{X:Cx}(hc:X.calm=true):fW X (.builtin "sorted") yz:=by
 intro pins s σ H xs us Q I rv h
 obtain⟨a,kvs,ms,rfl,hH,hk,h64,q⟩:=h
 obtain⟨u,rfl,ru⟩:=vals1 rv
 cases ru
 obtain⟨z,hd,vs,rel,dd⟩:=qQ I.hok hH
 refine OD (I.ok.hd hc) hd dd (by rw[<-rel.keys];exact hk) h64 fun h' tk' l out ns e kp hl gl hI pw pp=>?_
 have new:cA X.prog X.w (upd H l (.lst (ns.map V.int))) h' l (.lst (ns.map V.int)):=by
  refine⟨?_,out,e,xO hI,gl⟩
  rw[ak,pp.length_eq];exact fq h64 (by decide)
 exact⟨.ref l,_,I.laid (t':=tk') kp hl new,rfl,q _ _ (I.hok.fresh hl) pw pp⟩
theorem aB.Qx{G:Gx}{ρ:Rh}{i:Nat}{a:Addr}{f:Bool}{ks:Ks}{Θ:Bool->List PyData->Prop}(e:ρ[i]?=some (.cy a f ks))(hl:ks.length<=4000)(h:∀rs:List Int,rs.Pairwise (· <= ·)->rs.Perm (ks.map (·.1))->Θ true (rs.map .int)):
  aB G ρ (fJ yz (bC (cI i) cz)) Θ:=fun nb σ H Q W z=>by
 obtain⟨x,e1,h1,h2,h3,ps,hp,hd⟩:=W.ok i _ e
 subst h1
 refine⟨.ref a,e1,a,ps,ks.map (·.1),rfl, .inl hp,aq.keys hd,by rw[ak];exact hl,fun l rs hl' hw lD=>?_⟩
 exact aB.fin (f:=true) W (.refl W.au) hl' (AO rs) (h rs hw lD) z
end L2
set_option maxRecDepth 100000
set_option maxHeartbeats 4000000
namespace L2
open PySem PySem.Spec PyProof.Rows
inductive Oi where
 |own (b:Addr)|dat (x:PyData)
inductive OO where
 |lst (xs:List Oi)|tup (xs:List Oi)|cy (ks:List (Int×Oi))
abbrev Xh:=List (Addr×OO)
end L2
set_option maxRecDepth 100000
set_option maxHeartbeats 4000000
set_option maxRecDepth 100000
set_option maxHeartbeats 4000000
set_option maxRecDepth 100000
set_option maxHeartbeats 4000000
set_option maxRecDepth 100000
set_option maxHeartbeats 4000000
namespace L2
open PySem PySem.Spec PyProof.Rows
structure bf(p:Int)(ls:List Int)(rows:List (List Int)):Prop where
 hp:iJ p
 iI:p<10^40
 k0:1<=ls.length
 k1:ls.length<=200
 lr:∀x∈ls,0<=x/\x<p
 ml:rows.length<=200
 rk:∀r∈rows,mj ls.length r
def fK(k:Int)(c:Nat)(row:List Int):az:=(row++(if 0<(c:Int) then[k+c-1] else[])).map fun x=>(x,(1:Int))
theorem oO(p k:Int)(c:Nat)(row:List Int):fL p k c row=fK k c row++[(k+c,p-1)]:=rfl
def ay(p:Int)(ls:List Int)(rows:List (List Int)):Nat->List Int
 |0=>ls
 |c+1=>ay p ls rows c++[aQ (fK ls.length c (rows.getD c [])) ((ay p ls rows c).map some)%p]
section
variable{p:Int}{ls:List Int}{rows:List (List Int)}
theorem ou:∀c,(ay p ls rows c).length=ls.length+c
 |0=>rfl
 |c+1=>by show(ay p ls rows c++[_]).length=_;rw[c7,ou c];rfl
theorem vU{c:Nat}:∀(d i:Nat),i<ls.length+c->(ay p ls rows (c+d))[i]?=(ay p ls rows c)[i]?
  |0,_,_=>rfl
  | d + 1, i, h => by
    show(ay p ls rows (c+d)++[_])[i]?=_
    rw[fF (by rw[ou];omega)]
    exact vU d i h
theorem Ak(hp:0<p)(h:∀x∈ls,0<=x/\x<p):∀c,∀x∈ay p ls rows c,0<=x/\x<p
  |0,x,hx=>h x hx
  | c + 1, x, hx => by
    rcases fR.mp (show x∈ay p ls rows c++[_] from hx) with z|z
    · exact Ak hp h c x z
    · rw[aP.mp z];exact⟨iW _ (by omega),iX _ hp⟩
theorem GB{prs:az}{a b:List Int}(h:∀pr∈prs,a[pr.1.toNat]?=b[pr.1.toNat]?):aQ prs (a.map some)=aQ prs (b.map some):=by
 unfold aQ
 congr 1
 apply v5
 intro pr bS
 unfold i9
 rw[bI,bI,h pr bS]
theorem rj{k:Int}{c:Nat}{row:List Int}(hk:0<=k)(hr:∀x∈row,0<=x/\x<k):∀pr∈fK k c row,0<=pr.1/\pr.1<k+c/\(pr.1<k\/(0<c/\pr.1=k+c-1)):=fun pr bS=>by
 obtain⟨x,hx,rfl⟩:=cZ.mp bS
 rcases fR.mp hx with z|z
 ·have:=hr x z
  exact⟨this.1,by show x<k+c;omega, .inl this.2⟩
 ·split at z
  ·rename_i h
   rw[aP.mp z]
   exact⟨by show 0<=k+c-1;omega,by show k+c-1<k+c;omega, .inr ⟨by omega,rfl⟩⟩
  ·cases z
theorem bf.row(h:bf p ls rows){c:Nat}(hc:c<rows.length):mj ls.length (rows.getD c []):=by
 rw[dW,aI hc]
 exact h.rk _ (gx hc)
theorem bf.at(h:bf p ls rows){c:Nat}(hc:c<rows.length):(ay p ls rows rows.length)[ls.length+c]?=some (aQ (fK ls.length c (rows.getD c [])) ((ay p ls rows rows.length).map some)%p):=by
 have e:rows.length=c+1+(rows.length-(c+1)):=by omega
 have h1:(ay p ls rows rows.length)[ls.length+c]?=(ay p ls rows (c+1))[ls.length+c]?:=by
  rw[show ay p ls rows rows.length=ay p ls rows (c+1+(rows.length-(c+1))) by rw[<-e]]
  exact vU _ _ (by omega)
 rw[h1]
 show(ay p ls rows c++[_])[ls.length+c]?=_
 rw[fX (by rw[ou];omega),ou,wM]
 have h2:aQ (fK ls.length c (rows.getD c [])) ((ay p ls rows c).map some)=aQ (fK ls.length c (rows.getD c [])) ((ay p ls rows rows.length).map some):=GB fun pr bS=>by
  have:=rj (c:=c) (by omega) (h.row hc).2.1 pr bS
  rw[show ay p ls rows rows.length=ay p ls rows (c+(rows.length-c)) by rw[show c+(rows.length-c)=rows.length by omega]]
  exact(vU _ _ (by omega)).symm
 rw[h2];rfl
theorem bf.Jh(h:bf p ls rows){c:Nat}(hc:c<rows.length):aQ (fL p ls.length c (rows.getD c [])) ((ay p ls rows rows.length).map some)%p=0:=by
 rw[oO,ud,nA,oY (pr:=((ls.length:Int)+c,p-1)) (x:=aQ (fK ls.length c (rows.getD c [])) ((ay p ls rows rows.length).map some)%p) (by rw[show((ls.length:Int)+(c:Int)).toNat=ls.length+c by omega];exact h.at hc)]
 generalize aQ (fK ls.length c (rows.getD c [])) ((ay p ls rows rows.length).map some)=D
 show(D+((p-1)*(D%p)+0))%p=0
 have e1:=Int.emod_add_mul_ediv D p
 have:D+((p-1)*(D%p)+0)=p*(D/p+D%p):=by
  rw[Co,qG,m7]
  omega
 rw[this]
 exact Int.mul_emod_right _ _
theorem rV{k:Int}{c:Nat}(hc:c<rows.length):(bB p k rows)[c]?=some (fL p k c (rows.getD c [])):=by
 unfold bB
 rw[bI,uy hc];rfl
theorem m9{k:Int}:(bB p k rows).length=rows.length:=by unfold bB;rw[ak,pR]
theorem HY{k:Int}{prs:az}(h:prs∈bB p k rows):∃c<rows.length,prs=fL p k c (rows.getD c []):=by
 unfold bB at h
 obtain⟨c,hc,rfl⟩:=cZ.mp h
 exact⟨c,pQ.mp hc,rfl⟩
theorem bf.o7(h:bf p ls rows):gf p (bB p ls.length rows) (ls.length+rows.length):=by
 have p2:=h.hp.1
 have hk0:=h.k0
 refine⟨h.hp,h.iI,by rw[m9];have:=h.ml;omega,fun prs eS=>?_⟩
 obtain⟨c,hc,rfl⟩:=HY eS
 have hr:=h.row hc
 obtain⟨_,_,hall⟩:=U1 (n:=(ls.length:Int)+rows.length) p2 hr (by omega) (by omega) (c:=c)
 refine⟨fq Rb (by have:=hr.2.2;omega),fun pr bS=>?_,fun pr bS=>?_⟩
 ·have:=hall pr bS
  have:=h.iI
  exact⟨by omega,by omega,by unfold Sm;omega⟩
 ·have:=hall pr bS
  rw[CC (by omega) (by omega)];omega
theorem bf.j4(h:bf p ls rows):(ay p ls rows rows.length).length=ls.length+rows.length:=ou _
theorem bf.nH(h:bf p ls rows):∀x∈ay p ls rows rows.length,0<=x/\x<p:=Ak (by have:=h.hp.1;omega) h.lr _
theorem bf.Ct(h:bf p ls rows):∀prs∈bB p ls.length rows,aQ prs ((ay p ls rows rows.length).map some)%p=0:=fun prs eS=>by
 obtain⟨c,hc,rfl⟩:=HY eS
 exact h.Jh hc
theorem bf.ends(h:bf p ls rows){wd:Wo}(hl:wd.length=ls.length+rows.length)(ha:Agree (ay p ls rows rows.length) wd)(hk:∀i:Nat,i<ls.length->wd[i]?≠some none):dJ p (bB p ls.length rows) wd=(ay p ls rows rows.length).map some:=by
  have p2:=h.hp.1
  have hN:gf p (bB p ls.length rows) wd.length:=by rw[hl];exact h.o7
  have hG:=QL (p:=p) (by omega) hN.rg
  have hA:=Pg hN (by rw[hl,h.j4]) h.nH h.Ct ha
  have hL:=(Bq (p:=p) (by omega) hN.rg).2.2.2.2
  have J9:iw (dJ p (bB p ls.length rows) wd)=[]:=by
    refine jF fun hne=>?_
    obtain⟨T,hT⟩:∃T,iw (dJ p (bB p ls.length rows) wd)=T:=⟨_,rfl⟩
    rw[hT] at hne hG
    have hup:T.Pairwise (· < ·):=by rw[<-hT];exact CS _
    obtain⟨x,T',rfl⟩:∃x T',T=x::T':=by cases T with|nil=>exact absurd rfl hne|cons x T'=>exact⟨x,T',rfl⟩
    have hmin:∀y∈T',x<y:=(pJ.mp hup).1
    have hge:∀y∈x::T',(ls.length:Int)<=y/\y<ls.length+rows.length:=fun y hy=>by
      obtain⟨y0,y1⟩:=sq.mp (hG.mem y hy)
      have y2:=(bW.mp y1).1
      refine⟨jF fun z=>hk y.toNat (by omega) y1,by omega⟩
    obtain⟨x0,x1⟩:=hge x (bV ..)
    obtain⟨c,V2⟩:∃c:Nat,x=(ls.length:Int)+c:=⟨(x-ls.length).toNat,by omega⟩
    have hc:c<rows.length:=by omega
    have ho:=hG.out
    unfold pY at ho
    rw[jJ] at ho
    have:=of_decide_eq_true (ho _ (eY (rV (p:=p) (k:=ls.length) hc)))
    refine this ?_
    unfold ko
    rw[oO,CL,uN.mpr (fun pr bS=>?_),List.nil_append,uC (by rw[decide_eq_true_eq,<-V2];exact bV ..)]
    · rfl
    · have hm:=rj (c:=c) (by omega) (h.row hc).2.1 pr bS
      rw[decide_eq_true_eq]
      intro z
      have g:=hge pr.1 z
      rcases aG.mp z with z|z
      · omega
      · have:=hmin _ z;omega
  apply jX
  intro i
  by_cases hi:i<ls.length+rows.length
  · have hi2:i<(dJ p (bB p ls.length rows) wd).length:=by omega
    cases e:(dJ p (bB p ls.length rows) wd)[i] with
    | none =>
      have:(i:Int)∈iw (dJ p (bB p ls.length rows) wd):=sq.mpr ⟨by omega,by rw[show((i:Int)).toNat=i by omega,aI hi2,e]⟩
      rw[J9] at this;cases this
    | some x =>
      have e2:(dJ p (bB p ls.length rows) wd)[i]?=some (some x):=by rw[aI hi2,e]
      rw[e2,bI,hA i x e2];rfl
  · rw[gM (by omega),gM (by rw[ak,h.j4];omega)]
def cB(w:List Int)(k m j:Nat):Wo:=(List.range (k+m)).map fun i=>if i<k+j then some (w.getD i 0) else none
theorem mR{w:List Int}{k m j i:Nat}(h:i<k+m):(cB w k m j)[i]?=some (if i<k+j then some (w.getD i 0) else none):=by
 unfold cB
 rw[bI,uy h];rfl
theorem kZ{w:List Int}{k m j:Nat}:(cB w k m j).length=k+m:=by unfold cB;rw[ak,pR]
theorem L8{w:List Int}{k m j:Nat}(hw:w.length=k+m):Agree w (cB w k m j):=fun i x e=>by
 have hi:i<k+m:=by have:=(bW.mp e).1;rwa[kZ] at this
 rw[mR hi] at e
 split at e
 ·cases e
  rw[dW,aI (by omega)];rfl
 ·cases e
theorem LW{w:List Int}{k m j:Nat}(hj:j<m):(cB w k m j).set (k+j) (some (w.getD (k+j) 0))=cB w k m (j+1):=by
 apply jX
 intro i
 by_cases c:k+j=i
 ·subst c
  rw[cg (by rw[kZ];omega),mR (by omega),if_pos (by omega)]
 ·rw[br c]
  by_cases hi:i<k+m
  ·rw[mR hi,mR hi]
   by_cases c2:i<k+j
   ·rw[if_pos c2,if_pos (by omega)]
   ·rw[if_neg c2,if_neg (by omega)]
  ·rw[gM (by rw[kZ];omega),gM (by rw[kZ];omega)]
theorem bf.told(h:bf p ls rows){w:List Int}{j c:Nat}(hc:c<rows.length)(hj:j<=rows.length):(c≠j->cL p (fL p ls.length c (rows.getD c [])) 0 (cB w ls.length rows.length j)=none)/\(c=j->∃x,cL p (fL p ls.length c (rows.getD c [])) 0 (cB w ls.length rows.length j)=some ((ls.length:Int)+c,x)):=by
 have hA:=rj (c:=c) (by omega) (h.row hc).2.1
 have hat:∀pr∈fK ls.length c (rows.getD c []),(cB w ls.length rows.length j)[pr.1.toNat]?=some none↔(j<c/\pr.1=(ls.length:Int)+c-1):=fun pr bS=>by
  obtain⟨a0,a1,a2⟩:=hA pr bS
  rw[mR (by omega)]
  constructor
  ·intro e
   by_cases z:pr.1.toNat<ls.length+j
   ·rw[if_pos z] at e;cases e
   ·omega
  ·intro e
   rw[if_neg (by omega)]
 have xw:(cB w ls.length rows.length j)[((ls.length:Int)+c).toNat]?=some none↔j<=c:=by
  rw[mR (by omega)]
  constructor
  ·intro e
   by_cases z:((ls.length:Int)+c).toNat<ls.length+j
   ·rw[if_pos z] at e;cases e
   ·omega
  ·intro e
   rw[if_neg (by omega)]
 have hsplit:bA (cB w ls.length rows.length j) (fL p ls.length c (rows.getD c []))=bA (cB w ls.length rows.length j) (fK ls.length c (rows.getD c []))++bA (cB w ls.length rows.length j) [((ls.length:Int)+c,p-1)]:=by
  unfold bA
  rw[oO,CL]
 have hl2:bA (cB w ls.length rows.length j) [((ls.length:Int)+c,p-1)]=if j<=c then[((ls.length:Int)+c,p-1)] else[]:=by
  unfold bA
  by_cases z:j<=c
  ·rw[if_pos z,uC (by simpa using xw.mpr z),List.filter_nil]
  ·rw[if_neg z,BG (by simpa using fun e=>z (xw.mp e)),List.filter_nil]
 have hl1:c<=j->bA (cB w ls.length rows.length j) (fK ls.length c (rows.getD c []))=[]:=fun z=>by
  unfold bA
  refine uN.mpr fun pr bS=>?_
  simpa using fun e=>by have:=(hat pr bS).mp e;omega
 unfold cL
 rw[hsplit,hl2]
 refine⟨fun hne=>?_,fun he=>?_⟩
 ·by_cases z:c<j
  ·rw[hl1 (by omega),if_neg (by omega)];rfl
  ·rw[if_pos (by omega)]
   have hpos:((ls.length:Int)+c-1,(1:Int))∈bA (cB w ls.length rows.length j) (fK ls.length c (rows.getD c [])):=by
    have hm:((ls.length:Int)+c-1,(1:Int))∈fK ls.length c (rows.getD c []):=cZ.mpr ⟨_,jE _ (by rw[if_pos (by omega)];exact aP.mpr rfl),rfl⟩
    exact jr.mpr ⟨hm,by simpa using(hat _ hm).mpr ⟨by omega,rfl⟩⟩
   cases e:bA (cB w ls.length rows.length j) (fK ls.length c (rows.getD c [])) with
   |nil=>rw[e] at hpos;cases hpos
   |cons a r=>cases r<;>rfl
 ·rw[hl1 (by omega),if_pos (by omega)]
  exact⟨_,rfl⟩
theorem bf.Ka(h:bf p ls rows){j:Nat}(hj:j<rows.length):aN p (bB p ls.length rows) (cB (ay p ls rows rows.length) ls.length rows.length j)=[((ls.length:Int)+j,(j:Int),(ay p ls rows rows.length).getD (ls.length+j) 0)]:=by
  have p2:=h.hp.1
  obtain⟨W,hW⟩:∃W,ay p ls rows rows.length=W:=⟨_,rfl⟩
  have yj:W.length=ls.length+rows.length:=by rw[<-hW];exact h.j4
  rw[hW]
  have hN:gf p (bB p ls.length rows) (cB W ls.length rows.length j).length:=by rw[kZ];exact h.o7
  have hgd:∀c:Nat,c<rows.length->(bB p ls.length rows).getD c []=fL p ls.length c (rows.getD c []):=fun c hc=>by rw[dW,rV hc];rfl
  obtain⟨x,hx⟩:=(h.told (w:=W) hj (by omega)).2 rfl
  obtain⟨m,hm,hma⟩:=Jc (p:=p) (cs:=bB p ls.length rows) (wd:=cB W ls.length rows.length j) (c:=j) (by rw[m9];exact hj) (by rw[hgd j hj];exact hx)
  have only:∀m∈aN p (bB p ls.length rows) (cB W ls.length rows.length j),m.1=(ls.length:Int)+j/\m.2.1=j:=fun m hm=>by
    obtain⟨c0,c1,c2,_⟩:=v8 hm
    rw[m9] at c1
    have hc:m.2.1.toNat<rows.length:=by omega
    rw[hgd _ hc] at c2
    by_cases z:m.2.1.toNat=j
    · obtain⟨y,hy⟩:=(h.told (w:=W) hc (show j<=rows.length by omega)).2 z
      rw[hy] at c2
      injection c2 with c2
      have c3:(ls.length:Int)+(m.2.1.toNat:Int)=m.1:=congrArg Prod.fst c2
      exact⟨by omega,by omega⟩
    · rw[(h.told (w:=W) hc (show j<=rows.length by omega)).1 z] at c2;cases c2
  have hup:=A5 p (bB p ls.length rows) (cB W ls.length rows.length j)
  have RI:=xM (p:=p) (by omega) hN.rg
  have jI:=B6 hN (by rw[kZ,yj]) (by rw[<-hW];exact h.nH) (by rw[<-hW];exact h.Ct) (L8 yj) RI
  obtain⟨R,hR⟩:∃R,aN p (bB p ls.length rows) (cB W ls.length rows.length j)=R:=⟨_,rfl⟩
  rw[hR] at hm only hup jI⊢
  match R,hm,only,hup,jI with
  | [m1], hm, only, hup, jI =>
    obtain⟨e1,e2⟩:=only m1 (aP.mpr rfl)
    have e3:=jI 1 (aF _) (ls.length+j) m1.2.2 (by
      show((cB W ls.length rows.length j).set m1.1.toNat (some m1.2.2))[ls.length+j]?=_
      rw[show m1.1.toNat=ls.length+j by omega,cg (by rw[kZ];omega)])
    rw[dW,e3]
    obtain⟨a,b,c⟩:=m1
    dsimp only at e1 e2
    rw[e1,e2];rfl
  | m1 :: m2 :: r, hm, only, hup, jI =>
    have h1:=(only m1 (bV ..)).1
    have h2:=(only m2 (cH _ (bV ..))).1
    have:=(pJ.mp hup).1 m2 (bV ..)
    omega
theorem bf.Pk(h:bf p ls rows):aN p (bB p ls.length rows) (cB (ay p ls rows rows.length) ls.length rows.length rows.length)=[]:=by
 refine List.eq_nil_iff_forall_not_mem.mpr fun m hm=>?_
 obtain⟨c0,c1,c2,_⟩:=v8 hm
 rw[m9] at c1
 have hc:m.2.1.toNat<rows.length:=by omega
 rw[dW,rV hc] at c2
 rw[show(some (fL p ls.length m.2.1.toNat (rows.getD m.2.1.toNat []))).getD []=fL p ls.length m.2.1.toNat (rows.getD m.2.1.toNat []) from rfl,(h.told hc (aF _)).1 (by omega)] at c2
 cases c2
theorem bf.IP(h:bf p ls rows):∀(d j:Nat),j+d=rows.length->fM p (bB p ls.length rows) (cB (ay p ls rows rows.length) ls.length rows.length j)=(List.range' j d).map fun(c:Nat)=>[((ls.length:Int)+c,(c:Int),(ay p ls rows rows.length).getD (ls.length+c) 0)]
  | 0, j, e => by
    rw[show j=rows.length by omega,tT h.Pk];rfl
  | d + 1, j, e => by
    have hj:j<rows.length:=by omega
    have hr:=h.Ka hj
    have hN:gf p (bB p ls.length rows) (cB (ay p ls rows rows.length) ls.length rows.length j).length:=by rw[kZ];exact h.o7
    rw[qL (by have:=h.hp.1;omega) hN.rg (by rw[hr];exact List.cons_ne_nil _ _),hr]
    have:putAll (cB (ay p ls rows rows.length) ls.length rows.length j) [((ls.length:Int)+j,(j:Int),(ay p ls rows rows.length).getD (ls.length+j) 0)]=cB (ay p ls rows rows.length) ls.length rows.length (j+1):=by
      show(cB _ _ _ j).set ((ls.length:Int)+j).toNat (some _)=_
      rw[show((ls.length:Int)+(j:Int)).toNat=ls.length+j by omega]
      exact LW hj
    rw[this,h.IP d (j+1) (by omega)]
    rfl
theorem bf.bad(h:bf p ls rows){c:Nat}{y:Int}(hc:c<rows.length)(y0:0<=y)(y1:y<p)(hy:(ay p ls rows rows.length)[ls.length+c]?≠some y):¬nN p (bB p ls.length rows) (((ay p ls rows rows.length).set (ls.length+c) y).map some):=fun ht=>by
 have p2:=h.hp.1
 have t1:=ht.2 _ (eY (rV (p:=p) (k:=ls.length) hc))
 have t0:=h.Jh hc
 obtain⟨W,hW⟩:∃W,ay p ls rows rows.length=W:=⟨_,rfl⟩
 have yj:W.length=ls.length+rows.length:=by rw[<-hW];exact h.j4
 rw[hW] at t1 t0 hy
 have hi:ls.length+c<W.length:=by omega
 have hx:=h.nH W[ls.length+c] (by rw[hW];exact gx hi)
 rw[aI hi] at hy
 obtain⟨x,hxx⟩:∃x,W[ls.length+c]=x:=⟨_,rfl⟩
 rw[hxx] at hx hy
 have hxy:x≠y:=fun z=>hy (by rw[z])
 have hs:aQ (fK ls.length c (rows.getD c [])) ((W.set (ls.length+c) y).map some)=aQ (fK ls.length c (rows.getD c [])) (W.map some):=GB fun pr bS=>by
  have:=rj (c:=c) (by omega) (h.row hc).2.1 pr bS
  rw[br (by omega)]
 rw[oO,ud,nA,oY (pr:=((ls.length:Int)+c,p-1)) (x:=x) (by rw[show((ls.length:Int)+(c:Int)).toNat=ls.length+c by omega,aI hi,hxx])] at t0
 rw[oO,ud,hs,nA,oY (pr:=((ls.length:Int)+c,p-1)) (x:=y) (by rw[show((ls.length:Int)+(c:Int)).toNat=ls.length+c by omega,cg hi])] at t1
 obtain⟨a,ha⟩:=Ej t0
 obtain⟨b,hb⟩:=Ej t1
 have e:aQ [] (W.map some)=0:=rfl
 have e2:aQ [] ((W.set (ls.length+c) y).map some)=0:=rfl
 rw[e] at ha
 rw[e2] at hb
 have hd:x-y=p*(b-a+x-y):=by
  have h1:(p-1)*x=p*x-x:=by rw[qG,m7]
  have h2:(p-1)*y=p*y-y:=by rw[qG,m7]
  have h3:p*(b-a+x-y)=p*b-p*a+p*x-p*y:=by grind
  dsimp only at ha hb
  rw[h1] at ha
  rw[h2] at hb
  rw[h3]
  omega
 rcases Int.lt_trichotomy (b-a+x-y) 0 with z|z|z
 ·have:p*(b-a+x-y)<=p*(-1):=q9 (by omega) (by omega)
  omega
 ·rw[z] at hd;omega
 ·have:p*1<=p*(b-a+x-y):=q9 (by omega) (by omega)
  omega
theorem JH{W ls:List Int}(h:∀i<ls.length,W[i]?=ls[i]?):∀row:List Int,(∀x∈row,0<=x/\x<ls.length)->aQ (row.map fun x=>(x,(1:Int))) (W.map some)=(row.map fun x=>ls.getD x.toNat 0).sum
  |[],_=>rfl
  | x :: r, hr => by
    have hx:=hr x (bV ..)
    rw[bx,nA,oY (pr:=(x,(1:Int))) (x:=ls.getD x.toNat 0) (by rw[h _ (by omega),dW,aI (by omega)];rfl),JH h r fun y hy=>hr y (cH _ hy),bx,t6]
    simp only[m7]
theorem bf.pre(_:bf p ls rows):∀i<ls.length,(ay p ls rows rows.length)[i]?=ls[i]?:=fun i hi=>by
 have:=vU (p:=p) (ls:=ls) (rows:=rows) (c:=0) rows.length i (by omega)
 rwa[tL] at this
def kc(W:List Int)(k c:Nat):Int:=if c=0 then 0 else W.getD (k+c-1) 0
theorem bf.last(h:bf p ls rows){c:Nat}(hc:c<rows.length):(kc (ay p ls rows rows.length) ls.length c+((rows.getD c []).map fun x=>ls.getD x.toNat 0).sum)%p=kc (ay p ls rows rows.length) ls.length (c+1):=by
 have k0:=h.k0
 have e1:kc (ay p ls rows rows.length) ls.length (c+1)=aQ (fK ls.length c (rows.getD c [])) ((ay p ls rows rows.length).map some)%p:=by
  unfold kc
  rw[if_neg (by omega),show ls.length+(c+1)-1=ls.length+c by omega,dW,h.at hc];rfl
 rw[e1]
 unfold fK
 rw[eZ,ud,JH h.pre _ (h.row hc).2.1]
 congr 1
 unfold kc
 by_cases z:c=0
 ·rw[if_pos z,if_neg (by omega),Int.zero_add]
  exact(um _).symm
 ·have hW:=h.j4
  rw[if_neg z,if_pos (by omega),bx,nA,oY (pr:=((ls.length:Int)+c-1,(1:Int))) (x:=(ay p ls rows rows.length).getD (ls.length+c-1) 0) (by rw[show((ls.length:Int)+(c:Int)-1).toNat=ls.length+c-1 by omega,dW,aI (by omega)];rfl)]
  show _=_+(1*_+0)
  rw[m7,um,Int.add_comm]
theorem bf.VZ(h:bf p ls rows){c:Nat}(hc:c<rows.length):(ay p ls rows rows.length)[ls.length+c]?=some (kc (ay p ls rows rows.length) ls.length (c+1)):=by
 have hW:=h.j4
 unfold kc
 rw[if_neg (by omega),show ls.length+(c+1)-1=ls.length+c by omega,dW,aI (by omega)];rfl
theorem bf.Rn(h:bf p ls rows):(ay p ls rows rows.length).take ls.length=ls:=by
 apply jX
 intro i
 by_cases c:i<ls.length
 ·rw[za c,h.pre i c]
 ·rw[List.getElem?_take_eq_none (by omega),gM (by omega)]
theorem bf.EF(h:bf p ls rows){os:Wo}(hl:os.length=rows.length)(hos:∀(i:Nat) x,os[i]?=some (some x)->(ay p ls rows rows.length)[ls.length+i]?=some x):Agree (ay p ls rows rows.length) (ls.map some++os):=fun i x e=>by
 by_cases c:i<ls.length
 ·rw[fF (by rw[ak];exact c),bI,aI c] at e
  cases e
  rw[h.pre i c,aI c]
 ·rw[fX (by rw[ak];omega),ak] at e
  have:=hos _ x e
  rwa[show ls.length+(i-ls.length)=i by omega] at this
theorem bf.FP(h:bf p ls rows){os:Wo}(hl:os.length=rows.length)(hos:∀(i:Nat) x,os[i]?=some (some x)->(ay p ls rows rows.length)[ls.length+i]?=some x):dJ p (bB p ls.length rows) (ls.map some++os)=(ay p ls rows rows.length).map some:=
 h.ends (by rw[c7,ak,hl]) (h.EF hl hos) fun i hi=>by
  rw[fF (by rw[ak];exact hi),bI,aI hi]
  intro z;cases z
theorem bf.I0(h:bf p ls rows){os:Wo}(hl:os.length=rows.length)(hos:∀(i:Nat) x,os[i]?=some (some x)->(ay p ls rows rows.length)[ls.length+i]?=some x):gG (ls.map some++os):=fun x hx=>by
 obtain⟨i,hi⟩:=pI hx
 have:=h.nH x (eY (h.EF hl hos i x hi))
 have:=h.iI
 unfold Sm;omega
theorem bf.Sj(h:bf p ls rows){os:Wo}(hl:os.length=rows.length)(hn:∀(i:Nat) o,os[i]?=some o->o=none):ls.map some++os=cB (ay p ls rows rows.length) ls.length rows.length 0:=by
 have hW:=h.j4
 apply jX
 intro i
 by_cases c:i<ls.length
 ·rw[mR (by omega),if_pos (by omega),fF (by rw[ak];exact c),bI,<-h.pre i c,aI (by omega),dW,aI (by omega)];rfl
 ·rw[fX (by rw[ak];omega),ak]
  by_cases c2:i<ls.length+rows.length
  ·rw[mR c2,if_neg (by omega),aI (by omega),hn _ _ (aI (by omega))]
  ·rw[gM (by omega),gM (by rw[kZ];omega)]
def qK(p:Int)(ls:List Int)(rows:List (List Int)):List bP:=(List.range rows.length).map fun(c:Nat)=>((ls.length:Int)+(c:Int),(c:Int),(ay p ls rows rows.length).getD (ls.length+c) 0)
theorem bf.NT(h:bf p ls rows):fM p (bB p ls.length rows) (cB (ay p ls rows rows.length) ls.length rows.length 0)=(qK p ls rows).map fun t=>[t]:=by
 rw[h.IP rows.length 0 (by omega),<-List.range_eq_range']
 unfold qK
 rw[iz];rfl
end
end L2
set_option maxRecDepth 100000
set_option maxHeartbeats 8000000
namespace K67
open PySem L2
def top(i:Nat):Stmt:=PySem.Challenge.pw_fewchecks_k67_whole_words_laid.main.body.getD i (.Pass ⟨0,0,0,0⟩)
abbrev WD:Stmt:=top 0
abbrev ya:Stmt:=top 2
abbrev Ci:Stmt:=top 3
abbrev xu:Stmt:=top 4
abbrev sY:Stmt:=top 6
abbrev tN:Stmt:=top 7
abbrev zU:Stmt:=top 8
abbrev tO:Stmt:=top 10
abbrev Bc:Stmt:=top 11
abbrev vH:Stmt:=top 12
abbrev Xk:Stmt:=top 13
abbrev yv:Stmt:=top 15
abbrev uA:Stmt:=top 16
abbrev tH:Stmt:=top 17
abbrev vK:Stmt:=top 18
abbrev By:Stmt:=top 20
abbrev vX:Stmt:=top 22
abbrev Cc:Stmt:=top 23
abbrev CJ:Stmt:=top 24
abbrev uI:Stmt:=top 25
abbrev Bs:Stmt:=top 26
abbrev rW:Stmt:=top 27
abbrev Cv:Stmt:=top 28
abbrev uu:Stmt:=top 29
abbrev qp:Stmt:=top 30
abbrev rC:Stmt:=top 31
abbrev oK:Stmt:=top 32
abbrev vW:Stmt:=top 33
abbrev lE:Stmt:=top 34
abbrev oE:Stmt:=inClass (top 19) 0
abbrev oX:Stmt:=inClass (top 19) 1
abbrev ow:Stmt:=inClass (top 19) 2
abbrev pW:Stmt:=inClass (top 19) 5
local macro_rules| `(tactic|walk_at "d0")=> `(tactic|first|omega|assumption|decide|(unfold Sm at*;omega)|(unfold vf;omega)|(unfold Bp;decide)|(unfold Bp;omega))
local macro_rules| `(tactic|walk_at "ds")=> `(tactic|((try dsimp only);first|walk_at "d0" |(refine And.intro ?_ ?_<;>walk_at "d0")|(refine Or.inl ?_;walk_at "d0")|(refine Or.inr (And.intro ?_ ?_)<;>walk_at "d0")))
local macro_rules| `(tactic|walk_at "s1")=> `(tactic|with_reducible first
 |refine R.seq ?_|refine R.asg ?_|refine R.nF ?_|refine R.ret ?_|refine R.next ?_|refine R.c ?_|refine R.op ?_|refine R.test ?_|refine R.bl ?_|refine R.tru ?_
 |refine R.and ?_|refine R.Ur ?_|refine R.cb ?_|refine R.call ?_|refine R.nil ?_|refine R.cons ?_
 |refine R.lst ?_|refine R.sl ?_|refine R.VP ?_|refine R.part ?_|refine R.Wj ?_|refine R.bm ?_|refine R.Rj ?_|refine R.Ko ?_|refine R.Vs ?_|refine R.RK ?_|refine R.V7 ?_|refine R.qi ?_
 |refine R.iB ?_|refine R.JY ?_|refine R.NN ?_|refine R.eqNI ?_|refine R.eqIN ?_|refine R.isI ?_|refine R.GS ?_|refine R.Ea ?_|refine R.bits ?_
 |refine tY ?_|refine E3 ?_|refine R.nilE ?_|refine R.NY ?_|refine R.Om ?_|refine R.T6 ?_|refine R.Nu ?_|refine R.iL ?_|refine R.V9 ?_|refine R.comp ?_)
local macro_rules| `(tactic|walk_at "st")=> `(tactic|repeat (first
 |walk_at "s1"
 |((with_reducible refine' R.var ?h0 ?_);(case h0=>rfl))
 |((with_reducible refine' R.rI ?h1 ?_);(case h1=>walk_at "ds"))
 |((with_reducible refine' R.BZ (o:= .lst []) ?h1 ?_);(case h1=>rfl))
 |((with_reducible refine' R.vn ?h0 ?h1 ?_);(case h0=>assumption);(case h1=>rfl))
 |((with_reducible refine' R.ixTM ?h0 ?h1 ?_);(case h0=>assumption);(case h1=>rfl))
 |((with_reducible refine' R.Uw ?h1 ?_);(case h1=>rfl))
 |((with_reducible refine' R.setM ?h0 ?h1 ?_);(case h0=>assumption);(case h1=>rfl))
 |((with_reducible refine' R.Ux ?h0 ?_);(case h0=>assumption))
 |((with_reducible refine' R.lenL ?h0 ?_);(case h0=>assumption))
 |((with_reducible refine' R.TR ?h0 ?h1 ?_);(case h0=>walk_at "ds");(case h1=>walk_at "ds"))
 |((with_reducible refine' R.L5 ?h0 ?_);(case h0=>walk_at "ds"))
 |((with_reducible refine' R.uE ?h0 ?_);(case h0=>assumption))
 |((with_reducible refine' R.gk ?h0 ?_);(case h0=>first|exact R.dT (by omega)|exact R.dTn (by omega)|decide))
 |((with_reducible refine' R.E1 ?h0 ?_);(case h0=>first|exact R.dF (by omega)|exact R.Ew (by omega)|decide))
 |(with_reducible refine R.Se ?_)|(with_reducible refine R.K6 ?_)))
local macro_rules| `(tactic|walk_at "fv")=> `(tactic|first|exact Or.inl rfl|exact Or.inr (Or.inl rfl)|exact Or.inr (Or.inr (Or.inl rfl))|exact Or.inr (Or.inr (Or.inr (Or.inl rfl)))|exact Or.inr (Or.inr (Or.inr (Or.inr rfl))))
local macro_rules| `(tactic|walk_at "d1")=> `(tactic|with_reducible first
 |refine Sv.seq ?_|refine Sv.FQ ?_|refine Sv.asg ?_|refine Sv.VU ?_|refine Sv.nF ?_|refine Sv.ret ?_|refine Sv.next ?_|refine Sv.retN ?_
 |refine Ev.int ?_|refine Ev.bl ?_|refine Ev.aC ?_|refine Ev.iB ?_|refine Ev.Sa ?_|refine Ev.rI ?_|refine Ev.rU ?_|refine Ev.eq ?_|refine Ev.ne ?_|refine Ev.is ?_|refine Ev.V5 ?_|refine Ev.La ?_|refine Ev.Ml ?_|refine Ev.U7 ?_|refine Ev.RJ ?_
 |refine Ev.BR ?_|refine Ev.orV ?_|refine Ev.N3 ?_|refine Tv.test ?_|refine Tv.and ?_|refine Tv.or ?_|refine Tv.not ?_|refine Tv.qi ?_|refine Tv.J5 ?_
 |refine Ev.Qd ?_|refine Ev.lst ?_|refine Av.nil ?_|refine Av.cons ?_|refine Av.Vi ?_|refine Ov.none ?_|refine Ov.some ?_|refine Ev.min2 ?_|refine Ev.max2 ?_|refine Ev.R8 ?_|refine Ev.whole ?_
 |refine R.di ?_|refine R.db ?_|refine R.dl ?_|refine R.dt ?_|refine R.Lq ?_|refine R.O4 ?_|refine R.P5 ?_|refine R.eqni ?_|refine R.eqin ?_|refine R.eqnn ?_|refine R.Q5 ?_
 |refine Gv.pK ?_|refine Gv.Mi ?_|refine Gv.VF ?_|refine Gv.nameT ?_|refine Gv.Jo ?_|refine Gv.S1 ?_|refine Gv.KO ?_|refine tY ?_|refine E3 ?_)
local macro_rules| `(tactic|walk_at "dt")=> `(tactic|repeat (first
 |((with_reducible refine' Sv.Ji ?h0 ?_);(case h0=>rfl))
 |((with_reducible refine' Sv.xG ?h0 ?_);(case h0=>rfl))
 |walk_at "d1"
 |((with_reducible refine' Ev.var ?h0 ?_);(case h0=>rfl))
 |((with_reducible refine' Ev.draw ?h0 ?_);(case h0=>rfl))
 |((with_reducible refine' Ev.ND ?h0 ?_);(case h0=>rfl))
 |((with_reducible refine' Ev.lenOwn ?h0 ?_);(case h0=>rfl))
 |((with_reducible refine' Ev.Bu ?h0 ?_);(case h0=>rfl))
 |((with_reducible refine' Ev.slOwn ?h0 ?_);(case h0=>rfl))
 |((with_reducible refine' Sv.append ?h0 ?_);(case h0=>rfl))
 |((with_reducible refine' Sv.xG ?h0 ?_);(case h0=>rfl))
 |((with_reducible refine' Sv.Ji ?h0 ?_);(case h0=>rfl))
 |((with_reducible refine' Gv.tup ?h0 ?_);(case h0=>rfl))
 |((with_reducible refine' R.at_ ?h0 ?_);(case h0=>first|rfl|assumption))
 |(with_reducible refine Ev.Nj ?_)|(with_reducible refine Ev.Fx ?_)|(with_reducible refine Ev.listOf ?_)|(with_reducible refine Ev.sl ?_)|(with_reducible refine Ev.cat ?_)|(with_reducible refine Ev.Cf ?_)
 |((with_reducible refine' Ev.QF ?h0 ?_);(case h0=>walk_at "fv"))
 |((with_reducible refine' Ev.US ?h0 ?h1 ?_);(case h0=>walk_at "fv");(case h1=>walk_at "fv"))
 |(with_reducible refine Ev.all ?_)|(with_reducible refine Ev.sum ?_)|(with_reducible refine Ev.BZ ?_)
 |((with_reducible refine' R.Uc ?_))
 |((with_reducible refine' R.gk ?h0 ?_);(case h0=>first|exact R.dT (by omega)|exact R.dTn (by omega)|rfl))
 |((with_reducible refine' R.E1 ?h0 ?_);(case h0=>first|exact R.dF (by omega)|exact R.Ew (by omega)|exact bq))
 |((with_reducible refine' R.P7 ?h0 ?_);(case h0=>first|walk_at "ds" |exact HQ rfl))))
local macro_rules| `(tactic|walk_at "wk")=> `(tactic|repeat (first|exact Wk.nil|apply Wk.no|apply Wk.eq))
section
variable{P:Program}{w:World}{K:PySem.W.Frag}{mg:Str->Option Value}{base:Heap}{f:Addr}{fd:FuncData}
theorem jt:ck ["p","b","last_rest","last_times","rest","times","quotient","next_rest","next_times"] ["p","b"] (aM Ci):=⟨rfl,rfl,rfl,by decide+kernel,rfl,by decide+kernel,by decide+kernel⟩
theorem QN(F:bH K "inverse" "inverse" Ci f fd):
  bu P w K mg base bD 1 f fd ["p","b"] Eh:=by
 refine F.ok jt (fun vs H Q E h=>?_) (fun cdv A outer s H vs Q E hr h=>?_)
 ·obtain⟨p,b,rfl,hp,hp3,hb,q⟩:=h
  rfl
 obtain⟨p,b,rfl,hp,hp3,hb,q⟩:=h
 refine⟨_,(@aA _ _ _ _ _ (@aR _ _ (2) _ _ _ _ jt.nd rfl (Or.inl rfl) (pv 0) (by rfl) (by first|exact .inl rfl|exact .inr rfl|assumption)) (@aA _ _ _ _ _ (@aR _ _ (3) _ _ _ _ jt.nd rfl (Or.inl rfl) ao (by rfl) (by first|exact .inl rfl|exact .inr rfl|assumption)) (@aA _ _ _ _ _ (@aR _ _ (4) _ _ _ _ jt.nd rfl (Or.inl rfl) (@aK _ _ _ _ _ _ _ _ iU (pv 1) (pv 0)) (by rfl) (by first|exact .inl rfl|exact .inr rfl|assumption)) (@aA _ _ _ _ _ (@aR _ _ (5) _ _ _ _ jt.nd rfl (Or.inl rfl) ao (by rfl) (by first|exact .inl rfl|exact .inr rfl|assumption)) (@aA _ _ _ _ _ (@DN _ _ _ _ _ _ iO (@cM _ _ _ _ _ _ _ _ lU (pv 4) ao (bM _)) (@aA _ _ _ _ _ (@aR _ _ (6) _ _ _ _ jt.nd rfl (Or.inl rfl) (@aK _ _ _ _ _ _ _ _ qy (pv 2) (pv 4)) (by rfl) (by first|exact .inl rfl|exact .inr rfl|assumption)) (@aA _ _ _ _ _ (@aR _ _ (7) _ _ _ _ jt.nd rfl (Or.inl rfl) (@aK _ _ _ _ _ _ _ _ mw (pv 2) (@aK _ _ _ _ _ _ _ _ ki (pv 6) (pv 4))) (by rfl) (by first|exact .inl rfl|exact .inr rfl|assumption)) (@aA _ _ _ _ _ (@aR _ _ (8) _ _ _ _ jt.nd rfl (Or.inl rfl) (@aK _ _ _ _ _ _ _ _ mw (pv 3) (@aK _ _ _ _ _ _ _ _ ki (pv 6) (pv 5))) (by rfl) (by first|exact .inl rfl|exact .inr rfl|assumption)) (@aA _ _ _ _ _ (@aR _ _ (2) _ _ _ _ jt.nd rfl (Or.inl rfl) (pv 4) (by rfl) (by first|exact .inl rfl|exact .inr rfl|assumption)) (@aA _ _ _ _ _ (@aR _ _ (3) _ _ _ _ jt.nd rfl (Or.inl rfl) (pv 5) (by rfl) (by first|exact .inl rfl|exact .inr rfl|assumption)) (@aA _ _ _ _ _ (@aR _ _ (4) _ _ _ _ jt.nd rfl (Or.inl rfl) (pv 7) (by rfl) (by first|exact .inl rfl|exact .inr rfl|assumption)) (@aJ _ _ _ (@aR _ _ (5) _ _ _ _ jt.nd rfl (Or.inl rfl) (pv 8) (by rfl) (by first|exact .inl rfl|exact .inr rfl|assumption)))))))))) (@aJ _ _ _ (@aZ _ _ _ _ (@aK _ _ _ _ _ _ _ _ iU (pv 3) (pv 0))))))))),?_⟩
 have hp2:=hp.1
 walk_at "st"
 refine Wt (fun σ H1=>H1=H/\∃(L lt r t:Int) (x6 x7 x8:Option V),σ=[some (.int p),some (.int b),some (.int L),some (.int lt),some (.int r),some (.int t),x6,x7,x8]/\Eu p b L lt r t) (fun(σ:St) (_:Hp)=>match σ[4]? with|some (some (V.int r))=>r.toNat|_=>0) ⟨rfl,_,_,_,_,_,_,_,rfl,Eu.start hp2⟩ ?_ ?_
 ·rintro σ H1 ⟨rfl,L,lt,r,t,x6,x7,x8,rfl,E⟩
  obtain⟨t1,t2⟩:=E.tb
  have e1:=E.l0
  have e2:=E.r0
  have e3:=E.lp
  have e4:=E.rp
  walk_at "st"
  refine o8 (fun c=>?_) (fun c=>?_)
  ·have c:r≠0:=of_decide_eq_true c
   have hr:0<r:=by omega
   have q1:0<=L/r:=zP (by omega) (by omega)
   have q2:L/r<=L:=Int.ediv_le_self _ (by omega)
   obtain⟨N1,N2⟩:=E.next hr
   walk_at "st"
   refine⟨⟨rfl,_,_,_,_,_,_,_,rfl,N1⟩,?_⟩
   show(L-L/r*r).toNat<r.toNat
   omega
  ·have c:r=0:=by simpa using c
   subst c
   walk_at "st"
   exact q _ (iW _ (by omega)) (iX _ (by omega)) (E.fin hp hb)
 ·exact fun σ H Q Q' h ⟨v,e,s,k,ek,z⟩=>⟨v,e,s,k,ek,h _ _ z⟩
theorem WB:ck ["p","a","b"] ["p","a","b"] (aM ya):=⟨rfl,rfl,rfl,by decide+kernel,rfl,by decide+kernel,by decide+kernel⟩
theorem J3(F:bH K "over" "over" ya f fd)(UJ:Callee P w K mg base "inverse" 1 ["p","b"] Eh):
  bu P w K mg base bD 2 f fd ["p","a","b"] AA:=by
 refine F.ok WB (fun vs H Q E h=>?_) (fun cdv A outer s H vs Q E hr h=>?_)
 ·obtain⟨p,a,b,rfl,hp,hp3,hb,a1,a2,q⟩:=h
  rfl
 obtain⟨p,a,b,rfl,hp,hp3,hb,a1,a2,q⟩:=h
 refine⟨_,(@aJ _ _ _ (@aZ _ _ _ _ (@aK _ _ _ _ _ _ _ _ iU (@aK _ _ _ _ _ _ _ _ ki (pv 1) (@aY _ _ _ _ _ _ _ _ _ _ UJ (hr.mono (by decide)) (@aa _ _ _ _ _ (pv 0) (@aa _ _ _ _ _ (pv 2) aj rfl) rfl) (by rfl) (by decide) (by rfl) (by rfl))) (pv 0)))),?_⟩
 have hp2:=hp.1
 walk_at "st"
 refine⟨p,b,rfl,hp,hp3,hb,fun u u1 u2 ⟨k,hk⟩=>?_⟩
 walk_at "st"
 refine q _ (iW _ (by omega)) (iX _ (by omega)) ⟨a*k-a*u/p*b,?_⟩
 have e:=pB (a*u) p
 have e2:a*u%p=a*u-p*(a*u/p):=by omega
 have e3:b*(a*u)=a*(u*b):=by rw[pD b,lq]
 rw[e2,mh,e3,hk,Co,BX,mh,<-lq a p k,pD a p,lq p a k,pD b (p*_),lq p]
 omega
theorem rZ:ck ["p","pairs","word","reached","place","factor"] ["p","pairs","word"] (aM xu):=⟨rfl,rfl,rfl,by decide+kernel,rfl,by decide+kernel,by decide+kernel⟩
theorem Nz(F:bH K "total" "total" xu f fd):
    bu P w K mg base bD 1 f fd ["p","pairs","word"] qb:=by
  refine F.ok rZ (fun vs H Q E h=>?_) (fun cdv A outer s H vs Q E hr h=>?_)
  · obtain⟨nb,p,va,vc,prs,wd,rfl,hA,hC,hp,h1,h2,q⟩:=h
    rfl
  obtain⟨nb,p,va,vc,prs,wd,rfl,hA,hC,hp,h1,h2,q⟩:=h
  refine⟨_,(@aA _ _ _ _ _ (@aR _ _ (3) _ _ _ _ rZ.nd rfl (Or.inl rfl) ao (by rfl) (by first|exact .inl rfl|exact .inr rfl|assumption)) (@aA _ _ _ _ _ (@jW _ _ _ _ _ _ _ _ iO rfl (gz (K:=K) rfl (pv 1)) (DK rfl (@j3 _ _ _ _ _ (bN (i:=4) rZ.nd rfl (Or.inl rfl)) (@j3 _ _ _ _ _ (bN (i:=5) rZ.nd rfl (Or.inl rfl)) qo (by rfl)) (by rfl))) (@aJ _ _ _ (@dR _ _ _ _ _ _ _ _ (@cM _ _ _ _ _ _ _ _ Fv (@aT _ _ _ _ _ _ _ cE (pv 2) (pv 4) (fun _ _=>rfl)) k7 (bM _)) (@aJ _ _ _ (@aR _ _ (3) _ _ _ _ rZ.nd rfl (Or.inl rfl) (@aK _ _ _ _ _ _ _ _ iU (@aK _ _ _ _ _ _ _ _ eK (pv 3) (@aK _ _ _ _ _ _ _ _ ki (pv 5) (@aT _ _ _ _ _ _ _ cE (pv 2) (pv 4) (fun _ _=>rfl)))) (pv 0)) (by rfl) (by first|exact .inl rfl|exact .inr rfl|assumption))) eN)) (by intro _;rfl)) (@aJ _ _ _ (@aZ _ _ _ _ (pv 3))))),?_⟩
  obtain⟨a,xs,rfl,na,ha,da⟩:=hA.dU
  obtain⟨c,ws,rfl,nc,hc,dc⟩:=hC.dU
  have kU:=da.length
  rw[ak] at kU
  have ew:=BC dc
  subst ew
  walk_at "st"
  refine R.uE (aS.of ha) ?_
  refine Jl (xs:=xs) (fun i σ H1=>H1=H/\∃(r:Int) (x y:Option V),σ=[some (.int p),some (.ref a),some (.ref c),some (.int r),x,y]/\r=aQ (prs.take i) wd%p) ⟨rfl,0,none,none,rfl,by simp[aQ]⟩ ?_ ?_ ?_
  · rintro i σ H1 hi ⟨rfl,_⟩
    exact aS.of ha
  · rintro i x σ H1 hx ⟨rfl,r,y,z,rfl,hr⟩
    have hi:i<prs.length:=by have:=(bW.mp hx).1;omega
    obtain⟨x',hx',dx⟩:=da.get (i:=i) (by rw[bI,aI hi];rfl)
    rw[hx] at hx';cases hx'
    obtain⟨t,rfl,nt,ht⟩:=Mj dx
    obtain⟨g1,g2,g3⟩:=h1 _ (gx hi)
    have hk:prs[i].fst.toNat<wd.length:=by omega
    have hat:bU (wd.map oG) prs[i].fst=some (oG wd[prs[i].fst.toNat]):=jx g1 (by rw[bI,aI hk];rfl)
    have wu:i9 wd prs[i]=match wd[prs[i].fst.toNat] with|some x=>prs[i].snd*x|none=>0:=by
      unfold i9
      rw[aI hk]
      cases wd[prs[i].fst.toNat]<;>rfl
    have hs2:∀x,wd[prs[i].fst.toNat]=some x->Sm x:=fun x e=>h2 x (by rw[<-e];exact gx hk)
    have hd:=LA (wd:=wd) hi
    refine R.MN (fO.of ht) rfl ?_
    walk_at "st"
    refine R.vn hc hat ?_
    walk_at "st"
    generalize wd[prs[i].fst.toNat]=o at hat wu hs2⊢
    cases o with
    | none =>
      refine R.Ea ?_
      walk_at "st"
      refine⟨rfl,_,_,_,rfl,?_⟩
      rw[hd,wu,hr,um]
    | some x =>
      have RY:=hs2 x rfl
      refine R.GS ?_
      walk_at "st"
      refine R.vn hc hat ?_
      refine R.rI (Or.inr ⟨g3,RY⟩) ?_
      walk_at "st"
      refine⟨rfl,_,_,_,rfl,?_⟩
      rw[hd,wu,hr,Int.emod_add_emod]
  · rintro σ H1 ⟨rfl,r,x,y,rfl,hr⟩
    walk_at "st"
    rw[kU,kQ] at hr
    rw[hr]
    exact q
def Bv:DF:=fun ds Φ=>∃(p k c:Int) (row:List Int),ds=[.int p, .int k, .int c,aO row]/\row.length<=1000/\Φ true (jc (fL p k c row))
theorem Ub:eG Bv:=by
 intro ds Φ Ψ hm z
 obtain⟨p,k,c,r,e,h,q⟩:=hm
 exact⟨p,k,c,r,e,h,z _ _ q⟩
theorem JI:ck ["p","k","c","row","ahead"] ["p","k","c","row"] (aM tN):=⟨rfl,rfl,rfl,by decide+kernel,rfl,by decide+kernel,by decide+kernel⟩
theorem Nv(F:bH K "stair" "stair" tN f fd):
  bu P w K mg base bD 1 f fd ["p","k","c","row"] (bT 4 Bv):=by
 refine F.ok JI (fun vs H Q E h=>h.1) (fun cdv A outer s H vs Q E hr h=>?_)
 obtain⟨nb,ds,Φ,hlive,hds,aE,hF⟩:=iP h
 obtain⟨p,k,c,row,rfl,hl,q⟩:=hF
 refine⟨_,(@aA _ _ _ _ _ (@aR _ _ (4) _ _ _ _ JI.nd rfl (Or.inl rfl) (@xP _ _ _ _ _ _ _ _ (@cM _ _ _ _ _ _ _ _ Et (pv 2) ao (bM _)) (@gC _ _ _ _ (@aa _ _ _ _ _ (@aK _ _ _ _ _ _ _ _ mw (@aK _ _ _ _ _ _ _ _ eK (pv 1) (pv 2)) ao) aj rfl)) (@gC _ _ _ _ aj)) (by rfl) (by first|exact .inl rfl|exact .inr rfl|assumption)) (@aJ _ _ _ (@aZ _ _ _ _ (@aK _ _ _ _ _ _ _ _ nv (gn (dO.of (show eO (aM tN) ["p","k","c","row","ahead"] _ ["place"] [none]=true by decide+kernel)) (gz (K:=K) rfl (@aK _ _ _ _ _ _ _ _ nv (pv 3) (pv 4))) (fun _ _ _ _=>⟨(bN (i:=0) (by show List.Nodup (["place"]:List Str);decide+kernel) rfl (Or.inl rfl)),gp,(@iy _ _ _ _ _ (@aa _ _ _ _ _ (pv 0) (@aa _ _ _ _ _ ao aj rfl) rfl))⟩)) (@gC _ _ _ _ (@aa _ _ _ _ _ (@iy _ _ _ _ _ (@aa _ _ _ _ _ (@aK _ _ _ _ _ _ _ _ eK (pv 1) (pv 2)) (@aa _ _ _ _ _ (@aK _ _ _ _ _ _ _ _ mw (pv 0) ao) aj rfl) rfl)) aj rfl)))))),?_⟩
 refine Sv.i7 hlive hds aE (ρ:=[.d false _, .d false _, .d false _, .d false _, .no]) rfl ?_
 clear aE hds
 have je:(row.map PyData.int).length=row.length:=ak ..
 refine Sv.seq ?_
 refine Sv.uQ (fun ρ'=>∃(ah:List Int) (g:Bool),ah.length<=1/\(if 0<c then[k+c-1] else[])=ah/\ρ'=[.d false (.int p), .d false (.int k), .d false (.int c), .d false (aO row), .d g (aO ah)]) ?_ ?_
 ·walk_at "dt"
  by_cases h0:0<c
  ·walk_at "dt"
   exact⟨[k+c-1],_,by simp,if_pos h0,rfl⟩
  ·walk_at "dt"
   exact⟨[],_,by simp,if_neg h0,rfl⟩
 rintro ρ' ⟨ah,g,hah,eah,rfl⟩
 have hla:(ah.map PyData.int).length=ah.length:=ak ..
 walk_at "dt"
 refine aB.ev (aB.jV (by decide) rfl ?_)
 walk_at "dt"
 have e1:row.map PyData.int++ah.map PyData.int=(row++ah).map PyData.int:=by rw[eZ]
 rw[e1]
 refine⟨by rw[ak,c7];omega,fun v=>eX.rel pairD true (fun i pr=>∃x,(row++ah)[i]?=some x/\pr=(x,1)) ?_ fun prs hpl eS=>?_⟩
 ·rintro i d hd
  obtain⟨x,hx,rfl⟩:=gH hd
  walk_at "dt"
  refine⟨by walk_at "wk",?_⟩
  walk_at "dt"
  exact⟨fun _=>rfl,(x,1),rfl,x,hx,rfl⟩
 rw[ak] at hpl
 have hmap:prs=(row++ah).map fun x=>(x,(1:Int)):=r6 hpl eS
 walk_at "dt"
 refine⟨by rw[ak,hpl,c7];show _+1<=10000;omega,?_⟩
 show Φ _ (.list (prs.map pairD++[pairD (k+c,p-1)]))
 rw[show prs.map pairD++[pairD (k+c,p-1)]=(fL p k c row).map pairD by unfold fL;rw[eah,hmap];simp]
 exact q
def uv:DF:=fun ds Φ=>∃(p k:Int) (rows:List (List Int)),ds=[.int p, .int k, .list (rows.map aO)]/\rows.length<=1000/\(∀r∈rows,r.length<=1000)/\Φ true (eW p (k+rows.length) (bB p k rows))
theorem DU:eG uv:=by
 intro ds Φ Ψ hm z
 obtain⟨p,k,rows,e,h1,h2,q⟩:=hm
 exact⟨p,k,rows,e,h1,h2,z _ _ q⟩
theorem RO:ck ["p","k","rows"] ["p","k","rows"] (aM sY):=⟨rfl,rfl,rfl,by decide+kernel,rfl,by decide+kernel,by decide+kernel⟩
theorem VQ(F:bH K "staired" "staired" sY f fd)(RZ:Callee P w K mg base "stair" 1 ["p","k","c","row"] (bT 4 Bv))(bE:mg "len"=none)(xo:mg "enumerate"=none):
  bu P w K mg base bD 2 f fd ["p","k","rows"] (bT 3 uv):=by
 refine F.ok RO (fun vs H Q E h=>h.1) (fun cdv A outer s H vs Q E hr h=>?_)
 obtain⟨nb,ds,Φ,hlive,hds,aE,hF⟩:=iP h
 obtain⟨p,k,rows,rfl,hl,hR,q⟩:=hF
 refine⟨_,(@aJ _ _ _ (@aZ _ _ _ _ (@iy _ _ _ _ _ (@aa _ _ _ _ _ (pv 0) (@aa _ _ _ _ _ (@aK _ _ _ _ _ _ _ _ eK (pv 1) (@bL _ _ _ _ _ _ _ _ (fQ K) gZ rfl bE gE (@aa _ _ _ _ _ (pv 2) aj rfl) (by decide) (by decide) (by rfl) (by rfl))) (@aa _ _ _ _ _ (gn (dO.of (show eO (aM sY) ["p","k","rows"] _ ["c","row","p","k"] [none,none,some 0,some 1]=true by decide+kernel)) (@RB _ (K) _ _ _ _ _ _ _ rfl rfl xo (pv 2) (by rfl)) (fun _ _ _ _=>⟨(@tZ _ (K) _ _ _ (2) _ rfl rfl (@j3 _ _ _ _ _ (bN (i:=0) (by show List.Nodup (["c","row","p","k"]:List Str);decide+kernel) rfl (Or.inl rfl)) (@j3 _ _ _ _ _ (bN (i:=1) (by show List.Nodup (["c","row","p","k"]:List Str);decide+kernel) rfl (Or.inl rfl)) qo (by rfl)) (by rfl)) (by rfl) (by rfl)),gp,(@aY _ _ _ _ _ _ _ _ _ _ RZ (hr.mono (by decide)) (@aa _ _ _ _ _ (pv 2) (@aa _ _ _ _ _ (pv 3) (@aa _ _ _ _ _ (pv 0) (@aa _ _ _ _ _ (pv 1) aj rfl) rfl) rfl) rfl) (by rfl) (by decide) (by rfl) (by rfl))⟩)) aj rfl) rfl) rfl)))),?_⟩
 refine Sv.i7 hlive hds aE (ρ:=[.d false _, .d false _, .d false _]) rfl ?_
 clear aE hds
 have je:(rows.map aO).length=rows.length:=ak ..
 walk_at "dt"
 refine aB.ev (aB.Tt (by decide) rfl ?_)
 walk_at "dt"
 refine fun v=>eX.rel jc true (fun i prs=>prs=fL p k i (rows.getD i [])) ?_ fun os cS hos=>?_
 ·rintro i d ⟨e,he,rfl⟩
  obtain⟨r,hr1,rfl⟩:=gH he
  walk_at "dt"
  refine⟨by walk_at "wk",?_⟩
  refine Ev.e7 Ub ?_
  walk_at "dt"
  refine⟨rfl,p,k,(i:Int),r,rfl,hR r (eY hr1),(fun _=>rfl),_,rfl,?_⟩
  rw[dW,hr1];rfl
 rw[je] at cS
 have e:os=bB p k rows:=by
  apply jX
  intro i
  unfold bB
  by_cases hi:i<os.length
  ·rw[bI,uy (by omega),aI hi,hos i _ (aI hi)];rfl
  ·rw[gM (by omega),gM (by rw[ak,pR];omega)]
 rw[e]
 walk_at "dt"
 rw[<-je] at q
 exact q
def uc:DF:=fun ds Φ=>∃(p:Int) (ls:List Int) (rows:List (List Int)),ds=[.int p, .int (ls.length:Int), .list (rows.map aO),aO ls]/\bf p ls rows/\Φ true (aO (ay p ls rows rows.length))
theorem D7:eG uc:=by
 intro ds Φ Ψ hm z
 obtain⟨p,ls,rows,e,h1,q⟩:=hm
 exact⟨p,ls,rows,e,h1,z _ _ q⟩
theorem yD:ck ["p","k","rows","letters","word","pairs"] ["p","k","rows","letters"] (aM zU):=⟨rfl,rfl,rfl,by decide+kernel,rfl,by decide+kernel,by decide+kernel⟩
theorem LG(F:bH K "laid" "laid" zU f fd)(AM:Callee P w K mg base "staired" 2 ["p","k","rows"] (bT 3 uv))(qH:Callee P w K mg base "total" 1 ["p","pairs","word"] qb)(cK:mg "list"=none):
  bu P w K mg base bD 3 f fd ["p","k","rows","letters"] (bT 4 uc):=by
 refine F.ok yD (fun vs H Q E h=>h.1) (fun cdv A outer s H vs Q E hr h=>?_)
 obtain⟨nb,ds,Φ,hlive,hds,aE,hF⟩:=iP h
 obtain⟨p,ls,rows,rfl,hX,q⟩:=hF
 refine⟨_,(@aA _ _ _ _ _ (@aR _ _ (4) _ _ _ _ yD.nd rfl (Or.inl rfl) (@iV _ _ _ _ _ _ _ _ (gR K) lC rfl cK iA (@aa _ _ _ _ _ (pv 3) aj rfl) (by decide) (by decide) (by rfl) (by rfl)) (by rfl) (by first|exact .inl rfl|exact .inr rfl|assumption)) (@aA _ _ _ _ _ (@jW _ _ _ _ _ _ _ _ iO rfl (gz (K:=K) rfl (@aT _ _ _ _ _ _ (dX K) eU (@aY _ _ _ _ _ _ _ _ _ _ AM (hr.mono (by decide)) (@aa _ _ _ _ _ (pv 0) (@aa _ _ _ _ _ (pv 1) (@aa _ _ _ _ _ (pv 2) aj rfl) rfl) rfl) (by rfl) (by decide) (by rfl) (by rfl)) ao (fun _ _=>rfl))) (bN (i:=5) yD.nd rfl (Or.inl rfl)) (@aJ _ _ _ (@vA _ _ _ _ (tF vQ uB u7 qE (pv 4) (@aa _ _ _ _ _ (@aY _ _ _ _ _ _ _ _ _ _ qH (hr.mono (by decide)) (@aa _ _ _ _ _ (pv 0) (@aa _ _ _ _ _ (@nV _ _ _ _ _ _ _ _ _ (kY K) mW (pv 5) n9 (@mU _ _ _ (@Er _ _ _ _ _ _ Ik ao))) (@aa _ _ _ _ _ (pv 4) aj rfl) rfl) rfl) (by rfl) (by decide) (by rfl) (by rfl)) aj rfl)) (by rfl))) (by intro _;rfl)) (@aJ _ _ _ (@aZ _ _ _ _ (pv 4))))),?_⟩
 refine Sv.i7 hlive hds aE (ρ:=[.d false _, .d false _, .d false _, .d false _, .no, .no]) rfl ?_
 clear aE hds
 have p2:=hX.hp.1
 have iI:=hX.iI
 have k1:=hX.k1
 have ml:=hX.ml
 refine Sv.seq ?_
 refine Sv.zT (aB.listOf ?_)
 walk_at "dt"
 intro A4
 rw[wB,Bb]
 refine Sv.seq ?_
 refine Sv.forL ?_
 walk_at "dt"
 refine Ev.e7 DU ?_
 walk_at "dt"
 refine⟨rfl,p,ls.length,rows,rfl,by omega,fun r hr=>by have:=(hX.rk r hr).2.2;omega,?_⟩
 walk_at "dt"
 refine fun v=>⟨fun i ρ=>∃x5:Sl,ρ=[.d false (.int p), .d false (.int (ls.length:Int)), .d false (.list (rows.map aO)), .d false (aO ls), .own A4 true ((ay p ls rows i).map .int),x5],⟨_,rfl⟩,?_,?_⟩
 ·rintro i d ρ hd ⟨x5,rfl⟩
  obtain⟨prs,eS,rfl⟩:=gH hd
  have hil:i<rows.length:=by have:=(bW.mp eS).1;rwa[m9] at this
  rw[rV hil] at eS
  cases eS
  have hlen:=ou (p:=p) (ls:=ls) (rows:=rows) i
  have uJ:=hX.row hil
  have hA:=rj (c:=i) (show(0:Int)<=ls.length by omega) uJ.2.1
  have je:((ay p ls rows i).map PyData.int).length=ls.length+i:=by rw[ak,hlen]
  have Lz:gy ((fL p ls.length i (rows.getD i [])).map pairD) none (some (-1))=(fK ls.length i (rows.getD i [])).map pairD:=by
   unfold gy HT.dw
   simp only[oJ,B8]
   rw[oO,eZ,List.take_left' ?_]
   rw[c7]
   simp
   omega
  have nh:∀w:List Int,aO w=fN (w.map some):=fun w=>by show PyData.list _=PyData.list _;rw[iz];rfl
  refine Gv.Jo ?_
  refine Sv.append rfl ?_
  refine Ev.lend 4 rfl ?_
  refine Ev.total ?_
  walk_at "dt"
  rw[Lz]
  refine⟨p,fK ls.length i (rows.getD i []),(ay p ls rows i).map some,by show[_,_,aO (ay p ls rows i)]=_;rw[nh],by omega,fun pr bS=>?_,fun x hx=>?_,?_⟩
  ·obtain⟨x,hx,rfl⟩:=cZ.mp bS
   have:=hA _ bS
   refine⟨this.1,by rw[ak,hlen];omega,by show Sm 1;unfold Sm;omega⟩
  ·obtain⟨y,hy,e⟩:=cZ.mp hx
   cases e
   have:=Ak (rows:=rows) (show 0<p by omega) hX.lr i x hy
   unfold Sm;omega
  refine⟨rfl,?_⟩
  refine⟨by rw[je];omega,?_⟩
  simp only[ay,eZ,bx,k9]
  exact⟨_,rfl⟩
 ·rintro ρ ⟨x5,rfl⟩
  rw[show((bB p ls.length rows).map jc).length=rows.length by rw[ak,m9]]
  walk_at "dt"
  exact q
def Am:DF:=fun ds Φ=>∃(p:Int) (prs:az) (wd:Wo),ds=[.int p,jc prs,fN wd]/\0<p/\nE prs wd.length/\gG wd/\Φ true (c8 (pC p prs wd))
theorem J1:eG Am:=by
 intro ds Φ Ψ hm z
 obtain⟨p,prs,wd,e,h1,h2,h3,q⟩:=hm
 exact⟨p,prs,wd,e,h1,h2,h3,z _ _ q⟩
theorem xr:ck ["p","pairs","word","place","factor"] ["p","pairs","word"] (aM Bc):=⟨rfl,rfl,rfl,by decide+kernel,rfl,by decide+kernel,by decide+kernel⟩
theorem LO(F:bH K "sum_of" "sum_of" Bc f fd)(qH:Callee P w K mg base "total" 1 ["p","pairs","word"] qb):
    bu P w K mg base bD 2 f fd ["p","pairs","word"] (bT 3 Am):=by
  refine F.ok xr (fun vs H Q E h=>h.1) (fun cdv A outer s H vs Q E hr h=>?_)
  obtain⟨nb,ds,Φ,hlive,hds,aE,hF⟩:=iP h
  obtain⟨p,prs,wd,rfl,hp,h1,h2,q⟩:=hF
  refine⟨_,(@aA _ _ _ _ _ (@jW _ _ _ _ _ _ _ _ iO rfl (gz (K:=K) rfl (pv 1)) (@tZ _ (K) _ _ _ (2) _ rfl rfl (@j3 _ _ _ _ _ (bN (i:=3) xr.nd rfl (Or.inl rfl)) (@j3 _ _ _ _ _ (bN (i:=4) xr.nd rfl (Or.inl rfl)) qo (by rfl)) (by rfl)) (by rfl) (by rfl)) (@aJ _ _ _ (@dR _ _ _ _ _ _ _ _ (@cM _ _ _ _ _ _ _ _ Jk (@aT _ _ _ _ _ _ (fh K) cE (pv 2) (pv 3) (fun _ _=>rfl)) k7 (bM _)) (@aJ _ _ _ (@aZ _ _ _ _ k7)) eN)) (by intro _;rfl)) (@aJ _ _ _ (@aZ _ _ _ _ (@aY _ _ _ _ _ _ _ _ _ _ qH (hr.mono (by decide)) (@aa _ _ _ _ _ (pv 0) (@aa _ _ _ _ _ (pv 1) (@aa _ _ _ _ _ (pv 2) aj rfl) rfl) rfl) (by rfl) (by decide) (by rfl) (by rfl))))),?_⟩
  refine Sv.i7 hlive hds aE (ρ:=[.d false _, .d false _, .d false _, .no, .no]) rfl ?_
  clear aE hds
  walk_at "dt"
  refine Sv.forL (Ev.var rfl ⟨_,rfl,fun v=>?_⟩)
  refine⟨fun i ρ=>(∃x y,ρ=[.d false (.int p), .d false (jc prs), .d false (fN wd),x,y])/\∀pr∈prs.take i,wd[pr.1.toNat]?≠some none,⟨⟨_,_,rfl⟩,by simp⟩,?_,?_⟩
  · rintro i d ρ hd ⟨⟨x,y,rfl⟩,hI⟩
    obtain⟨pr,bS,rfl⟩:=gH hd
    obtain⟨g1,g2,g3⟩:=h1 pr (eY bS)
    obtain⟨o,ho,hat⟩:=Fw (xs:=wd) c8 g1 g2 rfl
    walk_at "dt"
    rw[Gr]
    cases o with
    | none =>
      walk_at "dt"
      have e:pC p prs wd=none:=if_pos ⟨pr,eY bS,ho⟩
      rw[e] at q
      exact q
    | some z =>
      walk_at "dt"
      refine⟨⟨_,_,rfl⟩,fun Sn h'=>?_⟩
      rw[take_snoc bS] at h'
      rcases fR.mp h' with h'|h'
      · exact hI Sn h'
      · rw[aP.mp h',ho];exact fun z=>by cases z
  · rintro ρ ⟨⟨x,y,rfl⟩,hI⟩
    walk_at "dt"
    refine Ev.total ?_
    walk_at "dt"
    refine⟨p,prs,wd,rfl,hp,h1,h2,?_⟩
    have e:pC p prs wd=some (aQ prs wd%p):=if_neg fun⟨pr,h,e⟩=>hI pr (by rw[ak,kQ];exact h) e
    rw[e] at q
    exact q
def yQ:DF:=fun ds Φ=>∃(p n:Int) (cs:List az) (wd:Wo),ds=[eW p n cs,fN wd]/\0<p/\cs.length<=10000/\(∀prs∈cs,nE prs wd.length)/\gG wd/\Φ true (.list (cs.map fun prs=>c8 (pC p prs wd)))
theorem TN:eG yQ:=by
 intro ds Φ Ψ hm z
 obtain⟨p,n,cs,wd,e,h1,h2,h3,h4,q⟩:=hm
 exact⟨p,n,cs,wd,e,h1,h2,h3,h4,z _ _ q⟩
theorem Wr:ck ["net","word"] ["net","word"] (aM tO):=⟨rfl,rfl,rfl,by decide+kernel,rfl,by decide+kernel,by decide+kernel⟩
theorem VA(F:bH K "sums" "sums" tO f fd)(Qw:Callee P w K mg base "sum_of" 2 ["p","pairs","word"] (bT 3 Am)):
  bu P w K mg base bD 3 f fd ["net","word"] (bT 2 yQ):=by
 refine F.ok Wr (fun vs H Q E h=>h.1) (fun cdv A outer s H vs Q E hr h=>?_)
 obtain⟨nb,ds,Φ,hlive,hds,aE,hF⟩:=iP h
 obtain⟨p,n,cs,wd,rfl,hp,hl,h1,h2,q⟩:=hF
 refine⟨_,(@aJ _ _ _ (@aZ _ _ _ _ (gn (dO.of (show eO (aM tO) ["net","word"] _ ["pairs","net","word"] [none,some 0,some 1]=true by decide+kernel)) (gz (K:=K) rfl (@aT _ _ _ _ _ _ (dX K) eU (pv 0) ao (fun _ _=>rfl))) (fun _ _ _ _=>⟨(bN (i:=0) (by show List.Nodup (["pairs","net","word"]:List Str);decide+kernel) rfl (Or.inl rfl)),gp,(@aY _ _ _ _ _ _ _ _ _ _ Qw (hr.mono (by decide)) (@aa _ _ _ _ _ (@aT _ _ _ _ _ _ (dX K) eU (pv 1) ao (fun _ _=>rfl)) (@aa _ _ _ _ _ (pv 0) (@aa _ _ _ _ _ (pv 2) aj rfl) rfl) rfl) (by rfl) (by decide) (by rfl) (by rfl))⟩)))),?_⟩
 refine Sv.i7 hlive hds aE (ρ:=[.d false _, .d false _]) rfl ?_
 clear aE hds
 walk_at "dt"
 refine aB.ev (aB.jV (by decide) rfl ?_)
 walk_at "dt"
 refine⟨by rw[ak];exact hl,fun v=>⟨true,fun i ds=>ds=(cs.take i).map fun prs=>c8 (pC p prs wd),rfl,?_,?_⟩⟩
 ·rintro i d ds hd hl' rfl
  obtain⟨prs,eS,rfl⟩:=gH hd
  walk_at "dt"
  refine⟨by walk_at "wk",?_⟩
  walk_at "dt"
  refine Ev.e7 J1 ?_
  walk_at "dt"
  refine⟨rfl,p,prs,wd,rfl,hp,h1 prs (eY eS),h2,fun _=>rfl,?_⟩
  show _=List.map _ _
  rw[take_snoc eS,eZ]
  rfl
 ·rintro ds hl' rfl
  rw[ak,kQ]
  exact q
def Br:DF:=fun ds Φ=>∃(p n:Int) (cs:List az) (wd:Wo),ds=[eW p n cs,fN wd]/\0<p/\cs.length<=10000/\(∀prs∈cs,nE prs wd.length)/\gG wd/\Φ true (.bool (decide (nN p cs wd)))
theorem IJ:eG Br:=by
 intro ds Φ Ψ hm z
 obtain⟨p,n,cs,wd,e,h1,h2,h3,h4,q⟩:=hm
 exact⟨p,n,cs,wd,e,h1,h2,h3,h4,z _ _ q⟩
theorem Th:ck ["net","word"] ["net","word"] (aM vH):=⟨rfl,rfl,rfl,by decide+kernel,rfl,by decide+kernel,by decide+kernel⟩
theorem PD(F:bH K "is_true" "is_true" vH f fd)(Uu:Callee P w K mg base "sums" 3 ["net","word"] (bT 2 yQ))(iZ:mg "all"=none):
  bu P w K mg base bD 4 f fd ["net","word"] (bT 2 Br):=by
 refine F.ok Th (fun vs H Q E h=>h.1) (fun cdv A outer s H vs Q E hr h=>?_)
 obtain⟨nb,ds,Φ,hlive,hds,aE,hF⟩:=iP h
 obtain⟨p,n,cs,wd,rfl,hp,hl,h1,h2,q⟩:=hF
 refine⟨_,(@aA _ _ _ _ _ (@dR _ _ _ _ _ _ _ _ (cM (Vt (K:=K) (by rfl)) k7 (pv 1) (by with_unfolding_all rfl)) (@aJ _ _ _ (@aZ _ _ _ _ fU)) eN) (@aJ _ _ _ (@aZ _ _ _ _ (@bL _ _ _ _ _ _ _ _ (sH K) (yg rfl) rfl iZ BJ (@aa _ _ _ _ _ (gn (dO.of (show eO (aM vH) ["net","word"] _ ["reached"] [none]=true by decide+kernel)) (gz (K:=K) rfl (@aY _ _ _ _ _ _ _ _ _ _ Uu (hr.mono (by decide)) (@aa _ _ _ _ _ (pv 0) (@aa _ _ _ _ _ (pv 1) aj rfl) rfl) (by rfl) (by decide) (by rfl) (by rfl))) (fun _ _ _ _=>⟨(bN (i:=0) (by show List.Nodup (["reached"]:List Str);decide+kernel) rfl (Or.inl rfl)),gp,(@lV _ _ _ _ _ _ _ _ jf (pv 0) ao (bM _))⟩)) aj rfl) (by decide) (by decide) (by rfl) (by rfl))))),?_⟩
 refine Sv.i7 hlive hds aE (ρ:=[.d false _, .d false _]) rfl ?_
 clear aE hds
 refine Sv.seq ?_
 refine Sv.nF ?_
 refine Tv.test ?_
 refine Ev.Up ?_
 walk_at "dt"
 refine⟨wd,rfl,?_⟩
 by_cases c:none∈wd
 ·rw[decide_eq_true c]
  walk_at "dt"
  rw[decide_eq_false (show¬nN p cs wd from fun h=>h.1 c)] at q
  exact q
 ·rw[decide_eq_false c]
  walk_at "dt"
  refine aB.ev (aB.jV (by decide) rfl ?_)
  refine Ev.e7 TN ?_
  walk_at "dt"
  refine⟨rfl,p,n,cs,wd,rfl,hp,hl,h1,h2,_,rfl,by rw[ak];exact hl,fun v=>?_⟩
  have hno:∀prs∈cs,¬uV prs wd:=fun prs _ ⟨pr,_,e⟩=>c (eY e)
  refine eX.rel PyData.bool true (fun i o=>∃prs,cs[i]?=some prs/\o=decide (aQ prs wd%p=0)) ?_ fun os cS hos=>?_
  ·rintro i d hd
   obtain⟨prs,eS,rfl⟩:=gH hd
   have es:pC p prs wd=some (aQ prs wd%p):=if_neg (hno prs (eY eS))
   rw[es]
   show Gv _ _ _ _ (PyData.int (aQ prs wd%p)) _
   walk_at "dt"
   refine⟨by walk_at "wk",?_⟩
   walk_at "dt"
   exact⟨prs,eS,rfl⟩
  rw[ak] at cS
  have ho:=r6 (φ:=fun prs:az=>decide (aQ prs wd%p=0)) cS hos
  refine⟨os,rfl,?_⟩
  have e:os.all id=decide (nN p cs wd):=by
   rw[ho,List.all_map,jS,jJ,decide_eq_true_eq]
   constructor
   ·intro h
    exact⟨c,fun prs hp=>by have:=h prs hp;simpa using this⟩
   ·intro h prs hp
    have:=h.2 prs hp
    simpa using this
  rw[e]
  exact q
def wN:DF:=fun ds Φ=>∃(p rest:Int) (prs:az) (wd:Wo),ds=[.int p,jc prs, .int rest,fN wd]/\iJ p/\p<10^40/\0<=rest/\rest<p/\prs.length<=10000/\nE prs wd.length/\z5 p prs/\gG wd/\Φ true (Fi (cL p prs rest wd))
theorem MO:eG wN:=by
 intro ds Φ Ψ hm z
 obtain⟨p,r,prs,wd,e,h1,h2,h3,h4,h5,h6,h7,h8,q⟩:=hm
 exact⟨p,r,prs,wd,e,h1,h2,h3,h4,h5,h6,h7,h8,z _ _ q⟩
theorem tw:ck ["p","pairs","rest","word","lost","place","factor"] ["p","pairs","rest","word"] (aM uA):=⟨rfl,rfl,rfl,by decide+kernel,rfl,by decide+kernel,by decide+kernel⟩
theorem TQ(F:bH K "told_for" "told_for" uA f fd)(R0:Callee P w K mg base "over" 2 ["p","a","b"] AA)(qH:Callee P w K mg base "total" 1 ["p","pairs","word"] qb)(bE:mg "len"=none):
    bu P w K mg base bD 3 f fd ["p","pairs","rest","word"] (bT 4 wN):=by
  refine F.ok tw (fun vs H Q E h=>h.1) (fun cdv A outer s H vs Q E hr h=>?_)
  obtain⟨nb,ds,Φ,hlive,hds,aE,hF⟩:=iP h
  obtain⟨p,rest,prs,wd,rfl,hp,UA,r0,r1,hl,hP,G0,hW,q⟩:=hF
  refine⟨_,(@aA _ _ _ _ _ (Cy (i:=4) tw.nd rfl rfl (dO.of (show eO (aM uA) ["p","pairs","rest","word","lost","place","factor"] _ ["place","factor","word"] [none,none,some 3]=true by decide+kernel)) (gz (K:=K) rfl (pv 1)) (fun _ _ _ _=>⟨(@tZ _ (K) _ _ _ (2) _ rfl rfl (@j3 _ _ _ _ _ (bN (i:=0) (by show List.Nodup (["place","factor","word"]:List Str);decide+kernel) rfl (Or.inl rfl)) (@j3 _ _ _ _ _ (bN (i:=1) (by show List.Nodup (["place","factor","word"]:List Str);decide+kernel) rfl (Or.inl rfl)) qo (by rfl)) (by rfl)) (by rfl) (by rfl)),(zL (@cM _ _ _ _ _ _ _ _ Jk (@aT _ _ _ _ _ _ (fh K) cE (pv 2) (pv 0) (fun _ _=>rfl)) k7 (bM _))),(@iy _ _ _ _ _ (@aa _ _ _ _ _ (pv 0) (@aa _ _ _ _ _ (pv 1) aj rfl) rfl))⟩)) (@aA _ _ _ _ _ (@dR _ _ _ _ _ _ _ _ (@cM _ _ _ _ _ _ _ _ lU (@bL _ _ _ _ _ _ _ _ (fQ K) gZ rfl bE gE (@aa _ _ _ _ _ (pv 4) aj rfl) (by decide) (by decide) (by rfl) (by rfl)) ao (bM _)) (@aJ _ _ _ (@aZ _ _ _ _ k7)) eN) (@aA _ _ _ _ _ (@aR _ _ (5) _ _ _ _ tw.nd rfl (Or.inl rfl) (@aT _ _ _ _ _ _ (dX K) eU (@aT _ _ _ _ _ _ (fh K) cE (pv 4) ao (fun _ _=>rfl)) ao (fun _ _=>rfl)) (by rfl) (by first|exact .inl rfl|exact .inr rfl|assumption)) (@aA _ _ _ _ _ (@aR _ _ (6) _ _ _ _ tw.nd rfl (Or.inl rfl) (@aT _ _ _ _ _ _ (dX K) eU (@aT _ _ _ _ _ _ (fh K) cE (pv 4) ao (fun _ _=>rfl)) ao (fun _ _=>rfl)) (by rfl) (by first|exact .inl rfl|exact .inr rfl|assumption)) (@aJ _ _ _ (@aZ _ _ _ _ (@iy _ _ _ _ _ (@aa _ _ _ _ _ (pv 5) (@aa _ _ _ _ _ (@aY _ _ _ _ _ _ _ _ _ _ R0 (hr.mono (by decide)) (@aa _ _ _ _ _ (pv 0) (@aa _ _ _ _ _ (@aK _ _ _ _ _ _ _ _ mw (pv 2) (@aY _ _ _ _ _ _ _ _ _ _ qH (hr.mono (by decide)) (@aa _ _ _ _ _ (pv 0) (@aa _ _ _ _ _ (pv 1) (@aa _ _ _ _ _ (pv 3) aj rfl) rfl) rfl) (by rfl) (by decide) (by rfl) (by rfl))) (@aa _ _ _ _ _ (pv 6) aj rfl) rfl) rfl) (by rfl) (by decide) (by rfl) (by rfl)) aj rfl) rfl)))))))),?_⟩
  refine Sv.i7 hlive hds aE (ρ:=[.d false _, .d false _, .d false _, .d false _, .no, .no, .no]) rfl ?_
  clear aE hds
  have je:(prs.map pairD).length=prs.length:=ak ..
  have p2:=hp.1
  walk_at "dt"
  refine aB.ev (aB.jV (by decide) rfl ?_)
  walk_at "dt"
  refine fun v=>⟨true,fun i ds=>ds=(bA wd (prs.take i)).map pairD,rfl,?_,?_⟩
  · rintro i d ds hd hl' rfl
    obtain⟨pr,bS,rfl⟩:=gH hd
    obtain⟨g1,g2,g3⟩:=hP pr (eY bS)
    obtain⟨o,ho,hat⟩:=Fw (xs:=wd) c8 g1 g2 rfl
    walk_at "dt"
    refine⟨by walk_at "wk",?_⟩
    walk_at "dt"
    rw[Gr]
    cases o with
    | none =>
      walk_at "dt"
      refine⟨fun _=>rfl,?_⟩
      show _=List.map pairD (bA wd (prs.take (i+1)))
      rw[take_snoc bS,Hl,if_pos ho,eZ]
      rfl
    | some x =>
      walk_at "dt"
      show _=List.map pairD (bA wd (prs.take (i+1)))
      rw[take_snoc bS,Hl,if_neg (by rw[ho];simp)]
  rintro ds hl' rfl
  rw[je,kQ]
  walk_at "dt"
  have key:∀L,bA wd prs=L->cL p prs rest wd=(match L with|[pr]=>some (pr.1,sol p pr.2 (rest-aQ prs wd%p))|_=>none):=fun L e=>by unfold cL;rw[e]<;>rfl
  cases hL:bA wd prs with
  | nil =>
    walk_at "dt"
    rw[key _ hL] at q
    exact q
  | cons pr r =>
    cases r with
    | cons pr2 r2 =>
      have:¬((List.map pairD (pr::pr2::r2)).length:Int)=1:=by simp;omega
      walk_at "dt"
      rw[key _ hL] at q
      exact q
    | nil =>
      have hm:=(vZ (wd:=wd) (prs:=prs) (pr:=pr) (by rw[hL];simp)).1
      have d0:=iW (aQ prs wd) (show p≠0 by omega)
      have d1:=iX (aQ prs wd) (show 0<p by omega)
      walk_at "dt"
      refine Ev.over ?_
      walk_at "dt"
      refine Ev.total ?_
      walk_at "dt"
      refine⟨p,prs,wd,rfl,by omega,hP,hW,?_⟩
      walk_at "dt"
      refine⟨p,rest-aQ prs wd%p,pr.2,rfl,hp,UA,G0 pr hm,by omega,by omega,fun x x0 x1 hx=>?_⟩
      walk_at "dt"
      rw[key _ hL] at q
      have e:=Dj hp (G0 pr hm) x0 x1 hx
      rw[e]
      exact q
def xJ:DF:=fun ds Φ=>∃(p n c:Int) (cs:List az) (wd:Wo),ds=[eW p n cs,fN wd, .int c]/\gf p cs wd.length/\gG wd/\0<=c/\c<cs.length/\Φ true (Fi (cL p (cs.getD c.toNat []) 0 wd))
theorem PX:eG xJ:=by
 intro ds Φ Ψ hm z
 obtain⟨p,n,c,cs,wd,e,h1,h2,h3,h4,q⟩:=hm
 exact⟨p,n,c,cs,wd,e,h1,h2,h3,h4,z _ _ q⟩
theorem Si:ck ["net","word","c"] ["net","word","c"] (aM yv):=⟨rfl,rfl,rfl,by decide+kernel,rfl,by decide+kernel,by decide+kernel⟩
theorem KN(F:bH K "told_by" "told_by" yv f fd)(KW:Callee P w K mg base "told_for" 3 ["p","pairs","rest","word"] (bT 4 wN)):
  bu P w K mg base bD 4 f fd ["net","word","c"] (bT 3 xJ):=by
 refine F.ok Si (fun vs H Q E h=>h.1) (fun cdv A outer s H vs Q E hr h=>?_)
 obtain⟨nb,ds,Φ,hlive,hds,aE,hF⟩:=iP h
 obtain⟨p,n,c,cs,wd,rfl,hN,hW,c0,c1,q⟩:=hF
 refine⟨_,(@aJ _ _ _ (@aZ _ _ _ _ (@aY _ _ _ _ _ _ _ _ _ _ KW (hr.mono (by decide)) (@aa _ _ _ _ _ (@aT _ _ _ _ _ _ (dX K) eU (pv 0) ao (fun _ _=>rfl)) (@aa _ _ _ _ _ (@aT _ _ _ _ _ _ (fh K) cE (@aT _ _ _ _ _ _ (dX K) eU (pv 0) ao (fun _ _=>rfl)) (pv 2) (fun _ _=>rfl)) (@aa _ _ _ _ _ ao (@aa _ _ _ _ _ (pv 1) aj rfl) rfl) rfl) rfl) (by rfl) (by decide) (by rfl) (by rfl)))),?_⟩
 refine Sv.i7 hlive hds aE (ρ:=[.d false _, .d false _, .d false _]) rfl ?_
 clear aE hds
 obtain⟨prs,e1,e2,e3,e4,e5⟩:=hN.at c0 c1
 have p2:=hN.1.1
 have hat:bU (cs.map jc) c=some (jc prs):=jx c0 (by rw[bI,e1];rfl)
 walk_at "dt"
 refine Ev.e7 MO ?_
 walk_at "dt"
 rw[e2] at q
 exact⟨rfl,p,0,prs,wd,rfl,hN.1,hN.2.1,by omega,by omega,by omega,e4,e5,hW,q⟩
def yt:DF:=fun ds Φ=>∃(p n:Int) (cs:List az) (wd:Wo),ds=[eW p n cs,fN wd]/\gf p cs wd.length/\gG wd/\wd.length<=4000/\Φ true (i8 (aN p cs wd))
theorem Kr:eG yt:=by
 intro ds Φ Ψ hm z
 obtain⟨p,n,cs,wd,e,h1,h2,h3,q⟩:=hm
 exact⟨p,n,cs,wd,e,h1,h2,h3,z _ _ q⟩
theorem tG:ck ["net","word","found","c","told"] ["net","word"] (aM tH):=⟨rfl,rfl,rfl,by decide+kernel,rfl,by decide+kernel,by decide+kernel⟩
theorem RQ(F:bH K "round_of" "round_of" tH f fd)(Vo:Callee P w K mg base "told_by" 4 ["net","word","c"] (bT 3 xJ))(bZ:mg "range"=none)(bE:mg "len"=none)(oN:mg "sorted"=none):
    bu P w K mg base bD 5 f fd ["net","word"] (bT 2 yt):=by
  refine F.ok tG (fun vs H Q E h=>h.1) (fun cdv A outer s H vs Q E hr h=>?_)
  obtain⟨nb,ds,Φ,hlive,hds,aE,hF⟩:=iP h
  obtain⟨p,n,cs,wd,rfl,hN,hW,hl,q⟩:=hF
  refine⟨_,(@aA _ _ _ _ _ (@aR _ _ (2) _ _ _ _ tG.nd rfl (Or.inr rfl) S6 (by rfl) (by first|exact .inl rfl|exact .inr rfl|assumption)) (@aA _ _ _ _ _ (@jW _ _ _ _ _ _ _ _ iO rfl (@kK _ _ _ _ _ _ rfl bZ (@aa _ _ _ _ _ (@bL _ _ _ _ _ _ _ _ (fQ K) gZ rfl bE gE (@aa _ _ _ _ _ (@aT _ _ _ _ _ _ (dX K) eU (pv 0) ao (fun _ _=>rfl)) aj rfl) (by decide) (by decide) (by rfl) (by rfl)) aj rfl) (by rfl)) (bN (i:=3) tG.nd rfl (Or.inl rfl)) (@aA _ _ _ _ _ (@aR _ _ (4) _ _ _ _ tG.nd rfl (Or.inl rfl) (@aY _ _ _ _ _ _ _ _ _ _ Vo (hr.mono (by decide)) (@aa _ _ _ _ _ (pv 0) (@aa _ _ _ _ _ (pv 1) (@aa _ _ _ _ _ (pv 3) aj rfl) rfl) rfl) (by rfl) (by decide) (by rfl) (by rfl)) (by rfl) (by first|exact .inl rfl|exact .inr rfl|assumption)) (@aJ _ _ _ (@dR _ _ _ _ _ _ _ _ (PW.pt (ug (@cM _ _ _ _ _ _ _ _ Fv (pv 4) k7 (bM _)) (ur (@cM _ _ _ _ _ _ _ _ (NZ hr.units) (@aT _ _ _ _ _ _ (dX K) eU (pv 4) ao (fun _ _=>rfl)) (pv 2) (by with_unfolding_all rfl))))) (@aJ _ _ _ (@lJ _ _ _ _ _ _ (@iy _ _ _ _ _ (@aa _ _ _ _ _ (@aT _ _ _ _ _ _ (dX K) eU (pv 4) ao (fun _ _=>rfl)) (@aa _ _ _ _ _ (pv 3) (@aa _ _ _ _ _ (@aT _ _ _ _ _ _ (dX K) eU (pv 4) ao (fun _ _=>rfl)) aj rfl) rfl) rfl)) (mG (pv 2) (@aT _ _ _ _ _ _ (dX K) eU (pv 4) ao (fun _ _=>rfl)) set_dict) (by rfl) (by rfl) (by rfl))) eN))) (by intro _;rfl)) (@aJ _ _ _ (@aZ _ _ _ _ (gn (dO.of (show eO (aM tH) ["net","word","found","c","told"] _ ["place","found"] [none,some 2]=true by decide+kernel)) (gz (K:=K) rfl (@bL _ _ _ _ _ _ _ _ (yz) (RE rfl) rfl oN Jb (@aa _ _ _ _ _ (pv 2) aj rfl) (by decide) (by decide) (by rfl) (by rfl))) (fun _ _ _ _=>⟨(bN (i:=0) (by show List.Nodup (["place","found"]:List Str);decide+kernel) rfl (Or.inl rfl)),gp,(@aT _ _ _ _ _ _ (BV) NI (pv 1) (pv 0) (fun _ _=>rfl))⟩)))))),?_⟩
  refine Sv.i7 hlive hds aE (ρ:=[.d false _, .d false _, .no, .no, .no]) rfl ?_
  clear aE hds
  have p2:=hN.1.1
  have hcl:=hN.2.2.1
  have sA:((cs.map jc).length:Int)=cs.length:=by rw[ak]
  refine Sv.seq ?_
  refine Sv.Ma (uZ.new ?_)
  intro A2
  refine Sv.seq ?_
  refine Sv.AJ ?_
  refine Ev.Cf ?_
  refine Ev.Fx ?_
  refine Ev.var rfl ?_
  refine⟨_,rfl,Ev.int ⟨_,rfl,_,rfl,_, .inl rfl,_,rfl,by omega,by omega,?_⟩⟩
  rw[show((cs.map jc).length:Int).toNat=cs.length by omega]
  refine⟨fun i ρ=>∃(x3 x4:Sl),ρ=[.d false (eW p n cs), .d false (fN wd), .cy A2 true ((cO p cs wd i).map kM),x3,x4],⟨_,_,rfl⟩,?_,?_⟩
  · rintro i d ρ' ⟨hi,rfl⟩ ⟨x3,x4,rfl⟩
    have hfl:=GK (p:=p) (cs:=cs) (wd:=wd) (by omega) hN.rg (i:=i) (by omega)
    walk_at "dt"
    refine Ev.e7 PX ?_
    walk_at "dt"
    refine⟨rfl,p,n,0+(i:Int),cs,wd,rfl,hN,hW,by omega,by omega,?_⟩
    rw[show(0+(i:Int)).toNat=i by omega]
    have ef:cO p cs wd (i+1)=match cL p (cs.getD i []) 0 wd with
      |some (a,x)=>if a∈(cO p cs wd i).map (·.1) then cO p cs wd i else cO p cs wd i++[(a,(i:Int),x)]
      |none=>cO p cs wd i:=by rw[cO]<;>rfl
    cases ht:cL p (cs.getD i []) 0 wd with
    | none =>
      rw[ht] at ef
      dsimp only at ef
      show Gv _ _ _ _ PyData.none _
      walk_at "dt"
      show∃(x3 x4:Sl),(_:Rh)=[Sl.d false (eW p n cs),Sl.d false (fN wd),Sl.cy A2 true ((cO p cs wd (i+1)).map kM),x3,x4]
      rw[ef]
      exact⟨_,_,rfl⟩
    | some ax =>
      obtain⟨a,x⟩:=ax
      rw[ht] at ef
      dsimp only at ef
      show Gv _ _ _ _ (PyData.tuple [.int a, .int x]) _
      walk_at "dt"
      refine Ev.LC rfl ?_
      walk_at "dt"
      rw[Bool.bne_true]
      by_cases c:a∈(cO p cs wd i).map (·.1)
      · rw[if_pos c] at ef
        have:j9 ((cO p cs wd i).map kM) a=true:=by rw[D0,C1];exact c
        rw[this]
        walk_at "dt"
        show∃(x3 x4:Sl),(_:Rh)=[Sl.d false (eW p n cs),Sl.d false (fN wd),Sl.cy A2 true ((cO p cs wd (i+1)).map kM),x3,x4]
        rw[ef]
        exact⟨_,_,rfl⟩
      · rw[if_neg c] at ef
        have:j9 ((cO p cs wd i).map kM) a=false:=by rw[<-Bool.not_eq_true,D0,C1];exact c
        rw[this]
        generalize qJ:(fS _ (pU (cI 2) _ _):TS)=tl
        walk_at "dt"
        subst qJ
        refine Sv.Mb rfl ?_
        walk_at "dt"
        refine⟨by rw[ak];omega,?_⟩
        show∃(x3 x4:Sl),(_:Rh)=[Sl.d false (eW p n cs),Sl.d false (fN wd),Sl.cy A2 true ((cO p cs wd (i+1)).map kM),x3,x4]
        rw[ef,eZ]
        unfold tD
        rw[this,show(0+(i:Int))=i by omega]
        exact⟨_,_,rfl⟩
  · rintro ρ' ⟨x3,x4,rfl⟩
    have hfl:=GK (p:=p) (cs:=cs) (wd:=wd) (by omega) hN.rg (i:=cs.length) (aF _)
    refine Sv.ret (aB.ev (aB.jV (by decide) rfl ?_))
    refine aB.ev (aB.Qx rfl (by rw[ak];omega) fun rs hrs lD=>?_)
    rw[C1] at lD
    obtain⟨ms,rfl,hms⟩:=Na lD _ rfl
    have hmr:=Wm hms hrs
    have hml:ms.length<=wd.length:=by rw[hms.length_eq];exact hfl
    refine⟨_,rfl,by rw[ak,ak];omega,fun v=>⟨true,fun i ds=>ds=(ms.take i).map wc,rfl,?_,?_⟩⟩
    · rintro i d ds hd hl' rfl
      obtain⟨a,ha,rfl⟩:=gH hd
      obtain⟨m,hm,rfl⟩:=gH ha
      have hv:=D9 (m8 (p:=p) (cs:=cs) (wd:=wd) cs.length) (hms.mem_iff.mp (eY hm))
      walk_at "dt"
      refine⟨by walk_at "wk",?_⟩
      walk_at "dt"
      refine Ev.Ky rfl ?_
      walk_at "dt"
      refine⟨_,hv,fun _=>rfl,?_⟩
      show _=List.map _ (List.take (i+1) ms)
      rw[take_snoc hm,eZ]
      rfl
    · rintro ds hl' rfl
      rw[ak,ak,kQ,hmr,AZ]
      exact q
def Bm:DF:=fun ds Φ=>∃(p n:Int) (cs:List az),ds=[eW p n cs]/\cs.length<=10000/\(∀prs∈cs,prs.length<=10000)/\∀f,Φ f (eW p n cs)
theorem NR:eG Bm:=by
 intro ds Φ Ψ hm z
 obtain⟨p,n,cs,e,h1,h2,q⟩:=hm
 exact⟨p,n,cs,e,h1,h2,fun f=>z _ _ (q f)⟩
theorem Ot:ck ["net"] ["net"] (aM vK):=⟨rfl,rfl,rfl,by decide+kernel,rfl,by decide+kernel,by decide+kernel⟩
theorem Ua(F:bH K "copied" "copied" vK f fd)(cK:mg "list"=none):
  bu P w K mg base bD 1 f fd ["net"] (bT 1 Bm):=by
 refine F.ok Ot (fun vs H Q E h=>h.1) (fun cdv A outer s H vs Q E hr h=>?_)
 obtain⟨nb,ds,Φ,hlive,hds,aE,hF⟩:=iP h
 obtain⟨p,n,cs,rfl,hl,hl2,q⟩:=hF
 refine⟨_,(@aJ _ _ _ (@aZ _ _ _ _ (@iy _ _ _ _ _ (@aa _ _ _ _ _ (@aT _ _ _ _ _ _ (dX K) eU (pv 0) ao (fun _ _=>rfl)) (@aa _ _ _ _ _ (@aT _ _ _ _ _ _ (dX K) eU (pv 0) ao (fun _ _=>rfl)) (@aa _ _ _ _ _ (gn (dO.of (show eO (aM vK) ["net"] _ ["pairs"] [none]=true by decide+kernel)) (gz (K:=K) rfl (@aT _ _ _ _ _ _ (dX K) eU (pv 0) ao (fun _ _=>rfl))) (fun _ _ _ _=>⟨(bN (i:=0) (by show List.Nodup (["pairs"]:List Str);decide+kernel) rfl (Or.inl rfl)),gp,(@iV _ _ _ _ _ _ _ _ (gR K) lC rfl cK iA (@aa _ _ _ _ _ (pv 0) aj rfl) (by decide) (by decide) (by rfl) (by rfl))⟩)) aj rfl) rfl) rfl)))),?_⟩
 refine Sv.i7 hlive hds aE (ρ:=[.d false _]) rfl ?_
 clear aE hds
 walk_at "dt"
 refine aB.ev (aB.jV (by decide) rfl ?_)
 walk_at "dt"
 refine⟨by rw[ak];exact hl,fun v=>⟨false,fun i ds=>ds=(cs.take i).map jc,rfl,?_,?_⟩⟩
 ·rintro i d ds hd hl' rfl
  obtain⟨prs,eS,rfl⟩:=gH hd
  walk_at "dt"
  refine⟨by walk_at "wk",?_⟩
  walk_at "dt"
  refine⟨fun z=>(by cases z),?_⟩
  show _=List.map jc (List.take (i+1) cs)
  rw[take_snoc eS,eZ]
  rfl
 ·rintro ds hl' rfl
  rw[ak,kQ]
  walk_at "dt"
  exact q _
def sM(C:Addr):CF:=fun c ds Φ=>∃(x dx l:Addr) (p n:Int) (cs:List az) (wd:Wo),c=bz C x dx (jk (eW p n cs) l wd)/\ds=[]/\gf p cs wd.length/\gG wd/\wd.length<=4000/\Φ (bz C x dx (jk (eW p n cs) l (putAll wd (aN p cs wd)))) true (i8 (aN p cs wd))
theorem Ig{C:Addr}:nG (sM C):=by
 intro c ds Φ Ψ h z
 obtain⟨x,dx,l,p,n,cs,wd,e1,e2,h1,h2,h3,q⟩:=h
 exact⟨x,dx,l,p,n,cs,wd,e1,e2,h1,h2,h3,z _ _ _ q⟩
theorem sy:ck ["self","found","place","c","letter"] ["self"] (aM oX):=⟨rfl,rfl,rfl,by decide+kernel,rfl,by decide+kernel,by decide+kernel⟩
theorem O6(F:bH K "step" "Mender.step" oX f fd){aW:Addr}(gY:ez K aW)(l6:gc K aW "net")(jy:gc K aW "letters")(QB:Callee P w K mg base "round_of" 5 ["net","word"] (bT 2 yt)):
  bu P w K mg base bD 6 f fd ["self"] (g8 1 (sM aW)):=by
 refine F.ok sy (fun vs H Q E h=>h.1) (fun cdv A outer s H vs Q E hr h=>?_)
 obtain⟨_,nb,c,ws,ds,rfl,hlive,kD,hcf,m6,hds,hF⟩:=h
 obtain⟨Φ,aE,hF⟩:∃Φ:Cu->Pd,(∀c' f d v H',Φ c' f d->oF c c' H H'->c'.P (fun a=>nb a\/a∈c'.F) H'->ai (fun a=>nb a\/a∈c'.F\/(f=true/\H a≠none)) H' d v->Q v H')/\sM aW c ds Φ:=⟨_,fun c' f d v H' q=>q v H',hF⟩
 obtain⟨x,dx,l,p,n,cs,wd,rfl,rfl,hN,hW,hl,q⟩:=hF
 refine⟨_,(@aA _ _ _ _ _ (@aR _ _ (1) _ _ _ _ sy.nd rfl (Or.inl rfl) (@aY _ _ _ _ _ _ _ _ _ _ QB (hr.mono (by decide)) (@aa _ _ _ _ _ (@tQ _ _ _ _ _ (pv 0) rfl) (@aa _ _ _ _ _ (@tQ _ _ _ _ _ (pv 0) rfl) aj rfl) rfl) (by rfl) (by decide) (by rfl) (by rfl)) (by rfl) (by first|exact .inl rfl|exact .inr rfl|assumption)) (@aA _ _ _ _ _ (@jW _ _ _ _ _ _ _ _ iO rfl (gz (K:=K) rfl (pv 1)) (@tZ _ (K) _ _ _ (3) _ rfl rfl (@j3 _ _ _ _ _ (bN (i:=2) sy.nd rfl (Or.inl rfl)) (@j3 _ _ _ _ _ (bN (i:=3) sy.nd rfl (Or.inl rfl)) (@j3 _ _ _ _ _ (bN (i:=4) sy.nd rfl (Or.inl rfl)) qo (by rfl)) (by rfl)) (by rfl)) (by rfl) (by rfl)) (@aJ _ _ _ (@lJ _ _ _ _ _ _ (pv 4) (mG (@tQ _ _ _ _ _ (pv 0) rfl) (pv 2) set_list) (by rfl) (by rfl) (by rfl))) (by intro _;rfl)) (@aJ _ _ _ (@aZ _ _ _ _ (pv 1))))),?_⟩
 refine Sv.ua hlive kD hcf m6 hds aE (ρ:=[.cu _, .no, .no, .no, .no]) rfl ?_
 clear aE hds
 have p2:=hN.1.1
 refine Sv.seq ?_
 refine Sv.asg ?_
 refine Ev.Lr Kr ?_
 refine jo.cons (Ev.fld rfl gY l6 rfl ?_)
 refine jo.fld rfl gY jy rfl ?_
 refine jo.nil ?_
 refine⟨rfl,p,n,cs,wd,rfl,hN,hW,hl, .inl rfl,?_⟩
 refine Gv.name ?_
 refine Sv.seq ?_
 refine Sv.forL ?_
 refine Ev.var rfl ?_
 refine⟨_,rfl,fun v=>⟨fun i ρ=>∃(x2 x3 x4:Sl),ρ=[.cu (bz aW x dx (jk (eW p n cs) l (putAll wd ((aN p cs wd).take i)))), .d true (i8 (aN p cs wd)),x2,x3,x4],⟨_,_,_,rfl⟩,?_,?_⟩⟩
 ·rintro i d ρ hd ⟨x2,x3,x4,rfl⟩
  obtain⟨m,hm,rfl⟩:=gH hd
  obtain⟨b1,b2,b3,b4,b5⟩:=qf (by omega) (eY hm) hN.rg
  generalize qJ:(fS (cI 4) _:TS)=tl
  walk_at "dt"
  subst qJ
  refine Sv.UW rfl gY jy rfl ?_
  walk_at "dt"
  refine⟨_,m.1.toNat,rfl,ES b1 (by rw[ak,kW];omega),?_⟩
  have e:((putAll wd ((aN p cs wd).take i)).map c8).set m.1.toNat (.int m.2.2)=(putAll wd ((aN p cs wd).take (i+1))).map c8:=by
   rw[take_snoc hm,qw]
   show _=((putAll wd ((aN p cs wd).take i)).set m.1.toNat (some m.2.2)).map c8
   rw[List.map_set]
   rfl
  rw[e,NH]
  exact⟨_,_,_,rfl⟩
 ·rintro ρ ⟨x2,x3,x4,rfl⟩
  rw[ak,kQ]
  refine Sv.xS (fB.of ?_)
  refine Ev.var rfl ?_
  intro aL v' H' hv
  exact⟨_,_,_,rfl,⟨rfl,rfl,fun a m=>m⟩,q,hv⟩
def su(C:Addr):CF:=fun c ds Φ=>∃(x dx l:Addr) (p n:Int) (cs:List az) (wd:Wo),c=bz C x dx (jk (eW p n cs) l wd)/\ds=[]/\gf p cs wd.length/\gG wd/\wd.length<=4000/\Φ (bz C x dx (jk (eW p n cs) l (dJ p cs wd))) true (.list ((fM p cs wd).map i8))
theorem RH{C:Addr}:nG (su C):=by
 intro c ds Φ Ψ h z
 obtain⟨x,dx,l,p,n,cs,wd,e1,e2,h1,h2,h3,q⟩:=h
 exact⟨x,dx,l,p,n,cs,wd,e1,e2,h1,h2,h3,z _ _ _ q⟩
theorem vp:ck ["self","rounds","found"] ["self"] (aM ow):=⟨rfl,rfl,rfl,by decide+kernel,rfl,by decide+kernel,by decide+kernel⟩
theorem O3(F:bH K "mend" "Mender.mend" ow f fd){aW:Addr}(GZ:l9 P w K mg base aW "step" 6 ["self"] (g8 1 (sM aW))):
  bu P w K mg base bD 7 f fd ["self"] (g8 1 (su aW)):=by
 refine F.ok vp (fun vs H Q E h=>h.1) (fun cdv A outer s H vs Q E hr h=>?_)
 obtain⟨_,nb,c,ws,ds,rfl,hlive,kD,hcf,m6,hds,hF⟩:=h
 obtain⟨Φ,aE,hF⟩:∃Φ:Cu->Pd,(∀c' f d v H',Φ c' f d->oF c c' H H'->c'.P (fun a=>nb a\/a∈c'.F) H'->ai (fun a=>nb a\/a∈c'.F\/(f=true/\H a≠none)) H' d v->Q v H')/\su aW c ds Φ:=⟨_,fun c' f d v H' q=>q v H',hF⟩
 obtain⟨x,dx,l,p,n,cs,wd,rfl,rfl,hN,hW,hl,q⟩:=hF
 refine⟨_,(@aA _ _ _ _ _ (@aR _ _ (1) _ _ _ _ vp.nd rfl (Or.inl rfl) (@gC _ _ _ _ aj) (by rfl) (by first|exact .inl rfl|exact .inr rfl|assumption)) (@aA _ _ _ _ _ (@aR _ _ (2) _ _ _ _ vp.nd rfl (Or.inl rfl) (@uY _ _ _ _ _ _ _ _ _ _ _ GZ (pv 0) (hr.mono (by decide)) (by rfl)) (by rfl) (by first|exact .inl rfl|exact .inr rfl|assumption)) (@aA _ _ _ _ _ (@DN _ _ _ _ _ _ iO (@cM _ _ _ _ _ _ _ _ (qq hr.units) (pv 2) (@gC _ _ _ _ aj) (bM _)) (@aA _ _ _ _ _ (@vA _ _ _ _ (tF vQ uB u7 qE (pv 1) (@aa _ _ _ _ _ (pv 2) aj rfl)) (by rfl)) (@aJ _ _ _ (@aR _ _ (2) _ _ _ _ vp.nd rfl (Or.inl rfl) (@uY _ _ _ _ _ _ _ _ _ _ _ GZ (pv 0) (hr.mono (by decide)) (by rfl)) (by rfl) (by first|exact .inl rfl|exact .inr rfl|assumption))))) (@aJ _ _ _ (@aZ _ _ _ _ (pv 1)))))),?_⟩
 refine Sv.ua hlive kD hcf m6 hds aE (ρ:=[.cu _, .no, .no]) rfl ?_
 clear aE hds
 have p2:=hN.1.1
 have key:∀{w:Wo},w.length=wd.length->gf p cs w.length:=fun{w} h=>by rw[h];exact hN
 refine Sv.seq ?_
 refine Sv.FQ ?_
 intro A1
 refine Sv.seq ?_
 refine Sv.xZ (fB.u0 Ig rfl rfl (bz.is rfl) ?_)
 refine Av.nil ?_
 refine⟨rfl,x,dx,l,p,n,cs,wd,rfl,rfl,hN,hW,hl,?_⟩
 refine Gv.name ?_
 refine Sv.seq ?_
 refine Sv.JT (fun ρ=>∃(w:Wo) (st:List (List bP)),w.length=wd.length/\gG w/\st++fM p cs w=fM p cs wd/\dJ p cs w=dJ p cs wd/\ρ=[.cu (bz aW x dx (jk (eW p n cs) l (putAll w (aN p cs w)))), .own A1 true (st.map i8), .d true (i8 (aN p cs w))]) (fun(ρ:Rh)=>match ρ[1]? with|some (Sl.own _ _ ds)=>wd.length-ds.length|_=>0) ⟨wd,[],rfl,hW,rfl,rfl,rfl⟩ ?_
 rintro ρ' ⟨w,st,hwl,hwW,h1,h2,rfl⟩
 have qP:=key hwl
 walk_at "dt"
 refine⟨Uh _,HE,_,rfl,?_⟩
 rw[k9,Kd]
 by_cases c:aN p cs w=[]
 ·rw[if_neg (by rw[decide_eq_true c];simp)]
  rw[tT c,jG] at h1
  rw[M3 c] at h2
  subst h1 h2
  rw[c]
  refine Sv.IT 1 rfl ?_
  refine Sv.xS (fB.of ?_)
  refine Ev.var rfl ?_
  intro aL v' H' hv
  exact⟨_,_,_,rfl,⟨rfl,rfl,fun a m=>m⟩,q,hv⟩
 rw[if_pos (by rw[decide_eq_false c];rfl)]
 have hl':=Kv (p:=p) (cs:=cs) (wd:=wd)
 rw[<-h1,qL (by omega) qP.rg c,c7,eB] at hl'
 rw[qL (by omega) qP.rg c] at h1
 rw[RA (by omega) qP.rg c] at h2
 have VG:gf p cs (putAll w (aN p cs w)).length:=by rw[kW];exact qP
 have EX:=VC qP hwW
 refine Sv.seq ?_
 refine Sv.append rfl ?_
 refine Ev.var rfl ?_
 refine⟨by rw[ak];omega,?_⟩
 refine Sv.xZ (fB.u0 Ig rfl rfl (bz.is rfl) ?_)
 refine Av.nil ?_
 refine⟨rfl,x,dx,l,p,n,cs,putAll w (aN p cs w),rfl,rfl,VG,EX,by rw[kW,hwl];exact hl,?_⟩
 refine Gv.name ?_
 refine⟨⟨putAll w (aN p cs w),st++[aN p cs w],by rw[kW];exact hwl,EX,by rw[eV];exact h1,h2,by rw[eZ];rfl⟩,?_⟩
 show wd.length-(List.map i8 st++[_]).length<wd.length-(List.map i8 st).length
 rw[c7,kj,ak]
 omega
def qZ(C:Addr):CF:=fun c ds Φ=>∃(x dx l:Addr) (nd:PyData) (wd:Wo),c=bz C x dx (jk nd l wd)/\ds=[]/\Φ (bz C x dx (jk nd l wd)) true (fN wd)
theorem QZ{C:Addr}:nG (qZ C):=by
 intro c ds Φ Ψ h z
 obtain⟨x,dx,l,nd,wd,e1,e2,q⟩:=h
 exact⟨x,dx,l,nd,wd,e1,e2,z _ _ _ q⟩
theorem Qj:ck ["self"] ["self"] (aM pW):=⟨rfl,rfl,rfl,by decide+kernel,rfl,by decide+kernel,by decide+kernel⟩
theorem Oz(F:bH K "word" "Mender.word" pW f fd){aW:Addr}(gY:ez K aW)(jy:gc K aW "letters")(cK:mg "list"=none):
  bu P w K mg base bD 1 f fd ["self"] (g8 1 (qZ aW)):=by
 refine F.ok Qj (fun vs H Q E h=>h.1) (fun cdv A outer s H vs Q E hr h=>?_)
 obtain⟨_,nb,c,ws,ds,rfl,hlive,kD,hcf,m6,hds,hF⟩:=h
 obtain⟨Φ,aE,hF⟩:∃Φ:Cu->Pd,(∀c' f d v H',Φ c' f d->oF c c' H H'->c'.P (fun a=>nb a\/a∈c'.F) H'->ai (fun a=>nb a\/a∈c'.F\/(f=true/\H a≠none)) H' d v->Q v H')/\qZ aW c ds Φ:=⟨_,fun c' f d v H' q=>q v H',hF⟩
 obtain⟨x,dx,l,nd,wd,rfl,rfl,q⟩:=hF
 refine⟨_,(@aJ _ _ _ (@aZ _ _ _ _ (@iV _ _ _ _ _ _ _ _ (gR K) lC rfl cK iA (@aa _ _ _ _ _ (@tQ _ _ _ _ _ (pv 0) rfl) aj rfl) (by decide) (by decide) (by rfl) (by rfl)))),?_⟩
 refine Sv.ua hlive kD hcf m6 hds aE (ρ:=[.cu _]) rfl ?_
 clear aE hds
 refine Sv.xS (fB.of (aB.ev (aB.RM rfl gY jy rfl ?_)))
 rw[Ln]
 intro aL v' H' hv
 exact⟨_,_,_,rfl,⟨rfl,rfl,fun a m=>m⟩,q,hv⟩
def qV(C:Addr):CF:=fun c ds Φ=>∃(x dx:Addr) (p n:Int) (cs:List az) (wd:Wo),c=bz C x dx []/\ds=[eW p n cs,fN wd]/\cs.length<=10000/\(∀prs∈cs,prs.length<=10000)/\∀l,Φ (bz C x dx (jk (eW p n cs) l wd)) true .none
theorem Ug{C:Addr}:nG (qV C):=by
 intro c ds Φ Ψ h z
 obtain⟨x,dx,p,n,cs,wd,e1,e2,h1,h2,q⟩:=h
 exact⟨x,dx,p,n,cs,wd,e1,e2,h1,h2,fun l=>z _ _ _ (q l)⟩
theorem SS:ck ["self","net","word"] ["self","net","word"] (aM oE):=⟨rfl,rfl,rfl,by decide+kernel,rfl,by decide+kernel,by decide+kernel⟩
theorem Uz(F:bH K "__init__" "Mender.__init__" oE f fd){aW:Addr}(gY:ez K aW)(l6:gc K aW "net")(jy:gc K aW "letters")(LS:Callee P w K mg base "copied" 1 ["net"] (bT 1 Bm))(cK:mg "list"=none):
  bu P w K mg base bD 2 f fd ["self","net","word"] (g8 3 (qV aW)):=by
 refine F.ok SS (fun vs H Q E h=>h.1) (fun cdv A outer s H vs Q E hr h=>?_)
 obtain⟨_,nb,c,ws,ds,rfl,hlive,kD,hcf,m6,hds,hF⟩:=h
 obtain⟨Φ,aE,hF⟩:∃Φ:Cu->Pd,(∀c' f d v H',Φ c' f d->oF c c' H H'->c'.P (fun a=>nb a\/a∈c'.F) H'->ai (fun a=>nb a\/a∈c'.F\/(f=true/\H a≠none)) H' d v->Q v H')/\qV aW c ds Φ:=⟨_,fun c' f d v H' q=>q v H',hF⟩
 obtain⟨x,dx,p,n,cs,wd,rfl,rfl,hl,hl2,q⟩:=hF
 refine⟨_,(@aA _ _ _ _ _ (@EB _ _ _ _ _ _ _ _ (pv 0) (@aY _ _ _ _ _ _ _ _ _ _ LS (hr.mono (by decide)) (@aa _ _ _ _ _ (pv 1) aj rfl) (by rfl) (by decide) (by rfl) (by rfl)) rfl) (@aJ _ _ _ (@EB _ _ _ _ _ _ _ _ (pv 0) (@iV _ _ _ _ _ _ _ _ (gR K) lC rfl cK iA (@aa _ _ _ _ _ (pv 2) aj rfl) (by decide) (by decide) (by rfl) (by rfl)) rfl))),?_⟩
 refine Sv.ua hlive kD hcf m6 hds aE (ρ:=[.cu _, .d false _, .d false _]) rfl ?_
 clear aE hds
 refine Sv.seq ?_
 refine Sv.MK rfl gY l6 (.inl rfl) (by decide) ?_
 refine Ev.e7 NR ?_
 walk_at "dt"
 refine⟨rfl,p,n,cs,rfl,hl,hl2,fun f=>?_⟩
 refine Sv.Pa rfl gY jy rfl (HQ rfl) ?_
 refine aB.listOf ?_
 walk_at "dt"
 intro l
 exact⟨_,rfl,⟨rfl,rfl,fun a m=>om [l] m⟩,q l⟩
def xA:DF:=fun ds Φ=>∃(p n:Int) (cs:List az) (wd:Wo),ds=[eW p n cs,fN wd]/\gf p cs wd.length/\gG wd/\wd.length<=4000/\Φ true (.tuple [fN (dJ p cs wd), .list ((fM p cs wd).map i8)])
theorem GD:eG xA:=by
 intro ds Φ Ψ hm z
 obtain⟨p,n,cs,wd,e,h1,h2,h3,q⟩:=hm
 exact⟨p,n,cs,wd,e,h1,h2,h3,z _ _ q⟩
theorem zm:ck ["net","word","mender","rounds"] ["net","word"] (aM By):=⟨rfl,rfl,rfl,by decide+kernel,rfl,by decide+kernel,by decide+kernel⟩
theorem Nd(F:bH K "mended" "mended" By f fd){aW:Addr}(Wy:l9 P w K mg base aW "mend" 7 ["self"] (g8 1 (su aW)))(Pq:l9 P w K mg base aW "word" 1 ["self"] (g8 1 (qZ aW)))(Nq:yd P w K mg base aW "Mender" 2 ["self","net","word"] (g8 3 (qV aW))):
  bu P w K mg base bD 8 f fd ["net","word"] (bT 2 xA):=by
 refine F.ok zm (fun vs H Q E h=>h.1) (fun cdv A outer s H vs Q E hr h=>?_)
 obtain⟨nb,ds,Φ,hlive,hds,aE,hF⟩:=iP h
 obtain⟨p,n,cs,wd,rfl,hN,hW,hl,q⟩:=hF
 refine⟨_,(@aA _ _ _ _ _ (@aR _ _ (2) _ _ _ _ zm.nd rfl (Or.inl rfl) (@Wb _ _ _ _ _ _ _ _ _ _ _ Nq (hr.mono (by decide)) (@aa _ _ _ _ _ (pv 0) (@aa _ _ _ _ _ (pv 1) aj rfl) rfl) (by rfl) (by decide) (by rfl) (by rfl)) (by rfl) (by first|exact .inl rfl|exact .inr rfl|assumption)) (@aA _ _ _ _ _ (@aR _ _ (3) _ _ _ _ zm.nd rfl (Or.inl rfl) (@uY _ _ _ _ _ _ _ _ _ _ _ Wy (pv 2) (hr.mono (by decide)) (by rfl)) (by rfl) (by first|exact .inl rfl|exact .inr rfl|assumption)) (@aJ _ _ _ (@aZ _ _ _ _ (@iy _ _ _ _ _ (@aa _ _ _ _ _ (@uY _ _ _ _ _ _ _ _ _ _ _ Pq (pv 2) (hr.mono (by decide)) (by rfl)) (@aa _ _ _ _ _ (pv 3) aj rfl) rfl)))))),?_⟩
 refine Sv.i7 hlive hds aE (ρ:=[.d false _, .d false _, .no, .no]) rfl ?_
 clear aE hds
 have hcl:=hN.2.2.1
 refine Sv.seq ?_
 refine Sv.make Ug ?_
 walk_at "dt"
 refine⟨rfl,fun x dx=>⟨x,dx,p,n,cs,wd,rfl,rfl,by omega,fun prs hp=>by have:=(hN.2.2.2 prs hp).1;omega,fun l=>⟨rfl,?_⟩⟩⟩
 refine Sv.seq ?_
 refine Sv.xZ (fB.u0 RH rfl rfl (bz.is rfl) ?_)
 refine Av.nil ?_
 refine⟨rfl,x,dx,l,p,n,cs,wd,rfl,rfl,hN,hW,hl,?_⟩
 refine Gv.name ?_
 refine Sv.retS (fB.tup ?_)
 refine ux.cons (fB.u0 QZ rfl rfl (bz.is rfl) ?_)
 refine Av.nil ?_
 refine⟨rfl,x,dx,l,_,dJ p cs wd,rfl,rfl,?_⟩
 walk_at "dt"
 exact q
theorem vI:ck ["script","stir","cell"] ["script"] (aM vX):=⟨rfl,rfl,rfl,by decide+kernel,rfl,by decide+kernel,by decide+kernel⟩
theorem KP(F:bH K "_law_bag" "_law_bag" vX f fd)(wX:mg "abs"=none):
  bu P w K mg base bD 1 f fd ["script"] (DI K):=by
 refine F.ok vI (fun vs H Q E h=>?_) (fun cdv A outer s H vs Q E hr h=>?_)
 ·obtain⟨a,ns,rfl,hS,hl,q⟩:=h
  rfl
 obtain⟨a,ns,rfl,hS,hl,q⟩:=h
 refine⟨_,(@aA _ _ _ _ _ (@aR _ _ (1) _ _ _ _ vI.nd rfl (Or.inl rfl) ao (by rfl) (by first|exact .inl rfl|exact .inr rfl|assumption)) (@aA _ _ _ _ _ (@jW _ _ _ _ _ _ _ _ iO rfl (gz (K:=K) rfl (@nV _ _ _ _ _ _ _ _ _ _ mW (pv 0) n9 (@mU _ _ _ ao))) (bN (i:=2) vI.nd rfl (Or.inl rfl)) (@aJ _ _ _ (@aR _ _ (1) _ _ _ _ vI.nd rfl (Or.inl rfl) (@aK _ _ _ _ _ _ _ _ iU (@aK _ _ _ _ _ _ _ _ eK (@aK _ _ _ _ _ _ _ _ eK (@aK _ _ _ _ _ _ _ _ ki (pv 1) ao) (@aK _ _ _ _ _ _ _ _ iU (pv 2) ao)) ao) ao) (by rfl) (by first|exact .inl rfl|exact .inr rfl|assumption))) (by intro _;rfl)) (@aJ _ _ _ (@aZ _ _ _ _ (@gC _ _ _ _ (@aa _ _ _ _ _ (gn (dO.of (show eO (aM vX) ["script","stir","cell"] _ ["cell"] [none]=true by decide+kernel)) (gz (K:=K) rfl (@nV _ _ _ _ _ _ _ _ _ _ mW (pv 0) n9 (@mU _ _ _ ao))) (fun _ _ _ _=>⟨(bN (i:=0) (by show List.Nodup (["cell"]:List Str);decide+kernel) rfl (Or.inl rfl)),gp,(@aK _ _ _ _ _ _ _ _ iU (@bL _ _ _ _ _ _ _ _ _ NS rfl wX PyProof.Rows.boot_abs (@aa _ _ _ _ _ (pv 0) aj rfl) (by decide) (by decide) (by rfl) (by rfl)) (@aK _ _ _ _ _ _ _ _ Gn ao ao))⟩)) (@aa _ _ _ _ _ ao (@aa _ _ _ _ _ ao (@aa _ _ _ _ _ (pv 1) (@aa _ _ _ _ _ ao aj rfl) rfl) rfl) rfl) rfl)))))),?_⟩
 have nR:k8 (ns.map V.int) none (some 63)=ns.map V.int:=by
  have e:(ns.map V.int).length=ns.length:=ak _
  show List.take (min 63 (ns.map V.int).length-0) (List.drop 0 (ns.map V.int))=_
  rw[oJ]
  exact nQ (by omega)
 walk_at "st"
 refine R.Ff hS fun c hc=>?_
 rw[nR]
 refine R.uE (aS.of bh) ?_
 refine Jl (xs:=ns.map V.int) (fun i σ H1=>∃(st:Int) (x:Option V),σ=[some (.ref a),some (.int st),x]/\0<=st/\st<2147483647/\H1=upd H c (.lst (ns.map V.int))) ⟨19,none,rfl,by omega,by omega,rfl⟩ ?_ ?_ ?_
 ·rintro i σ H1 hi ⟨st,x,rfl,h1,h2,rfl⟩
  exact aS.of bh
 ·rintro i x σ H1 hx ⟨st,y,rfl,h1,h2,rfl⟩
  rw[bI] at hx
  obtain⟨n,_,rfl⟩:=oH.mp hx
  walk_at "st"
  exact⟨_,_,rfl,iW _ (by decide),iX _ (by decide),rfl⟩
 ·rintro σ H1 ⟨st,x,rfl,h1,h2,rfl⟩
  walk_at "st"
  refine R.Ff ((cP hc).seq hS) fun c2 hc2=>?_
  rw[nR]
  refine R.uE (aS.of bh) ?_
  intro acc hacc
  refine R.DC (xs:=ns.map V.int) (fun i σ H2=>∃(x:Option V),σ=[x]/\H2=upd (upd (upd H c (.lst (ns.map V.int))) c2 (.lst (ns.map V.int))) acc (.lst (((ns.take i).map fun n=>(if n<0 then-n else n)%10^60).map V.int))) ⟨none,rfl,rfl⟩ ?_ ?_ ?_
  ·rintro i σ H1 hi ⟨x,rfl,rfl⟩
   refine aS.of ?_
   rw[aX (gU bh hacc)]
   exact bh
  ·rintro i x σ H1 hx ⟨y,rfl,rfl⟩
   rw[bI] at hx
   obtain⟨n,hn,rfl⟩:=oH.mp hx
   walk_at "st"
   refine⟨_,bh,?_,_,rfl,?_⟩
   ·rw[ak,ak,jw]
    exact Hh (by omega)
   ·rw[Aw,BI,hn,eZ,eZ]
    rfl
  ·rintro σ H1 ⟨x,rfl,rfl⟩
   walk_at "st"
   refine(show BW _ _ _ from⟨by show 5<=sizeLine;decide,fun p hp=>?_⟩)
   have hn1:=gU (bh (H:=upd (upd H c (.lst (ns.map V.int))) c2 (.lst (ns.map V.int))) (a:=acc)) hp
   have s1:cQ H (upd (upd (upd H c (.lst (ns.map V.int))) c2 (.lst (ns.map V.int))) acc (.lst (((ns.take (ns.map V.int).length).map fun n=>(if n<0 then-n else n)%10^60).map V.int))):=(cP hc).trans ((cP hc2).trans (cP hacc))
   refine q p acc _ (s1.trans (cP hp)) (s1.free hp) ⟨_,0,0,st,0,bh,by rw[aX hn1];exact bh,?_,?_,by omega,by omega,by omega,h1,h2⟩
   ·intro y hy
    obtain⟨z,_,rfl⟩:=cZ.mp hy
    exact⟨iW _ (by decide),iX _ (by decide)⟩
   ·rw[ak,jw]
    omega
theorem tR:ck ["bag","many","found","k"] ["bag","many"] (aM Cc):=⟨rfl,rfl,rfl,by decide+kernel,rfl,by decide+kernel,by decide+kernel⟩
theorem Oj(F:bH K "_law_stirred" "_law_stirred" Cc f fd)(bZ:mg "range"=none):
  bu P w K mg base bD 1 f fd ["bag","many"] kO:=by
 refine F.ok tR (fun vs H Q E h=>?_) (fun cdv A outer s H vs Q E hr h=>?_)
 ·obtain⟨b,l,many,rfl,hB,hm,hs,q⟩:=h
  rfl
 obtain⟨b,l,many,rfl,hB,hm,hs,q⟩:=h
 refine⟨_,(@aA _ _ _ _ _ (@aR _ _ (2) _ _ _ _ tR.nd rfl (Or.inl rfl) ao (by rfl) (by first|exact .inl rfl|exact .inr rfl|assumption)) (@aA _ _ _ _ _ (@jW _ _ _ _ _ _ _ _ iO rfl (@kK _ _ _ _ _ _ rfl bZ (@aa _ _ _ _ _ (@aK _ _ _ _ _ _ _ _ eK ao (@aK _ _ _ _ _ _ _ _ qy (JK PySem.F.plainAttrs_int PySem.F.slot_int_bit_length PySem.F.type_int_bit_length U3 (pv 1)) ao)) aj rfl) (by rfl)) (bN (i:=3) tR.nd rfl (Or.inl rfl)) (@aA _ _ _ _ _ (@lJ _ _ _ _ _ _ (@aK _ _ _ _ _ _ _ _ eK (@aT _ _ _ _ _ _ _ cE (pv 0) ao (fun _ _=>rfl)) ao) (mG (pv 0) ao set_list) (by rfl) (by rfl) (by rfl)) (@aA _ _ _ _ _ (@lJ _ _ _ _ _ _ (@aK _ _ _ _ _ _ _ _ iU (@aK _ _ _ _ _ _ _ _ eK (@aK _ _ _ _ _ _ _ _ eK (@aK _ _ _ _ _ _ _ _ eK (@aK _ _ _ _ _ _ _ _ Gn (@aT _ _ _ _ _ _ _ cE (pv 0) ao (fun _ _=>rfl)) ao) (@aK _ _ _ _ _ _ _ _ ki ao (@aT _ _ _ _ _ _ _ cE (pv 0) ao (fun _ _=>rfl)))) (@aK _ _ _ _ _ _ _ _ ki ao (@aT _ _ _ _ _ _ _ cE (pv 0) ao (fun _ _=>rfl)))) ao) ao) (mG (pv 0) ao set_list) (by rfl) (by rfl) (by rfl)) (@aJ _ _ _ (@aR _ _ (2) _ _ _ _ tR.nd rfl (Or.inl rfl) (@aK _ _ _ _ _ _ _ _ eK (@aK _ _ _ _ _ _ _ _ ki (pv 2) ao) (@aK _ _ _ _ _ _ _ _ qy (@aT _ _ _ _ _ _ _ cE (pv 0) ao (fun _ _=>rfl)) ao)) (by rfl) (by first|exact .inl rfl|exact .inr rfl|assumption))))) (by intro _;rfl)) (@aJ _ _ _ (@aZ _ _ _ _ (@aK _ _ _ _ _ _ _ _ iU (pv 2) (pv 1)))))),?_⟩
 have W6:=xC hs
 walk_at "st"
 refine zR (fun i σ H1=>∃(fv:Int) (x:Option V),σ=[some (.ref b),some (.int many),some (.int fv),x]/\aU (Nb b) H H1/\dz H1 b l) ⟨0,none,rfl,aU.refl _ _,hB⟩ ?_ ?_
 ·rintro i σ H1 hi ⟨fv,x,rfl,bt,ns,j,c,st,n,h1,h2,h3,h4,h5,h6,h7,h8,h9⟩
  have hlb:=DX h1 h2
  walk_at "st"
  refine⟨_,_,rfl,bt.trans (aU.set rfl),?_⟩
  exact dz.put hlb h2 h3 h4 h5 h6 h7 (iW _ (by decide)) (iX _ (by decide))
 ·rintro σ H1 ⟨fv,x,rfl,bt,B⟩
  walk_at "st"
  exact q _ _ (iW _ (by omega)) (iX _ hm) bt B
theorem Jx:ck ["bag","many","found"] ["bag","many"] (aM CJ):=⟨rfl,rfl,rfl,by decide+kernel,rfl,by decide+kernel,by decide+kernel⟩
theorem Pn(F:bH K "_law_draw" "_law_draw" CJ f fd)(S9:Callee P w K mg base "_law_stirred" 1 ["bag","many"] kO)(bE:mg "len"=none):
  bu P w K mg base bD 2 f fd ["bag","many"] kO:=by
 refine F.ok Jx (fun vs H Q E h=>?_) (fun cdv A outer s H vs Q E hr h=>?_)
 ·obtain⟨b,l,many,rfl,hB,hm,hs,q⟩:=h
  rfl
 obtain⟨b,l,many,rfl,hB,hm,hs,q⟩:=h
 refine⟨_,(@aA _ _ _ _ _ (@dR _ _ _ _ _ _ _ _ (PW.pt (ug (@cM _ _ _ _ _ _ _ _ jf (@aT _ _ _ _ _ _ _ cE (pv 0) ao (fun _ _=>rfl)) ao (bM _)) (ur (@cM _ _ _ _ _ _ _ _ Ef (@aT _ _ _ _ _ _ _ cE (pv 0) ao (fun _ _=>rfl)) (@bL _ _ _ _ _ _ _ _ _ Ht rfl bE gE (@aa _ _ _ _ _ (@aT _ _ _ _ _ _ _ cE (pv 0) ao (fun _ _=>rfl)) aj rfl) (by decide) (by decide) (by rfl) (by rfl)) (bM _))))) (@aA _ _ _ _ _ (@lJ _ _ _ _ _ _ (@aT _ _ _ _ _ _ _ cE (@aT _ _ _ _ _ _ _ cE (pv 0) ao (fun _ _=>rfl)) (@aT _ _ _ _ _ _ _ cE (pv 0) ao (fun _ _=>rfl)) (fun _ _=>rfl)) (mG (pv 0) ao set_list) (by rfl) (by rfl) (by rfl)) (@aJ _ _ _ (@lJ _ _ _ _ _ _ (@aK _ _ _ _ _ _ _ _ eK (@aT _ _ _ _ _ _ _ cE (pv 0) ao (fun _ _=>rfl)) ao) (mG (pv 0) ao set_list) (by rfl) (by rfl) (by rfl)))) (@aJ _ _ _ (@dR _ _ _ _ _ _ _ _ (@cM _ _ _ _ _ _ _ _ jf (@aT _ _ _ _ _ _ _ cE (pv 0) ao (fun _ _=>rfl)) ao (bM _)) (@aJ _ _ _ (@aZ _ _ _ _ (@aY _ _ _ _ _ _ _ _ _ _ S9 (hr.mono (by decide)) (@aa _ _ _ _ _ (pv 0) (@aa _ _ _ _ _ (pv 1) aj rfl) rfl) (by rfl) (by decide) (by rfl) (by rfl)))) eN))) (@aA _ _ _ _ _ (@aR _ _ (2) _ _ _ _ Jx.nd rfl (Or.inl rfl) (@aK _ _ _ _ _ _ _ _ iU (@aT _ _ _ _ _ _ _ cE (pv 0) ao (fun _ _=>rfl)) (pv 1)) (by rfl) (by first|exact .inl rfl|exact .inr rfl|assumption)) (@aA _ _ _ _ _ (@lJ _ _ _ _ _ _ (@aK _ _ _ _ _ _ _ _ qy (@aT _ _ _ _ _ _ _ cE (pv 0) ao (fun _ _=>rfl)) (pv 1)) (mG (pv 0) ao set_list) (by rfl) (by rfl) (by rfl)) (@aJ _ _ _ (@aZ _ _ _ _ (pv 2)))))),?_⟩
 obtain⟨ns,i,c,st,n,h1,h2,h3,h4,h5,h6,h7,h8,h9⟩:=id hB
 have hlb:=DX h1 h2
 have fin:∀(H1:Hp) (i' c':Int),H1 b=some (.lst [.ref l, .int i', .int c', .int st, .int n])->aU (Nb b) H H1->0<=i'->0<=c'->c'<10^60->
   ∀(H2:Hp),H2=upd H1 b (.lst [.ref l, .int i', .int (c'/many), .int st, .int n])->Q (.int (c'%many)) H2:=fun H1 i' c' e1 bt g1 g2 g3 H2 e2=>by
  subst e2
  have hd1:0<=c'/many:=zP g2 (by omega)
  have hd2:c'/many<=c':=Int.ediv_le_self _ g2
  exact q _ _ (iW _ (by omega)) (iX _ hm) (bt.trans (aU.set rfl)) (dz.put hlb (bt _ _ hlb h2) h3 h4 g1 hd1 (by omega) h8 h9)
 walk_at "st"
 refine o8 (fun c1=>?_) (fun c1=>?_)
 ·have c1:c=0:=of_decide_eq_true c1
  walk_at "st"
  refine o8 (fun c2=>?_) (fun c2=>?_)
  ·have c2:i<(List.map V.int ns).length:=of_decide_eq_true c2
   rw[ak] at c2
   have hi:i.toNat<ns.length:=by omega
   obtain⟨g1,g2⟩:=h3 _ (gx hi)
   walk_at "st"
   refine R.vn h2 (v:= .int ns[i.toNat]) (jx h5 (by rw[bI,aI hi];rfl)) ?_
   walk_at "st"
   refine fin (upd H b (.lst [.ref l, .int (i+1), .int ns[i.toNat], .int st, .int n])) (i+1) ns[i.toNat] bh (aU.set rfl) (by omega) g1 g2 _ ?_
   rw[Aw]
   rfl
  ·walk_at "st"
   exact⟨b,l,many,rfl,hB,hm,hs,q⟩
 ·have c1:¬c=0:=of_decide_eq_false (zM.mpr c1)
  walk_at "st"
  exact fin H i c h1 (aU.refl _ _) h5 h6 h7 _ rfl
theorem V6(is:List Int):PyData.eqv (.list (is.map PyData.int)) (.list [])=decide (is=[]):=by
 cases is<;>simp[PyData.eqv,PyData.eqvAll]
theorem Oh(is:List Int):SeqAt.shaped (.list (is.map PyData.int))=true:=by
 have h:PyData.depthAll (is.map PyData.int)=0/\PyData.canLayAll0 (is.map PyData.int)=true:=by
  induction is with
  |nil=>simp[PyData.depthAll,PyData.canLayAll0]
  |cons a r ih=>simp[PyData.depthAll,PyData.depth,PyData.canLayAll0,PyData.canLay0,ih.2,ih.1]
 unfold SeqAt.shaped
 simp[PyData.canLay0,PyData.depth,h.2,h.1]
theorem Ie{nb:Addr->Prop}{H:Hp}:∀is:List Int,af nb H (is.map PyData.int) (is.map V.int)
 |[]=>af.nil
 |i::is=>af.cons (.int i) (Ie is)
theorem JX{r:Int}(h0:r<=10100)(h:∀d:Int,2<=d->d<102->¬(d*d<=r/\r%d=0)):uS r:=fun d d1 d2 e=>by
 by_cases hd:d<102
 ·exact h d d1 hd ⟨d2,e⟩
 ·have:102*102<=d*d:=Int.mul_le_mul (by omega) (by omega) (by omega) (by omega)
  omega
theorem G6:ck ["number","found"] ["number"] (aM uI):=⟨rfl,rfl,rfl,by decide+kernel,rfl,by decide+kernel,by decide+kernel⟩
theorem Rt(F:bH K "_law_prime_from" "_law_prime_from" uI f fd)(bZ:mg "range"=none):
  bu P w K mg base bD 1 f fd ["number"] zQ:=by
 refine F.ok G6 (fun vs H Q E h=>?_) (fun cdv A outer s H vs Q E hr h=>?_)
 ·obtain⟨n,rfl,hn1,hn2,q⟩:=h
  rfl
 obtain⟨n,rfl,hn1,hn2,q⟩:=h
 refine⟨_,(@aA _ _ _ _ _ (@jW _ _ _ _ _ _ _ _ iO rfl (@AW _ _ _ _ _ _ _ rfl bZ (@aa _ _ _ _ _ (pv 0) (@aa _ _ _ _ _ (@aK _ _ _ _ _ _ _ _ eK (pv 0) ao) aj rfl) rfl) (by rfl) (by rfl)) (bN (i:=1) G6.nd rfl (Or.inr rfl)) (@aJ _ _ _ (@dR _ _ _ _ _ _ _ _ (@cM _ _ _ _ _ _ _ _ (R9 hr.units) (gn (dO.of (show eO (aM uI) ["number","found"] _ ["k","found"] [none,some 1]=true by decide+kernel)) (@AW _ _ _ _ _ _ _ rfl bZ (@aa _ _ _ _ _ ao (@aa _ _ _ _ _ ao aj rfl) rfl) (by rfl) (by rfl)) (fun _ _ _ _=>⟨(bN (i:=0) (by show List.Nodup (["k","found"]:List Str);decide+kernel) rfl (Or.inl rfl)),(zL (PW.pt (ug (@cM _ _ _ _ _ _ _ _ GI (@aK _ _ _ _ _ _ _ _ ki (pv 0) (pv 0)) (pv 1) (bM _)) (ur (@cM _ _ _ _ _ _ _ _ jf (@aK _ _ _ _ _ _ _ _ iU (pv 1) (pv 0)) ao (bM _)))))),(pv 0)⟩)) (@gC _ _ _ _ aj) (bM _)) (@aJ _ _ _ (@aZ _ _ _ _ (pv 1))) eN)) (by intro _;rfl)) (@aJ _ _ _ (@aZ _ _ _ _ ao))),?_⟩
 walk_at "st"
 refine zR (fun i σ H1=>cQ H H1/\∃(x:Option V),σ=[some (.int n),x]) ⟨cQ.refl _,none,rfl⟩ ?_ ?_
 ·rintro i σ H1 hi ⟨s1,x,rfl⟩
  have hi2:(i:Int)<60:=by omega
  walk_at "st"
  intro acc hacc
  refine R.Hu (fun j σ H2=>cQ H1 H2/\(∃x:Option V,σ=[x,some (.int (n+i))])/\∃is:List Int,H2 acc=some (.lst (is.map V.int))/\is.length<=j/\(is=[]->∀d:Int,2<=d->d<2+j->¬(d*d<=n+i/\(n+i)%d=0))) ?_ ?_ ?_
  ·exact⟨cP hacc,⟨none,rfl⟩,[],bh,fG _,fun _ d d1 d2=>by omega⟩
  ·rintro j σ H2 hj ⟨s2,⟨x,rfl⟩,is,e2,l2,h2⟩
   have hj2:(j:Int)<100:=by omega
   have next:∀d:Int,d<2+((j+1:Nat):Int)->d<2+j\/d=2+j:=fun d h=>by omega
   walk_at "st"
   refine o8 (fun c1=>?_) (fun c1=>?_)
   ·have c1:(2+(j:Int))*(2+j)<=n+i:=of_decide_eq_true c1
    walk_at "st"
    refine o8 (fun c2=>?_) (fun c2=>?_)
    ·have c2:(n+i)%(2+(j:Int))=0:=of_decide_eq_true c2
     walk_at "st"
     refine⟨_,e2,?_,?_,⟨_,rfl⟩,is++[2+(j:Int)],?_,?_,fun e=>?_⟩
     ·rw[ak];exact Hh (by omega)
     ·exact fun a o h=>by rw[aX (gU h hacc)];exact s2 _ _ h
     ·rw[bh,eZ];rfl
     ·rw[c7,kj];omega
     ·simp at e
    ·have c2:¬(n+i)%(2+(j:Int))=0:=of_decide_eq_false (zM.mpr c2)
     refine⟨s2,⟨_,rfl⟩,is,e2,by omega,fun e d d1 d2=>?_⟩
     rcases next d d2 with h|h
     ·exact h2 e d d1 h
     ·rw[h];exact fun z=>c2 z.2
   ·have c1:¬(2+(j:Int))*(2+j)<=n+i:=of_decide_eq_false (zM.mpr c1)
    walk_at "st"
    refine⟨s2,⟨_,rfl⟩,is,e2,by omega,fun e d d1 d2=>?_⟩
    rcases next d d2 with h|h
    ·exact h2 e d d1 h
    ·rw[h];exact fun z=>c1 z.1
  ·rintro σ H2 ⟨s2,⟨x,rfl⟩,is,e2,l2,h2⟩
   walk_at "st"
   refine R.Qh (by decide) fun p H3 s3 f3 e3=>?_
   refine⟨fun _=>False, .list (is.map PyData.int), .list [], .lst id (s3 _ _ e2) (Ie is), .lst id e3 af.nil,Oh is,by decide,?_⟩
   rw[V6]
   walk_at "st"
   have s:cQ H H3:=s1.trans (s2.trans s3)
   refine o8 (fun c=>?_) (fun c=>?_)
   ·have c:is=[]:=by simpa using c
    walk_at "st"
    exact q _ _ s (by omega) (by omega) (JX (by omega) fun d d1 d2=>h2 c d d1 (by omega))
   ·walk_at "st"
    exact⟨s,_,rfl⟩
 ·rintro σ H1 ⟨s1,x,rfl⟩
  walk_at "st"
  refine q _ _ s1 (by omega) (by omega) fun d d1 d2=>?_
  have:2*2<=d*d:=Int.mul_le_mul d1 d1 (by omega) (by omega)
  omega
def zD:DF:=fun ds Φ=>ds=[]/\∀p:Int,iJ p->p<10^40->∀f,Φ f (.int p)
theorem Ue:eG zD:=by
 intro ds Φ Ψ hm z
 obtain⟨e,q⟩:=hm
 exact⟨e,fun p h1 h2 f=>z _ _ (q p h1 h2 f)⟩
theorem NO:∀x∈([2,3,5,7,2,11,101,10007,65537,1000003,998244353,1000000007,2147483647,1000000000039,1000000000000000003,18446744073709551557,2305843009213693951,618970019642690137449562111,162259276829213363391578010288127,170141183460469231731687303715884105727,1000000000000000000000000000000000000003,9999999999999999999999999999999999999983]:List Int),x∈vO/\x<10^40:=by decide
theorem pO:ck ["bag","some","way"] ["bag"] (aM Bs):=⟨rfl,rfl,rfl,by decide+kernel,rfl,by decide+kernel,by decide+kernel⟩
theorem LI(F:bH K "_law_prime" "_law_prime" Bs f fd)(ff:Callee P w K mg base "_law_draw" 2 ["bag","many"] kO)(Nf:Callee P w K mg base "_law_prime_from" 1 ["number"] zQ):
  bu P w K mg base bD 3 f fd ["bag"] (iu 1 zD):=by
 refine F.ok pO (fun vs H Q E h=>h.1) (fun cdv A outer s H vs Q E hr h=>?_)
 obtain⟨b,l,ws,nb,ds,Φ,rfl,hB,hlive,hnb,hds,aE,hF⟩:=sC h
 obtain⟨rfl,q⟩:=hF
 refine⟨_,(@aA _ _ _ _ _ (@J4 _ 1 _ _ _ _ _ _ pO.nd rfl (Or.inl rfl) rfl (Or.inl rfl)) (@aA _ _ _ _ _ (@aR _ _ (1) _ _ _ _ pO.nd rfl (Or.inl rfl) (@aK _ _ _ _ _ _ _ _ nv (pv 1) (@gC _ _ _ _ (@Gk _ _ _ rfl))) (by rfl) (by first|exact .inl rfl|exact .inr rfl|assumption)) (@aA _ _ _ _ _ (@aR _ _ (1) _ _ _ _ pO.nd rfl (Or.inl rfl) (@aK _ _ _ _ _ _ _ _ nv (pv 1) (@gC _ _ _ _ (@aa _ _ _ _ _ ao (@aa _ _ _ _ _ ao aj rfl) rfl))) (by rfl) (by first|exact .inl rfl|exact .inr rfl|assumption)) (@aA _ _ _ _ _ (@aR _ _ (1) _ _ _ _ pO.nd rfl (Or.inl rfl) (@aK _ _ _ _ _ _ _ _ nv (pv 1) (@gC _ _ _ _ (@aa _ _ _ _ _ ao (@aa _ _ _ _ _ ao aj rfl) rfl))) (by rfl) (by first|exact .inl rfl|exact .inr rfl|assumption)) (@aA _ _ _ _ _ (@aR _ _ (2) _ _ _ _ pO.nd rfl (Or.inl rfl) (@aY _ _ _ _ _ _ _ _ _ _ ff (hr.mono (by decide)) (@aa _ _ _ _ _ (pv 0) (@aa _ _ _ _ _ ao aj rfl) rfl) (by rfl) (by decide) (by rfl) (by rfl)) (by rfl) (by first|exact .inl rfl|exact .inr rfl|assumption)) (@aJ _ _ _ (@aZ _ _ _ _ (@xP _ _ _ _ _ _ _ _ (@cM _ _ _ _ _ _ _ _ Ef (pv 2) ao (bM _)) (@aT _ _ _ _ _ _ (fh K) cE (pv 1) (pv 2) (fun _ _=>rfl)) (@aY _ _ _ _ _ _ _ _ _ _ Nf (hr.mono (by decide)) (@aa _ _ _ _ _ (@aK _ _ _ _ _ _ _ _ eK ao (@aY _ _ _ _ _ _ _ _ _ _ ff (hr.mono (by decide)) (@aa _ _ _ _ _ (pv 0) (@aa _ _ _ _ _ ao aj rfl) rfl) (by rfl) (by decide) (by rfl) (by rfl))) aj rfl) (by rfl) (by decide) (by rfl) (by rfl)))))))))),?_⟩
 refine Sv.qF hB hlive hnb hds aE (ρ:=[.au, .no, .no]) rfl ?_
 clear aE hds
 walk_at "dt"
 intro way w1 w2
 by_cases c:way<22
 ·walk_at "dt"
  obtain⟨m,em,hm1,hm2⟩:=pick (L:=[2,3,5,7,2,11,101,10007,65537,1000003,998244353,1000000007,2147483647,1000000000039,1000000000000000003,18446744073709551557,2305843009213693951,618970019642690137449562111,162259276829213363391578010288127,170141183460469231731687303715884105727,1000000000000000000000000000000000000003,9999999999999999999999999999999999999983]) (k:=way) w1 (by show _<(22:Int);omega) _ NO
  refine⟨_,em,?_⟩
  exact q m (RL m hm1) hm2 _
 ·walk_at "dt"
  intro r r1 r2
  walk_at "dt"
  exact fun r' h1 h2=>q r' h1 h2 _
def xm:DF:=fun ds Φ=>∃p n:Int,ds=[.int p, .int n]/\P9 p/\0<=n/\n<=10000/\∀os:List Int,(os.length:Int)=n->(∀x∈os,0<=x/\x<p)->Φ true (.list (os.map .int))
theorem Lb:eG xm:=by
 intro ds Φ Ψ hm z
 obtain⟨p,n,e,h1,h2,h3,q⟩:=hm
 exact⟨p,n,e,h1,h2,h3,fun os a b=>z _ _ (q os a b)⟩
theorem DH:ck ["bag","p","n","way"] ["bag","p","n"] (aM rW):=⟨rfl,rfl,rfl,by decide+kernel,rfl,by decide+kernel,by decide+kernel⟩
theorem T8(F:bH K "_law_letters" "_law_letters" rW f fd)(ff:Callee P w K mg base "_law_draw" 2 ["bag","many"] kO)(bZ:mg "range"=none)(fV:mg "int"=none)(pe:mg "min"=none):
  bu P w K mg base bD 3 f fd ["bag","p","n"] (iu 3 xm):=by
 refine F.ok DH (fun vs H Q E h=>h.1) (fun cdv A outer s H vs Q E hr h=>?_)
 obtain⟨b,l,ws,nb,ds,Φ,rfl,hB,hlive,hnb,hds,aE,hF⟩:=sC h
 obtain⟨p,n,rfl,⟨p2,WN⟩,n0,n1,q⟩:=hF
 refine⟨_,(@aA _ _ _ _ _ (@aR _ _ (3) _ _ _ _ DH.nd rfl (Or.inr rfl) (@aY _ _ _ _ _ _ _ _ _ _ ff (hr.mono (by decide)) (@aa _ _ _ _ _ (pv 0) (@aa _ _ _ _ _ ao aj rfl) rfl) (by rfl) (by decide) (by rfl) (by rfl)) (by rfl) (by first|exact .inl rfl|exact .inr rfl|assumption)) (@aA _ _ _ _ _ (@dR _ _ _ _ _ _ _ _ (@cM _ _ _ _ _ _ _ _ jf (pv 3) ao (bM _)) (@aJ _ _ _ (@aZ _ _ _ _ (gn (dO.of (show eO (aM rW) ["bag","p","n","way"] _ ["k","bag","p"] [none,some 0,some 1]=true by decide+kernel)) (@kK _ _ _ _ _ _ rfl bZ (@aa _ _ _ _ _ (pv 2) aj rfl) (by rfl)) (fun _ _ _ _=>⟨(bN (i:=0) (by show List.Nodup (["k","bag","p"]:List Str);decide+kernel) rfl (Or.inl rfl)),gp,(@aK _ _ _ _ _ _ _ _ ki (@aY _ _ _ _ _ _ _ _ _ _ ff (hr.mono (by decide)) (@aa _ _ _ _ _ (pv 1) (@aa _ _ _ _ _ (pv 2) aj rfl) rfl) (by rfl) (by decide) (by rfl) (by rfl)) (@iV _ _ _ _ _ _ _ _ _ wD rfl fV o6 (@aa _ _ _ _ _ (@lV _ _ _ _ _ _ _ _ jf (@aY _ _ _ _ _ _ _ _ _ _ ff (hr.mono (by decide)) (@aa _ _ _ _ _ (pv 1) (@aa _ _ _ _ _ ao aj rfl) rfl) (by rfl) (by decide) (by rfl) (by rfl)) ao (bM _)) aj rfl) (by decide) (by decide) (by rfl) (by rfl)))⟩)))) eN) (@aJ _ _ _ (@aZ _ _ _ _ (gn (dO.of (show eO (aM rW) ["bag","p","n","way"] _ ["k","bag","p","way"] [none,some 0,some 1,some 3]=true by decide+kernel)) (@kK _ _ _ _ _ _ rfl bZ (@aa _ _ _ _ _ (pv 2) aj rfl) (by rfl)) (fun _ _ _ _=>⟨(bN (i:=0) (by show List.Nodup (["k","bag","p","way"]:List Str);decide+kernel) rfl (Or.inl rfl)),gp,(@aY _ _ _ _ _ _ _ _ _ _ ff (hr.mono (by decide)) (@aa _ _ _ _ _ (pv 1) (@aa _ _ _ _ _ (@aT _ _ _ _ _ _ (fh K) cE (@gC _ _ _ _ (@aa _ _ _ _ _ (pv 2) (@aa _ _ _ _ _ (@bL _ _ _ _ _ _ _ _ _ (EM rfl) rfl pe Hj (@aa _ _ _ _ _ (pv 2) (@aa _ _ _ _ _ ao aj rfl) rfl) (by decide) (by decide) (by rfl) (by rfl)) aj rfl) rfl)) (pv 3) (fun _ _=>rfl)) aj rfl) rfl) (by rfl) (by decide) (by rfl) (by rfl))⟩)))))),?_⟩
 refine Sv.qF hB hlive hnb hds aE (ρ:=[.au, .d false _, .d false _, .no]) rfl ?_
 clear aE hds
 walk_at "dt"
 intro way w1 w2
 by_cases c:way=2
 ·walk_at "dt"
  refine aB.ev (aB.oR (by decide) rfl ?_)
  walk_at "dt"
  refine eX.ints (fun x=>0<=x/\x<p) ?_ fun os cS hos=>q os (by omega) hos
  rintro i d ⟨hi,rfl⟩
  walk_at "dt"
  refine⟨by walk_at "wk",?_⟩
  walk_at "dt"
  intro r r1 r2
  walk_at "dt"
  intro s s1 s2
  by_cases c2:s=3
  ·walk_at "dt"
   rw[decide_eq_true c2]
   exact⟨by simp;omega,by simp;omega⟩
  ·walk_at "dt"
   rw[decide_eq_false c2]
   exact⟨by simp,by simp;omega⟩
 ·obtain⟨m,em,m1,m2⟩:∃m:Int,bU [PyData.int p, .int (if 3<p then 3 else p)] way=some (.int m)/\1<=m/\m<=p:=by
   rcases(show way=0\/way=1 by omega) with rfl|rfl
   ·exact⟨p,rfl,by omega,by omega⟩
   ·exact⟨_,rfl,by split<;>omega,by split<;>omega⟩
  walk_at "dt"
  refine aB.ev (aB.oR (by decide) rfl ?_)
  walk_at "dt"
  refine eX.ints (fun x=>0<=x/\x<p) ?_ fun os cS hos=>q os (by omega) hos
  rintro i d ⟨hi,rfl⟩
  walk_at "dt"
  refine⟨by walk_at "wk",?_⟩
  walk_at "dt"
  exact fun r r1 r2=>⟨r,rfl,r1,by omega⟩
theorem Kh:ck ["found"] ["found"] (aM Cv):=⟨rfl,rfl,rfl,by decide+kernel,rfl,by decide+kernel,by decide+kernel⟩
theorem We(F:bH K "_law_whole" "_law_whole" Cv f fd)(eH:mg "isinstance"=none)(fV:mg "int"=none)(jO:mg "bool"=none):
  bu P w K mg base bD 1 f fd ["found"] w5:=by
 refine F.ok Kh (fun vs H Q E h=>?_) (fun cdv A outer s H vs Q E hr h=>?_)
 ·obtain⟨i,rfl,q⟩:=h
  rfl
 obtain⟨i,rfl,q⟩:=h
 refine⟨_,(@aJ _ _ _ (@aZ _ _ _ _ (@zO _ _ _ _ _ _ _ (@bL _ _ _ _ _ _ _ _ (g6 K) jT rfl eH iN (@aa _ _ _ _ _ (pv 0) (@aa _ _ _ _ _ (ic (v:= .ty "int") rfl fV o6 rfl) aj rfl) rfl) (by decide) (by decide) (by rfl) (by rfl)) (@yJ _ _ _ _ _ (@Qt _ _ _ _ (@bL _ _ _ _ _ _ _ _ (g6 K) jT rfl eH iN (@aa _ _ _ _ _ (pv 0) (@aa _ _ _ _ _ (ic (v:= .ty "bool") rfl jO Ar rfl) aj rfl) rfl) (by decide) (by decide) (by rfl) (by rfl))))))),?_⟩
 walk_at "st"
 refine R.BR ?_
 walk_at "st"
 exact q
def rM:Nat->PyData->Prop
 |0,_=>False
 |n+1,d=>iG d=true\/∃ds,(d= .list ds\/d= .tuple ds)/\ds.length<=10000/\∀e∈ds,rM n e
def nB(n:Nat):DF:=fun ds Φ=>∃d,ds=[d,d]/\rM n d/\Φ true (.bool true)
theorem qu(n:Nat):eG (nB n):=fun ds Φ Ψ ⟨d,e,h,q⟩ z=>⟨d,e,h,z _ _ q⟩
theorem Tz:∀vs H Q E,¬bT 2 (nB 0) vs H Q E:=fun vs H Q E ⟨_,_,_,_,_,d,_,h,_⟩=>h
theorem O7:ck ["found","due"] ["found","due"] (aM uu):=⟨rfl,rfl,rfl,by decide+kernel,rfl,by decide+kernel,by decide+kernel⟩
theorem sf(n:Nat)(F:bH K "_law_alike" "_law_alike" uu f fd)(oM:Callee P w K mg base "_law_alike" (n) ["found","due"] (bT 2 (nB n)))(eH:mg "isinstance"=none)(cK:mg "list"=none)(lR:mg "tuple"=none)(iZ:mg "all"=none)(bE:mg "len"=none)(jO:mg "bool"=none)(fV:mg "int"=none)(lW:mg "str"=none)(bZ:mg "range"=none):
  bu P w K mg base bD (n+1) f fd ["found","due"] (bT 2 (nB (n+1))):=by
 refine F.ok O7 (fun vs H Q E h=>h.1) (fun cdv A outer s H vs Q E hr h=>?_)
 obtain⟨nb,ds,Φ,hlive,hds,aE,hF⟩:=iP h
 obtain⟨d,rfl,hok,q⟩:=hF
 refine⟨_,(@aA _ _ _ _ _ (@dR _ _ _ _ _ _ _ _ (@j8 _ (K) _ _ rfl (@bL _ _ _ _ _ _ _ _ (tU) El rfl eH iN (@aa _ _ _ _ _ (pv 1) (@aa _ _ _ _ _ (@iy _ _ _ _ _ (@aa _ _ _ _ _ (ic (v:= .ty "list") rfl cK iA rfl) (@aa _ _ _ _ _ (ic (v:= .ty "tuple") rfl lR Il rfl) aj rfl) rfl)) aj rfl) rfl) (by decide) (by decide) (by rfl) (by rfl)) (fun _=>rfl)) (@aA _ _ _ _ _ (@dR _ _ _ _ _ _ _ _ (PW.pt (p6 (@mC _ _ _ _ (@j8 _ (K) _ _ rfl (@bL _ _ _ _ _ _ _ _ (tU) El rfl eH iN (@aa _ _ _ _ _ (pv 0) (@aa _ _ _ _ _ (@iy _ _ _ _ _ (@aa _ _ _ _ _ (ic (v:= .ty "list") rfl cK iA rfl) (@aa _ _ _ _ _ (ic (v:= .ty "tuple") rfl lR Il rfl) aj rfl) rfl)) aj rfl) rfl) (by decide) (by decide) (by rfl) (by rfl)) (fun _=>rfl))) (qM (@cM _ _ _ _ _ _ _ _ lU (@bL _ _ _ _ _ _ _ _ (g6 K) jT rfl eH iN (@aa _ _ _ _ _ (pv 0) (@aa _ _ _ _ _ (ic (v:= .ty "list") rfl cK iA rfl) aj rfl) rfl) (by decide) (by decide) (by rfl) (by rfl)) (@bL _ _ _ _ _ _ _ _ (g6 K) jT rfl eH iN (@aa _ _ _ _ _ (pv 1) (@aa _ _ _ _ _ (ic (v:= .ty "list") rfl cK iA rfl) aj rfl) rfl) (by decide) (by decide) (by rfl) (by rfl)) (bM _))))) (@aJ _ _ _ (@aZ _ _ _ _ fU)) eN) (@aA _ _ _ _ _ (@dR _ _ _ _ _ _ _ _ (@cM _ _ _ _ _ _ _ _ lU (@bL _ _ _ _ _ _ _ _ (fQ K) gZ rfl bE gE (@aa _ _ _ _ _ (pv 0) aj rfl) (by decide) (by decide) (by rfl) (by rfl)) (@bL _ _ _ _ _ _ _ _ (fQ K) gZ rfl bE gE (@aa _ _ _ _ _ (pv 1) aj rfl) (by decide) (by decide) (by rfl) (by rfl)) (bM _)) (@aJ _ _ _ (@aZ _ _ _ _ fU)) eN) (@aJ _ _ _ (@aZ _ _ _ _ (@bL _ _ _ _ _ _ _ _ (sH K) (yg rfl) rfl iZ BJ (@aa _ _ _ _ _ (gn (dO.of (show eO (aM uu) ["found","due"] _ ["k","found","due"] [none,some 0,some 1]=true by decide+kernel)) (@kK _ _ _ _ _ _ rfl bZ (@aa _ _ _ _ _ (@bL _ _ _ _ _ _ _ _ (fQ K) gZ rfl bE gE (@aa _ _ _ _ _ (pv 1) aj rfl) (by decide) (by decide) (by rfl) (by rfl)) aj rfl) (by rfl)) (fun _ _ _ _=>⟨(bN (i:=0) (by show List.Nodup (["k","found","due"]:List Str);decide+kernel) rfl (Or.inl rfl)),gp,(@aY _ _ _ _ _ _ _ _ _ _ oM (hr.mono (aF _)) (@aa _ _ _ _ _ (@aT _ _ _ _ _ _ (uK K) EG (pv 1) (pv 0) (fun _ _=>rfl)) (@aa _ _ _ _ _ (@aT _ _ _ _ _ _ (uK K) EG (pv 2) (pv 0) (fun _ _=>rfl)) aj rfl) rfl) (by rfl) (by decide) (by rfl) (by rfl))⟩)) aj rfl) (by decide) (by decide) (by rfl) (by rfl)))))) eN) (@aA _ _ _ _ _ (@dR _ _ _ _ _ _ _ _ (PW.pt (p6 (@cM _ _ _ _ _ _ _ _ lU (@bL _ _ _ _ _ _ _ _ (g6 K) jT rfl eH iN (@aa _ _ _ _ _ (pv 0) (@aa _ _ _ _ _ (ic (v:= .ty "bool") rfl jO Ar rfl) aj rfl) rfl) (by decide) (by decide) (by rfl) (by rfl)) (@bL _ _ _ _ _ _ _ _ (g6 K) jT rfl eH iN (@aa _ _ _ _ _ (pv 1) (@aa _ _ _ _ _ (ic (v:= .ty "bool") rfl jO Ar rfl) aj rfl) rfl) (by decide) (by decide) (by rfl) (by rfl)) (bM _)) (qM (@cM _ _ _ _ _ _ _ _ lU (@bL _ _ _ _ _ _ _ _ (g6 K) jT rfl eH iN (@aa _ _ _ _ _ (pv 0) (@aa _ _ _ _ _ (ic (v:= .ty "int") rfl fV o6 rfl) aj rfl) rfl) (by decide) (by decide) (by rfl) (by rfl)) (@bL _ _ _ _ _ _ _ _ (g6 K) jT rfl eH iN (@aa _ _ _ _ _ (pv 1) (@aa _ _ _ _ _ (ic (v:= .ty "int") rfl fV o6 rfl) aj rfl) rfl) (by decide) (by decide) (by rfl) (by rfl)) (bM _))))) (@aJ _ _ _ (@aZ _ _ _ _ fU)) eN) (@aJ _ _ _ (@aZ _ _ _ _ (@zO _ _ _ _ _ _ _ (@lV _ _ _ _ _ _ _ _ jf (@bL _ _ _ _ _ _ _ _ (g6 K) jT rfl eH iN (@aa _ _ _ _ _ (pv 0) (@aa _ _ _ _ _ (ic (v:= .ty "str") rfl lW Ds rfl) aj rfl) rfl) (by decide) (by decide) (by rfl) (by rfl)) (@bL _ _ _ _ _ _ _ _ (g6 K) jT rfl eH iN (@aa _ _ _ _ _ (pv 1) (@aa _ _ _ _ _ (ic (v:= .ty "str") rfl lW Ds rfl) aj rfl) rfl) (by decide) (by decide) (by rfl) (by rfl)) (bM _)) (@yJ _ _ _ _ _ (@lV _ _ _ _ _ _ _ _ jf (pv 0) (pv 1) (bM _)))))))),?_⟩
 refine Sv.i7 hlive hds aE (ρ:=[.d false _, .d false _]) rfl ?_
 clear aE hds
 walk_at "dt"
 rcases hok with hs|⟨ds,hd,hl,he⟩
 ·have h1:(iK d "list" ||iK d "tuple")=false:=by cases d<;>first|rfl|cases hs
  rw[h1]
  walk_at "dt"
  rw[beq_self_eq_true]
  walk_at "dt"
  rw[beq_self_eq_true]
  walk_at "dt"
  rw[beq_self_eq_true]
  walk_at "dt"
  exact⟨true, .self hs,q⟩
 rcases hd with rfl|rfl
 ·rw[(Ih ds).1,(Ih ds).2,AZ]
  walk_at "dt"
  refine aB.ev (aB.oR (by decide) rfl ?_)
  walk_at "dt"
  refine⟨true,fun i es=>es=List.replicate i (.bool true),rfl,?_,?_⟩
  ·rintro i d' es ⟨hi,rfl⟩ hl' rfl
   have hi':i<ds.length:=by omega
   have hat:bU ds (0+(i:Int))=some ds[i]:=jx (by omega) (by rw[show(0+(i:Int)).toNat=i by omega];exact aI hi')
   walk_at "dt"
   refine⟨by walk_at "wk",?_⟩
   walk_at "dt"
   refine Ev.e7 (qu n) ?_
   walk_at "dt"
   refine⟨rfl,ds[i],rfl,he _ (gx hi'),fun _=>rfl,?_⟩
   show _=List.replicate (i+1) _
   rw[Iq]
  ·rintro es hl' rfl
   refine⟨List.replicate ds.length true,by simp,?_⟩
   rw[show(List.replicate ds.length true).all id=true by simp]
   exact q
 ·rw[(Dl ds).1,(Dl ds).2,pV]
  walk_at "dt"
  refine aB.ev (aB.oR (by decide) rfl ?_)
  walk_at "dt"
  refine⟨true,fun i es=>es=List.replicate i (.bool true),rfl,?_,?_⟩
  ·rintro i d' es ⟨hi,rfl⟩ hl' rfl
   have hi':i<ds.length:=by omega
   have hat:bU ds (0+(i:Int))=some ds[i]:=jx (by omega) (by rw[show(0+(i:Int)).toNat=i by omega];exact aI hi')
   walk_at "dt"
   refine⟨by walk_at "wk",?_⟩
   walk_at "dt"
   refine Ev.e7 (qu n) ?_
   walk_at "dt"
   refine⟨rfl,ds[i],rfl,he _ (gx hi'),fun _=>rfl,?_⟩
   show _=List.replicate (i+1) _
   rw[Iq]
  ·rintro es hl' rfl
   refine⟨List.replicate ds.length true,by simp,?_⟩
   rw[show(List.replicate ds.length true).all id=true by simp]
   exact q
def BD:DF:=fun ds Φ=>∃(k many:Int),ds=[.int k, .int many]/\1<=k/\k<=200/\0<=many/\many<=200/\∀(f:Bool) (R:List (List Int)),(R.length:Int)=many->(∀r∈R,mj k r)->Φ f (.list (R.map aO))
theorem Rf:eG BD:=by
 intro ds Φ Ψ hm z
 obtain⟨k,many,e,h1,h2,h3,h4,q⟩:=hm
 exact⟨k,many,e,h1,h2,h3,h4,fun f R a b=>z _ _ (q f R a b)⟩
theorem mL:ck ["bag","k","many","rows","left","c","broad","row"] ["bag","k","many"] (aM qp):=⟨rfl,rfl,rfl,by decide+kernel,rfl,by decide+kernel,by decide+kernel⟩
theorem OB(F:bH K "_law_rows" "_law_rows" qp f fd)(ff:Callee P w K mg base "_law_draw" 2 ["bag","many"] kO)(bZ:mg "range"=none)(oN:mg "sorted"=none)(xX:mg "set"=none)(bE:mg "len"=none):
  bu P w K mg base bD 3 f fd ["bag","k","many"] (iu 3 BD):=by
 refine F.ok mL (fun vs H Q E h=>h.1) (fun cdv A outer s H vs Q E hr h=>?_)
 obtain⟨b,l,ws,nb,ds,Φ,rfl,hB,hlive,hnb,hds,aE,hF⟩:=sC h
 obtain⟨k,many,rfl,k0,k1,m0,m1,q⟩:=hF
 refine⟨_,(@aA _ _ _ _ _ (@aR _ _ (3) _ _ _ _ mL.nd rfl (Or.inl rfl) (@gC _ _ _ _ aj) (by rfl) (by first|exact .inl rfl|exact .inr rfl|assumption)) (@aA _ _ _ _ _ (@aR _ _ (4) _ _ _ _ mL.nd rfl (Or.inl rfl) ao (by rfl) (by first|exact .inl rfl|exact .inr rfl|assumption)) (@aA _ _ _ _ _ (@jW _ _ _ _ _ _ _ _ iO rfl (@kK _ _ _ _ _ _ rfl bZ (@aa _ _ _ _ _ (pv 2) aj rfl) (by rfl)) (bN (i:=5) mL.nd rfl (Or.inl rfl)) (@aA _ _ _ _ _ (@aR _ _ (6) _ _ _ _ mL.nd rfl (Or.inl rfl) (@lV _ _ _ _ _ _ _ _ jf (@aY _ _ _ _ _ _ _ _ _ _ ff (hr.mono (by decide)) (@aa _ _ _ _ _ (pv 0) (@aa _ _ _ _ _ ao aj rfl) rfl) (by rfl) (by decide) (by rfl) (by rfl)) ao (bM _)) (by rfl) (by first|exact .inl rfl|exact .inr rfl|assumption)) (@aA _ _ _ _ _ (@aR _ _ (7) _ _ _ _ mL.nd rfl (Or.inl rfl) (@bL _ _ _ _ _ _ _ _ (zG P w) (MI rfl) rfl oN Jb (@aa _ _ _ _ _ (@iV _ _ _ _ _ _ _ _ (xq P w K) (QD rfl) rfl xX PyProof.Rows.boot_set (@aa _ _ _ _ _ (gn (dO.of (show eO (aM qp) ["bag","k","many","rows","left","c","broad","row"] _ ["one","bag","k"] [none,some 0,some 1]=true by decide+kernel)) (@kK _ _ _ _ _ _ rfl bZ (@aa _ _ _ _ _ (@aY _ _ _ _ _ _ _ _ _ _ ff (hr.mono (by decide)) (@aa _ _ _ _ _ (pv 0) (@aa _ _ _ _ _ ao aj rfl) rfl) (by rfl) (by decide) (by rfl) (by rfl)) aj rfl) (by rfl)) (fun _ _ _ _=>⟨(bN (i:=0) (by show List.Nodup (["one","bag","k"]:List Str);decide+kernel) rfl (Or.inl rfl)),gp,(@aY _ _ _ _ _ _ _ _ _ _ ff (hr.mono (by decide)) (@aa _ _ _ _ _ (pv 1) (@aa _ _ _ _ _ (pv 2) aj rfl) rfl) (by rfl) (by decide) (by rfl) (by rfl))⟩)) aj rfl) (by decide) (by decide) (by rfl) (by rfl)) aj rfl) (by decide) (by decide) (by rfl) (by rfl)) (by rfl) (by first|exact .inl rfl|exact .inr rfl|assumption)) (@aA _ _ _ _ _ (@dR _ _ _ _ _ _ _ _ (@j8 _ (K) _ _ rfl (pv 6) (fun _=>rfl)) (@aJ _ _ _ (Cy (i:=7) mL.nd rfl rfl (dO.of (show eO (aM qp) ["bag","k","many","rows","left","c","broad","row"] _ ["place","bag"] [none,some 0]=true by decide+kernel)) (@kK _ _ _ _ _ _ rfl bZ (@aa _ _ _ _ _ (pv 1) aj rfl) (by rfl)) (fun _ _ _ _=>⟨(bN (i:=0) (by show List.Nodup (["place","bag"]:List Str);decide+kernel) rfl (Or.inl rfl)),(zL (@cM _ _ _ _ _ _ _ _ Et (@aY _ _ _ _ _ _ _ _ _ _ ff (hr.mono (by decide)) (@aa _ _ _ _ _ (pv 1) (@aa _ _ _ _ _ ao aj rfl) rfl) (by rfl) (by decide) (by rfl) (by rfl)) ao (bM _))),(pv 0)⟩))) eN) (@aA _ _ _ _ _ (@vA _ _ _ _ (tF vQ uB u7 qE (pv 3) (@aa _ _ _ _ _ (@nV _ _ _ _ _ _ _ _ _ (kY K) mW (pv 7) n9 (@mU _ _ _ (pv 4))) aj rfl)) (by rfl)) (@aJ _ _ _ (@aR _ _ (4) _ _ _ _ mL.nd rfl (Or.inl rfl) (@aK _ _ _ _ _ _ _ _ mw (pv 4) (@bL _ _ _ _ _ _ _ _ (fQ K) gZ rfl bE gE (@aa _ _ _ _ _ (@aT _ _ _ _ _ _ (fh K) cE (pv 3) (@Er _ _ _ _ _ _ Ik ao) (fun _ _=>rfl)) aj rfl) (by decide) (by decide) (by rfl) (by rfl))) (by rfl) (by first|exact .inl rfl|exact .inr rfl|assumption))))))) (by intro _;rfl)) (@aJ _ _ _ (@aZ _ _ _ _ (pv 3)))))),?_⟩
 refine Sv.qF hB hlive hnb hds aE (ρ:=[.au, .d false _, .d false _, .no, .no, .no, .no, .no]) rfl ?_
 clear aE hds
 walk_at "dt"
 intro A3
 walk_at "dt"
 refine Sv.AJ ?_
 walk_at "dt"
 refine⟨fun i ρ=>∃(R:List (List Int)) (L:Int) (f3 f4:Bool) (x5 x6 x7:Sl),R.length=i/\0<=L/\L<=1000/\(∀r∈R,mj k r)/\ρ=[.au, .d false (.int k), .d false (.int many), .own A3 f3 (R.map aO), .d f4 (.int L),x5,x6,x7],⟨[],1000,_,_,_,_,_,rfl,by omega,by omega,(fun _ h=>nomatch h),rfl⟩,?_,?_⟩
 ·rintro i d ρ ⟨hi,rfl⟩ ⟨R,L,f3,f4,x5,x6,x7,hRl,L0,L1,hR,rfl⟩
  have WG:(R.map aO).length=R.length:=ak ..
  refine Gv.pK ?_
  walk_at "dt"
  intro b0 b1 b2
  walk_at "dt"
  refine aB.ev (aB.Rv (aB.ev (aB.oR (by decide) rfl ?_)))
  walk_at "dt"
  intro n0 n1 n2
  walk_at "dt"
  refine eX.ints (fun x=>0<=x/\x<k) ?_ fun os cS hos=>⟨os,rfl,by omega,fun rs HH hmem=>?_⟩
  ·rintro i d ⟨hi,rfl⟩
   walk_at "dt"
   refine⟨by walk_at "wk",?_⟩
   walk_at "dt"
   exact fun r r1 r2=>⟨r,rfl,r1,r2⟩
  have hrs:mj k rs:=by
   have hk:=fun x hx=>hos x ((hmem x).mp hx)
   have:=BY (m:=k) (HH.imp fun h=>by omega) hk
   exact⟨HH,hk,by omega⟩
  refine Gv.name ?_
  refine Sv.seq ?_
  refine Sv.uQ (fun ρ'=>∃(r:List Int) (f6 f7:Bool),mj k r/\ρ'=[.au, .d false (.int k), .d false (.int many), .own A3 f3 (R.map aO), .d f4 (.int L), .d true (.int (0+(i:Int))), .d f6 (.bool (decide (b0=7))), .d f7 (aO r)]) ?_ ?_
  ·walk_at "dt"
   by_cases c:b0=7
   ·rw[if_pos (by simpa using c)]
    refine Sv.setC ?_
    refine aB.ev (aB.oR (by decide) rfl ?_)
    walk_at "dt"
    refine⟨true,fun i ds=>∃r:List Int,ds=r.map .int/\r.Pairwise (· < ·)/\(∀x∈r,0<=x/\x<i),⟨[],rfl,List.Pairwise.nil,(fun _ h=>nomatch h)⟩,?_,?_⟩
    ·rintro i d ds ⟨hi,rfl⟩ hl' ⟨r,rfl,h1,h2⟩
     have go:∃r':List Int,r.map PyData.int++[PyData.int (0+(i:Int))]=r'.map .int/\r'.Pairwise (· < ·)/\(∀x∈r',0<=x/\x<((i+1:Nat):Int)):=by
      refine⟨r++[(0+(i:Int))],by rw[eZ];rfl,yq.mpr ⟨h1,List.pairwise_singleton _ _,fun x hx y hy=>?_⟩,fun x hx=>?_⟩
      ·rw[aP.mp hy];have:=h2 x hx;omega
      ·rcases fR.mp hx with z|z
       ·have:=h2 x z;omega
       ·rw[aP.mp z];omega
     walk_at "dt"
     refine⟨by walk_at "wk",?_⟩
     walk_at "dt"
     intro y y0 y1
     walk_at "dt"
     by_cases c0:0<y
     ·rw[if_pos (by simpa using c0)]
      walk_at "dt"
      exact go
     ·rw[if_neg (by simpa using c0)]
      exact⟨r,rfl,h1,fun x hx=>by have:=h2 x hx;omega⟩
    ·rintro ds hl' ⟨r,rfl,h1,h2⟩
     have hk:∀x∈r,0<=x/\x<k:=fun x hx=>by have:=h2 x hx;omega
     have:=BY (m:=k) (h1.imp fun h=>by omega) hk
     exact⟨r,_,_,⟨h1,hk,by omega⟩,rfl⟩
   ·rw[if_neg (by simpa using c)]
    refine Sv.next ?_
    exact⟨rs,_,_,hrs,rfl⟩
  rintro ρ' ⟨r,f6,f7,hr,rfl⟩
  have nR:gy (r.map PyData.int) none (some L)=(r.take L.toNat).map .int:=by rw[GC L0,List.map_take]
  have NF:mj k (r.take L.toNat):=⟨hr.1.sublist (List.take_sublist ..),fun x hx=>hr.2.1 x (wW hx),by rw[jw];have:=hr.2.2;omega⟩
  refine Sv.seq ?_
  refine Sv.append rfl ?_
  walk_at "dt"
  rw[nR]
  have hne:(R.map aO++[aO (r.take L.toNat)])=(R++[r.take L.toNat]).map aO:=by rw[eZ];rfl
  refine⟨aO (r.take L.toNat),SY _ _,(r.take L.toNat).map .int, .inl rfl,_,rfl,?_⟩
  have hlt:((r.take L.toNat).map PyData.int).length<=L.toNat:=by rw[ak,jw];omega
  refine Gv.pK ?_
  show∃R L f3 f4 x5 x6 x7,_
  refine⟨R++[r.take L.toNat],L-(((r.take L.toNat).map PyData.int).length:Int),_,_,_,_,_,by rw[c7,hRl];rfl,by omega,by omega,fun r' hr'=>?_,by rw[<-hne];rfl⟩
  rcases fR.mp hr' with z|z
  ·exact hR r' z
  ·rw[aP.mp z];exact NF
 ·rintro ρ ⟨R,L,f3,f4,x5,x6,x7,hRl,L0,L1,hR,rfl⟩
  refine Sv.IT 3 rfl ?_
  walk_at "dt"
  exact q _ R (by omega) hR
def BH:DF:=fun ds Φ=>∃(p:Int) (ls:List Int) (rows:List (List Int)),ds=[.int p, .int (ls.length:Int), .list (rows.map aO),aO ls,aO (ay p ls rows rows.length)]/\bf p ls rows/\Φ true (.bool true)
theorem OA:eG BH:=by
 intro ds Φ Ψ hm z
 obtain⟨p,ls,rows,e,h1,q⟩:=hm
 exact⟨p,ls,rows,e,h1,z _ _ q⟩
theorem t7:ck ["p","k","rows","letters","word","last","c"] ["p","k","rows","letters","word"] (aM rC):=⟨rfl,rfl,rfl,by decide+kernel,rfl,by decide+kernel,by decide+kernel⟩
theorem Vn(F:bH K "_law_begins" "_law_begins" rC f fd)(Ou:Callee P w K mg base "_law_whole" 1 ["found"] w5)(bZ:mg "range"=none)(iZ:mg "all"=none)(bE:mg "len"=none)(eH:mg "isinstance"=none)(cK:mg "list"=none)(Ae:mg "sum"=none):
  bu P w K mg base bD 2 f fd ["p","k","rows","letters","word"] (bT 5 BH):=by
 refine F.ok t7 (fun vs H Q E h=>h.1) (fun cdv A outer s H vs Q E hr h=>?_)
 obtain⟨nb,ds,Φ,hlive,hds,aE,hF⟩:=iP h
 obtain⟨p,ls,rows,rfl,hX,q⟩:=hF
 refine⟨_,(@aA _ _ _ _ _ (@dR _ _ _ _ _ _ _ _ (PW.pt (p6 (@mC _ _ _ _ (@j8 _ (K) _ _ rfl (@bL _ _ _ _ _ _ _ _ (g6 K) jT rfl eH iN (@aa _ _ _ _ _ (pv 4) (@aa _ _ _ _ _ (ic (v:= .ty "list") rfl cK iA rfl) aj rfl) rfl) (by decide) (by decide) (by rfl) (by rfl)) (fun _=>rfl))) (p6 (@cM _ _ _ _ _ _ _ _ lU (@bL _ _ _ _ _ _ _ _ (fQ K) gZ rfl bE gE (@aa _ _ _ _ _ (pv 4) aj rfl) (by decide) (by decide) (by rfl) (by rfl)) (@aK _ _ _ _ _ _ _ _ eK (pv 1) (@bL _ _ _ _ _ _ _ _ (fQ K) gZ rfl bE gE (@aa _ _ _ _ _ (pv 2) aj rfl) (by decide) (by decide) (by rfl) (by rfl))) (bM _)) (qM (@cM _ _ _ _ _ _ _ _ (qq hr.units) (@nV _ _ _ _ _ _ _ _ _ (kY K) mW (pv 4) n9 (@mU _ _ _ (pv 1))) (pv 3) (bM _)))))) (@aJ _ _ _ (@aZ _ _ _ _ fU)) eN) (@aA _ _ _ _ _ (@dR _ _ _ _ _ _ _ _ (@mC _ _ _ _ (@j8 _ (K) _ _ rfl (@bL _ _ _ _ _ _ _ _ (sH K) (yg rfl) rfl iZ BJ (@aa _ _ _ _ _ (gn (dO.of (show eO (aM rC) ["p","k","rows","letters","word","last","c"] _ ["letter"] [none]=true by decide+kernel)) (gz (K:=K) rfl (pv 4)) (fun _ _ _ _=>⟨(bN (i:=0) (by show List.Nodup (["letter"]:List Str);decide+kernel) rfl (Or.inl rfl)),gp,(@aY _ _ _ _ _ _ _ _ _ _ Ou (hr.mono (by decide)) (@aa _ _ _ _ _ (pv 0) aj rfl) (by rfl) (by decide) (by rfl) (by rfl))⟩)) aj rfl) (by decide) (by decide) (by rfl) (by rfl)) (fun _=>rfl))) (@aJ _ _ _ (@aZ _ _ _ _ fU)) eN) (@aA _ _ _ _ _ (@aR _ _ (5) _ _ _ _ t7.nd rfl (Or.inl rfl) ao (by rfl) (by first|exact .inl rfl|exact .inr rfl|assumption)) (@aA _ _ _ _ _ (@jW _ _ _ _ _ _ _ _ iO rfl (@kK _ _ _ _ _ _ rfl bZ (@aa _ _ _ _ _ (@bL _ _ _ _ _ _ _ _ (fQ K) gZ rfl bE gE (@aa _ _ _ _ _ (pv 2) aj rfl) (by decide) (by decide) (by rfl) (by rfl)) aj rfl) (by rfl)) (bN (i:=6) t7.nd rfl (Or.inl rfl)) (@aA _ _ _ _ _ (@aR _ _ (5) _ _ _ _ t7.nd rfl (Or.inl rfl) (@aK _ _ _ _ _ _ _ _ iU (@aK _ _ _ _ _ _ _ _ eK (pv 5) (@bL _ _ _ _ _ _ _ _ (zJ K) (Ku rfl) rfl Ae PyProof.Rows.boot_sum (@aa _ _ _ _ _ (gn (dO.of (show eO (aM rC) ["p","k","rows","letters","word","last","c"] _ ["place","letters"] [none,some 3]=true by decide+kernel)) (gz (K:=K) rfl (@aT _ _ _ _ _ _ (fh K) cE (pv 2) (pv 6) (fun _ _=>rfl))) (fun _ _ _ _=>⟨(bN (i:=0) (by show List.Nodup (["place","letters"]:List Str);decide+kernel) rfl (Or.inl rfl)),gp,(@aT _ _ _ _ _ _ (fh K) cE (pv 1) (pv 0) (fun _ _=>rfl))⟩)) aj rfl) (by decide) (by decide) (by rfl) (by rfl))) (pv 0)) (by rfl) (by first|exact .inl rfl|exact .inr rfl|assumption)) (@aJ _ _ _ (@dR _ _ _ _ _ _ _ _ (@cM _ _ _ _ _ _ _ _ lU (@aT _ _ _ _ _ _ (fh K) cE (pv 4) (@aK _ _ _ _ _ _ _ _ eK (pv 1) (pv 6)) (fun _ _=>rfl)) (pv 5) (bM _)) (@aJ _ _ _ (@aZ _ _ _ _ fU)) eN))) (by intro _;rfl)) (@aJ _ _ _ (@aZ _ _ _ _ fU)))))),?_⟩
 refine Sv.i7 hlive hds aE (ρ:=[.d false _, .d false _, .d false _, .d false _, .d false _, .no, .no]) rfl ?_
 clear aE hds
 have p2:=hX.hp.1
 have iI:=hX.iI
 have k1:=hX.k1
 have ml:=hX.ml
 have hW:=hX.j4
 have hT:=hX.Rn
 have mV:=hX.nH
 have nX:=fun(c:Nat) hc=>hX.VZ (c:=c) hc
 have hls:=fun(c:Nat) hc=>hX.last (c:=c) hc
 walk_at "dt"
 rw[if_neg (by rw[ak,ak,hW];simp)]
 walk_at "dt"
 rw[GC (by omega),show((ls.length:Int)).toNat=ls.length by omega,<-List.map_take,hT]
 refine⟨shaped_ints ls,shaped_ints ls,_,rfl,?_⟩
 rw[QE,decide_eq_true rfl]
 walk_at "dt"
 refine aB.ev (aB.jV (by decide) rfl ?_)
 walk_at "dt"
 refine⟨by rw[ak,hW];omega,fun v=>?_⟩
 refine eX.rel PyData.bool true (fun i o=>o=true) ?_ fun os cS hos=>?_
 ·rintro i d hd
  obtain⟨x,hx,rfl⟩:=gH hd
  walk_at "dt"
  refine⟨by walk_at "wk",?_⟩
  walk_at "dt"
  rfl
 have ho:os.all id=true:=jJ.mpr fun o ho=>by obtain⟨j,hj⟩:=pI ho;exact hos j o hj
 refine⟨os,rfl,?_⟩
 rw[ho]
 walk_at "dt"
 have sA:((rows.map aO).length:Int)=rows.length:=by rw[ak]
 refine Sv.AJ ?_
 refine Ev.Cf ?_
 refine Ev.var rfl ?_
 refine⟨_, .inl rfl,_,rfl,by omega,by omega,?_⟩
 rw[show((rows.map aO).length:Int).toNat=rows.length by omega]
 refine⟨fun i ρ=>∃(x6:Sl),ρ=[.d false (.int p), .d false (.int (ls.length:Int)), .d false (.list (rows.map aO)), .d false (aO ls), .d false (aO (ay p ls rows rows.length)), .d true (.int (kc (ay p ls rows rows.length) ls.length i)),x6],⟨_,by rw[show kc (ay p ls rows rows.length) ls.length 0=0 from if_pos rfl];rfl⟩,?_,?_⟩
 ·rintro i d ρ ⟨hi,rfl⟩ ⟨x6,rfl⟩
  have hic:i<rows.length:=hi
  have uJ:=hX.row hic
  refine Gv.pK ?_
  walk_at "dt"
  have hat:bU (rows.map aO) (0+(i:Int))=some (aO (rows.getD i [])):=jx (by omega) (by rw[show(0+(i:Int)).toNat=i by omega,bI,aI hic,dW,aI hic];rfl)
  have Xl:bU ((ay p ls rows rows.length).map PyData.int) ((ls.length:Int)+(0+(i:Int)))=some (.int (kc (ay p ls rows rows.length) ls.length (i+1))):=jx (by omega) (by rw[show((ls.length:Int)+(0+(i:Int))).toNat=ls.length+i by omega,bI,nX i hic];rfl)
  refine aB.ev (aB.jV (by decide) rfl ?_)
  walk_at "dt"
  refine⟨?_,?_⟩
  ·rw[ak];have:=uJ.2.2;omega
  intro v
  refine eX.rel PyData.int false (fun i' o=>∃x,(rows.getD i [])[i']?=some x/\o=ls.getD x.toNat 0) ?_ fun os cS hos=>?_
  ·rintro i' d hd
   obtain⟨x,hx,rfl⟩:=gH hd
   have JD:=uJ.2.1 x (eY hx)
   walk_at "dt"
   refine⟨by walk_at "wk",?_⟩
   walk_at "dt"
   exact⟨_,jx JD.1 (by rw[bI,aI (by omega)];rfl),(fun z=>by cases z),_,rfl,x,hx,by rw[dW,aI (by omega)];rfl⟩
  rw[ak] at cS
  have ho:=r6 (φ:=fun x:Int=>ls.getD x.toNat 0) cS hos
  refine⟨os,rfl,_,rfl,_,rfl,?_⟩
  rw[ho]
  walk_at "dt"
  rw[hls i hic,if_neg (by simp)]
  refine Sv.next ?_
  exact⟨_,rfl⟩
 ·rintro ρ ⟨x6,rfl⟩
  walk_at "dt"
  exact q
def wL:DF:=fun ds Φ=>∃(p:Int) (ls:List Int) (rows:List (List Int)),ds=[eW p (ls.length+rows.length) (bB p ls.length rows),aO ls,aO (ay p ls rows rows.length)]/\bf p ls rows/\Φ true (.bool true)
theorem Lx:eG wL:=by
 intro ds Φ Ψ hm z
 obtain⟨p,ls,rows,e,h1,q⟩:=hm
 exact⟨p,ls,rows,e,h1,z _ _ q⟩
theorem sV:ck ["bag","net","letters","word","k","stairs","gaps"] ["bag","net","letters","word"] (aM oK):=⟨rfl,rfl,rfl,by decide+kernel,rfl,by decide+kernel,by decide+kernel⟩
theorem JU(F:bH K "_law_mended_right" "_law_mended_right" oK f fd)(oM:Callee P w K mg base "_law_alike" 5 ["found","due"] (bT 2 (nB 5)))(Gg:Callee P w K mg base "mended" 8 ["net","word"] (bT 2 xA))(ff:Callee P w K mg base "_law_draw" 2 ["bag","many"] kO)(bE:mg "len"=none)(bZ:mg "range"=none):
  bu P w K mg base bD 9 f fd ["bag","net","letters","word"] (iu 4 wL):=by
 refine F.ok sV (fun vs H Q E h=>h.1) (fun cdv A outer s H vs Q E hr h=>?_)
 obtain⟨b,l,ws,nb,ds,Φ,rfl,hB,hlive,hnb,hds,aE,hF⟩:=sC h
 obtain⟨p,ls,rows,rfl,hX,q⟩:=hF
 refine⟨_,(@aA _ _ _ _ _ (@aR _ _ (4) _ _ _ _ sV.nd rfl (Or.inr rfl) (@bL _ _ _ _ _ _ _ _ (fQ K) gZ rfl bE gE (@aa _ _ _ _ _ (pv 2) aj rfl) (by decide) (by decide) (by rfl) (by rfl)) (by rfl) (by first|exact .inl rfl|exact .inr rfl|assumption)) (@aA _ _ _ _ _ (Cy (i:=5) sV.nd rfl rfl (dO.of (show eO (aM oK) ["bag","net","letters","word","k","stairs","gaps"] _ ["place","word","k"] [none,some 3,some 4]=true by decide+kernel)) (@AW _ _ _ _ _ _ _ rfl bZ (@aa _ _ _ _ _ (pv 4) (@aa _ _ _ _ _ (@bL _ _ _ _ _ _ _ _ (fQ K) gZ rfl bE gE (@aa _ _ _ _ _ (pv 3) aj rfl) (by decide) (by decide) (by rfl) (by rfl)) aj rfl) rfl) (by rfl) (by rfl)) (fun _ _ _ _=>⟨(bN (i:=0) (by show List.Nodup (["place","word","k"]:List Str);decide+kernel) rfl (Or.inl rfl)),gp,(@gC _ _ _ _ (@aa _ _ _ _ _ (@iy _ _ _ _ _ (@aa _ _ _ _ _ (pv 0) (@aa _ _ _ _ _ (@aK _ _ _ _ _ _ _ _ mw (pv 0) (pv 2)) (@aa _ _ _ _ _ (@aT _ _ _ _ _ _ (fh K) cE (pv 1) (pv 0) (fun _ _=>rfl)) aj rfl) rfl) rfl)) aj rfl))⟩)) (@aA _ _ _ _ _ (@dR _ _ _ _ _ _ _ _ (@mC _ _ _ _ (@j8 _ (K) _ _ rfl (@aY _ _ _ _ _ _ _ _ _ _ oM (hr.mono (by decide)) (@aa _ _ _ _ _ (@aY _ _ _ _ _ _ _ _ _ _ Gg (hr.mono (by decide)) (@aa _ _ _ _ _ (pv 1) (@aa _ _ _ _ _ (@aK _ _ _ _ _ _ _ _ nv (pv 2) (gn (dO.of (show eO (aM oK) ["bag","net","letters","word","k","stairs","gaps"] _ ["letter"] [none]=true by decide+kernel)) (gz (K:=K) rfl (@nV _ _ _ _ _ _ _ _ _ (kY K) mW (pv 3) (@mU _ _ _ (pv 4)) n9)) (fun _ _ _ _=>⟨(bN (i:=0) (by show List.Nodup (["letter"]:List Str);decide+kernel) rfl (Or.inl rfl)),gp,k7⟩))) aj rfl) rfl) (by rfl) (by decide) (by rfl) (by rfl)) (@aa _ _ _ _ _ (@iy _ _ _ _ _ (@aa _ _ _ _ _ (pv 3) (@aa _ _ _ _ _ (pv 5) aj rfl) rfl)) aj rfl) rfl) (by rfl) (by decide) (by rfl) (by rfl)) (fun _=>rfl))) (@aJ _ _ _ (@aZ _ _ _ _ fU)) eN) (@aA _ _ _ _ _ (@aR _ _ (6) _ _ _ _ sV.nd rfl (Or.inl rfl) (@aK _ _ _ _ _ _ _ _ nv (pv 2) (gn (dO.of (show eO (aM oK) ["bag","net","letters","word","k","stairs","gaps"] _ ["letter","bag"] [none,some 0]=true by decide+kernel)) (gz (K:=K) rfl (@nV _ _ _ _ _ _ _ _ _ (kY K) mW (pv 3) (@mU _ _ _ (pv 4)) n9)) (fun _ _ _ _=>⟨(bN (i:=0) (by show List.Nodup (["letter","bag"]:List Str);decide+kernel) rfl (Or.inl rfl)),gp,(@xP _ _ _ _ _ _ _ _ (@cM _ _ _ _ _ _ _ _ jf (@aY _ _ _ _ _ _ _ _ _ _ ff (hr.mono (by decide)) (@aa _ _ _ _ _ (pv 1) (@aa _ _ _ _ _ ao aj rfl) rfl) (by rfl) (by decide) (by rfl) (by rfl)) ao (bM _)) k7 (pv 0))⟩))) (by rfl) (by first|exact .inl rfl|exact .inr rfl|assumption)) (@aJ _ _ _ (@aZ _ _ _ _ (@aY _ _ _ _ _ _ _ _ _ _ oM (hr.mono (by decide)) (@aa _ _ _ _ _ (@aT _ _ _ _ _ _ (dX K) eU (@aY _ _ _ _ _ _ _ _ _ _ Gg (hr.mono (by decide)) (@aa _ _ _ _ _ (pv 1) (@aa _ _ _ _ _ (pv 6) aj rfl) rfl) (by rfl) (by decide) (by rfl) (by rfl)) ao (fun _ _=>rfl)) (@aa _ _ _ _ _ (pv 3) aj rfl) rfl) (by rfl) (by decide) (by rfl) (by rfl)))))))),?_⟩
 refine Sv.qF hB hlive hnb hds aE (ρ:=[.au, .d false _, .d false _, .d false _, .no, .no, .no]) rfl ?_
 clear aE hds
 have p2:=hX.hp.1
 have iI:=hX.iI
 have k1:=hX.k1
 have ml:=hX.ml
 have hW:=hX.j4
 have mV:=hX.nH
 have tX:((ay p ls rows rows.length).map PyData.int).length=ls.length+rows.length:=by rw[ak,hW]
 have je:(ls.map PyData.int).length=ls.length:=ak ..
 walk_at "dt"
 rw[je]
 refine aB.ev (aB.VD (by decide) rfl ?_)
 walk_at "dt"
 rw[tX]
 rw[show((((ls.length+rows.length:Nat)):Int)-(ls.length:Int)).toNat=rows.length by omega]
 refine eX.rel (fun t:bP=>i8 [t]) false (fun i t=>(List.range rows.length)[i]?=some i/\t=((ls.length:Int)+(i:Int),(i:Int),(ay p ls rows rows.length).getD (ls.length+i) 0)) ?_ fun st hsl hst=>?_
 ·rintro i d ⟨hi,rfl⟩
  walk_at "dt"
  refine⟨by walk_at "wk",?_⟩
  walk_at "dt"
  refine⟨_,jx (v:= .int ((ay p ls rows rows.length).getD (ls.length+i) 0)) (by omega) (by rw[show((ls.length:Int)+(i:Int)).toNat=ls.length+i by omega,bI,aI (by omega),dW,aI (by omega)];rfl),?_⟩
  refine Av.nil ⟨by show 3<=10000;omega,Av.nil ⟨by show 1<=10000;omega,(fun z=>by cases z),_,?_,?_,rfl⟩⟩
  ·show PyData.list [PyData.tuple [_, .int ((ls.length:Int)+(i:Int)-(ls.length:Int)),_]]=_
   rw[show(ls.length:Int)+(i:Int)-(ls.length:Int)=(i:Int) by omega]
   rfl
  ·rw[uy hi]
 have hs:st=qK p ls rows:=r6 (by rw[hsl,pR]) fun i o ho=>⟨i,hst i o ho⟩
 subst hs
 walk_at "dt"
 refine Ev.e7 (qu 5) ?_
 walk_at "dt"
 refine Ev.e7 GD ?_
 walk_at "dt"
 have nR:gy ((ay p ls rows rows.length).map PyData.int) (some (ls.length:Int)) none=((ay p ls rows rows.length).drop ls.length).map .int:=by rw[R6 (by omega) (by rw[tX];omega),show((ls.length:Int)).toNat=ls.length by omega,List.map_drop]
 have hdl:(((ay p ls rows rows.length).drop ls.length).map PyData.int).length=rows.length:=by rw[ak,qv,hW];omega
 have nh:∀w:List Int,aO w=fN (w.map some):=fun w=>by show PyData.list _=PyData.list _;rw[iz];rfl
 have DQ:∀os:Wo,ls.map PyData.int++os.map c8=(ls.map some++os).map c8:=fun os=>by rw[eZ,iz];rfl
 have hal:∀w:List Int,(∀x∈w,0<=x/\x<p)->w.length<=10000->∀n,rM (n+2) (aO w):=fun w _ h2 n=> .inr ⟨_, .inl rfl,by rw[ak];exact h2,fun e he=>by obtain⟨y,_,rfl⟩:=cZ.mp he;exact .inl rfl⟩
 refine aB.ev (aB.jV (by decide) rfl ?_)
 walk_at "dt"
 rw[nR]
 refine⟨by rw[hdl];omega,fun v=>?_⟩
 refine eX.rel c8 true (fun i o=>o=none) ?_ fun os cS hos=>?_
 ·rintro i d hd
  obtain⟨x,hx,rfl⟩:=gH hd
  walk_at "dt"
  refine⟨by walk_at "wk",?_⟩
  walk_at "dt"
  exact⟨none,rfl,rfl⟩
 rw[hdl] at cS
 have jI:∀(i:Nat) x,os[i]?=some (some x)->(ay p ls rows rows.length)[ls.length+i]?=some x:=fun i x e=>by cases hos i _ e
 have hnl:(ls.map some++os).length=ls.length+rows.length:=by rw[c7,ak,cS]
 refine⟨_,rfl,by rw[je,ak,cS];omega,?_⟩
 rw[DQ]
 refine Av.nil ⟨rfl,p,ls.length+rows.length,bB p ls.length rows,ls.map some++os,rfl,by rw[hnl];exact hX.o7,hX.I0 cS jI,by rw[hnl];omega,?_⟩
 rw[hX.FP cS jI,hX.Sj cS hos,hX.NT,iz,<-nh]
 walk_at "dt"
 have hok:rM 5 (.tuple [aO (ay p ls rows rows.length), .list ((qK p ls rows).map fun t=>i8 [t])]):= .inr ⟨_, .inr rfl,by show 2<=10000;omega,fun e he=>by
  rcases aG.mp he with rfl|he
  ·exact hal _ mV (by omega) 2
  ·rw[aP.mp he]
   refine .inr ⟨_, .inl rfl,by rw[ak];unfold qK;rw[ak,pR];omega,fun e he=>?_⟩
   obtain⟨t,_,rfl⟩:=cZ.mp he
   refine .inr ⟨_, .inl rfl,by show 1<=10000;omega,fun e he=>?_⟩
   rw[aP.mp he]
   refine .inr ⟨_, .inr rfl,by show 3<=10000;omega,fun e he=>?_⟩
   simp only[aG,cF,or_false] at he
   rcases he with rfl|rfl|rfl<;>exact .inl rfl⟩
 refine⟨rfl,_,rfl,hok,?_⟩
 walk_at "dt"
 refine aB.ev (aB.jV (by decide) rfl ?_)
 walk_at "dt"
 rw[nR]
 refine⟨by rw[hdl];omega,fun v=>?_⟩
 refine eX.rel c8 false (fun i o=>∀x,o=some x->(ay p ls rows rows.length)[ls.length+i]?=some x) ?_ fun os cS hos=>?_
 ·rintro i d hd
  obtain⟨x,hx,rfl⟩:=gH hd
  rw[List.getElem?_drop] at hx
  walk_at "dt"
  refine⟨by walk_at "wk",?_⟩
  walk_at "dt"
  intro y y0 y1
  walk_at "dt"
  by_cases c0:y=0
  ·rw[if_pos (by simpa using c0)]
   walk_at "dt"
   exact⟨none,rfl,fun x z=>by cases z⟩
  ·rw[if_neg (by simpa using c0)]
   walk_at "dt"
   exact⟨some x,rfl,fun x z=>by cases z;exact hx⟩
 rw[hdl] at cS
 have jI:∀(i:Nat) x,os[i]?=some (some x)->(ay p ls rows rows.length)[ls.length+i]?=some x:=fun i x e=>hos i _ e x rfl
 have hnl:(ls.map some++os).length=ls.length+rows.length:=by rw[c7,ak,cS]
 refine⟨_,rfl,by rw[je,ak,cS];omega,?_⟩
 rw[DQ]
 walk_at "dt"
 refine Ev.e7 (qu 5) ?_
 walk_at "dt"
 refine Ev.e7 GD ?_
 walk_at "dt"
 refine⟨rfl,p,ls.length+rows.length,bB p ls.length rows,ls.map some++os,rfl,by rw[hnl];exact hX.o7,hX.I0 cS jI,by rw[hnl];omega,?_⟩
 rw[hX.FP cS jI,<-nh]
 walk_at "dt"
 refine⟨rfl,_,rfl,hal _ mV (by omega) 3,?_⟩
 exact q
def z3:DF:=fun ds Φ=>∃(p:Int) (ls:List Int) (rows:List (List Int)),ds=[.int p, .int (ls.length:Int), .list (rows.map aO),aO ls]/\bf p ls rows/\Φ true (.bool true)
theorem Pw:eG z3:=by
 intro ds Φ Ψ hm z
 obtain⟨p,ls,rows,e,h1,q⟩:=hm
 exact⟨p,ls,rows,e,h1,z _ _ q⟩
theorem qR(rows:List (List Int))(ls:List Int):SeqAt.shaped (.tuple [.list (rows.map aO),aO ls])=true:=by
  have h:PyData.depthAll (rows.map aO)<=1/\PyData.canLayAll0 (rows.map aO)=true:=by
    have:=Hw rows
    unfold SeqAt.shaped at this
    simp[PyData.canLay0,PyData.depth] at this
    refine⟨?_,this.1⟩
    clear this
    induction rows with
    |nil=>simp[PyData.depthAll]
    | cons r rs ih =>
      have h2:=t9 (r.map some)
      rw[show(r.map some).map c8=r.map PyData.int by rw[iz];rfl] at h2
      simp[PyData.depthAll,PyData.depth,h2.1]
      omega
  have h2:=t9 (ls.map some)
  rw[show(ls.map some).map c8=ls.map PyData.int by rw[iz];rfl] at h2
  unfold SeqAt.shaped
  simp[PyData.canLay0,PyData.canLayAll0,PyData.depth,PyData.depthAll,h.2,h2.1,h2.2]
  have:=h.1
  omega
theorem mP:ck ["bag","p","k","rows","letters","handed","word","net","kept","at","bad"] ["bag","p","k","rows","letters"] (aM vW):=⟨rfl,rfl,rfl,by decide+kernel,rfl,by decide+kernel,by decide+kernel⟩
theorem V3(F:bH K "_law_right" "_law_right" vW f fd)(EU:Callee P w K mg base "laid" 3 ["p","k","rows","letters"] (bT 4 uc))(AM:Callee P w K mg base "staired" 2 ["p","k","rows"] (bT 3 uv))(IV:Callee P w K mg base "is_true" 4 ["net","word"] (bT 2 Br))(N6:Callee P w K mg base "_law_begins" 2 ["p","k","rows","letters","word"] (bT 5 BH))(Va:Callee P w K mg base "_law_mended_right" 9 ["bag","net","letters","word"] (iu 4 wL))(oM:Callee P w K mg base "_law_alike" 5 ["found","due"] (bT 2 (nB 5)))(ff:Callee P w K mg base "_law_draw" 2 ["bag","many"] kO)(cK:mg "list"=none)(bE:mg "len"=none):
  bu P w K mg base bD 10 f fd ["bag","p","k","rows","letters"] (iu 5 z3):=by
 refine F.ok mP (fun vs H Q E h=>h.1) (fun cdv A outer s H vs Q E hr h=>?_)
 obtain⟨b,l,ws,nb,ds,Φ,rfl,hB,hlive,hnb,hds,aE,hF⟩:=sC h
 obtain⟨p,ls,rows,rfl,hX,q⟩:=hF
 refine⟨_,(@aA _ _ _ _ _ (@aR _ _ (5) _ _ _ _ mP.nd rfl (Or.inl rfl) (@iy _ _ _ _ _ (@aa _ _ _ _ _ (gn (dO.of (show eO (aM vW) ["bag","p","k","rows","letters","handed","word","net","kept","at","bad"] _ ["row"] [none]=true by decide+kernel)) (gz (K:=K) rfl (pv 3)) (fun _ _ _ _=>⟨(bN (i:=0) (by show List.Nodup (["row"]:List Str);decide+kernel) rfl (Or.inl rfl)),gp,(@iV _ _ _ _ _ _ _ _ (gR K) lC rfl cK iA (@aa _ _ _ _ _ (pv 0) aj rfl) (by decide) (by decide) (by rfl) (by rfl))⟩)) (@aa _ _ _ _ _ (@iV _ _ _ _ _ _ _ _ (gR K) lC rfl cK iA (@aa _ _ _ _ _ (pv 4) aj rfl) (by decide) (by decide) (by rfl) (by rfl)) aj rfl) rfl)) (by rfl) (by first|exact .inl rfl|exact .inr rfl|assumption)) (@aA _ _ _ _ _ (@aR _ _ (6) _ _ _ _ mP.nd rfl (Or.inl rfl) (@aY _ _ _ _ _ _ _ _ _ _ EU (hr.mono (by decide)) (@aa _ _ _ _ _ (pv 1) (@aa _ _ _ _ _ (pv 2) (@aa _ _ _ _ _ (@aT _ _ _ _ _ _ (dX K) eU (pv 5) ao (fun _ _=>rfl)) (@aa _ _ _ _ _ (@aT _ _ _ _ _ _ (dX K) eU (pv 5) ao (fun _ _=>rfl)) aj rfl) rfl) rfl) rfl) (by rfl) (by decide) (by rfl) (by rfl)) (by rfl) (by first|exact .inl rfl|exact .inr rfl|assumption)) (@aA _ _ _ _ _ (@dR _ _ _ _ _ _ _ _ (PW.pt (p6 (@mC _ _ _ _ (@j8 _ (K) _ _ rfl (@aY _ _ _ _ _ _ _ _ _ _ N6 (hr.mono (by decide)) (@aa _ _ _ _ _ (pv 1) (@aa _ _ _ _ _ (pv 2) (@aa _ _ _ _ _ (pv 3) (@aa _ _ _ _ _ (pv 4) (@aa _ _ _ _ _ (pv 6) aj rfl) rfl) rfl) rfl) rfl) (by rfl) (by decide) (by rfl) (by rfl)) (fun _=>rfl))) (qM (@cM _ _ _ _ _ _ _ _ (qq hr.units) (pv 5) (@iy _ _ _ _ _ (@aa _ _ _ _ _ (pv 3) (@aa _ _ _ _ _ (pv 4) aj rfl) rfl)) (bM _))))) (@aJ _ _ _ (@aZ _ _ _ _ fU)) eN) (@aA _ _ _ _ _ (@aR _ _ (7) _ _ _ _ mP.nd rfl (Or.inl rfl) (@aY _ _ _ _ _ _ _ _ _ _ AM (hr.mono (by decide)) (@aa _ _ _ _ _ (pv 1) (@aa _ _ _ _ _ (pv 2) (@aa _ _ _ _ _ (@aT _ _ _ _ _ _ (dX K) eU (pv 5) ao (fun _ _=>rfl)) aj rfl) rfl) rfl) (by rfl) (by decide) (by rfl) (by rfl)) (by rfl) (by first|exact .inl rfl|exact .inr rfl|assumption)) (@aA _ _ _ _ _ (@dR _ _ _ _ _ _ _ _ (@cM _ _ _ _ _ _ _ _ JV (@aY _ _ _ _ _ _ _ _ _ _ IV (hr.mono (by decide)) (@aa _ _ _ _ _ (pv 7) (@aa _ _ _ _ _ (@iV _ _ _ _ _ _ _ _ (gR K) lC rfl cK iA (@aa _ _ _ _ _ (pv 6) aj rfl) (by decide) (by decide) (by rfl) (by rfl)) aj rfl) rfl) (by rfl) (by decide) (by rfl) (by rfl)) fU (bM _)) (@aJ _ _ _ (@aZ _ _ _ _ fU)) eN) (@aA _ _ _ _ _ (@dR _ _ _ _ _ _ _ _ (PW.pt (ug (@cM _ _ _ _ _ _ _ _ GI (@bL _ _ _ _ _ _ _ _ (fQ K) gZ rfl bE gE (@aa _ _ _ _ _ (pv 3) aj rfl) (by decide) (by decide) (by rfl) (by rfl)) ao (bM _)) (ur (@mC _ _ _ _ (@j8 _ (K) _ _ rfl (@aY _ _ _ _ _ _ _ _ _ _ Va (hr.mono (by decide)) (@aa _ _ _ _ _ (pv 0) (@aa _ _ _ _ _ (pv 7) (@aa _ _ _ _ _ (pv 4) (@aa _ _ _ _ _ (pv 6) aj rfl) rfl) rfl) rfl) (by rfl) (by decide) (by rfl) (by rfl)) (fun _=>rfl)))))) (@aJ _ _ _ (@aZ _ _ _ _ fU)) eN) (@aA _ _ _ _ _ (@aR _ _ (8) _ _ _ _ mP.nd rfl (Or.inl rfl) (@iV _ _ _ _ _ _ _ _ (gR K) lC rfl cK iA (@aa _ _ _ _ _ (pv 6) aj rfl) (by decide) (by decide) (by rfl) (by rfl)) (by rfl) (by first|exact .inl rfl|exact .inr rfl|assumption)) (@aA _ _ _ _ _ (@vA _ _ _ _ (tF vQ uB u7 qE (pv 6) (@aa _ _ _ _ _ ao aj rfl)) (by rfl)) (@aA _ _ _ _ _ (@dR _ _ _ _ _ _ _ _ (PW.pt (p6 (@cM _ _ _ _ _ _ _ _ (qq hr.units) (pv 5) (@iy _ _ _ _ _ (@aa _ _ _ _ _ (pv 3) (@aa _ _ _ _ _ (pv 4) aj rfl) rfl)) (bM _)) (qM (@mC _ _ _ _ (@j8 _ (K) _ _ rfl (@aY _ _ _ _ _ _ _ _ _ _ oM (hr.mono (by decide)) (@aa _ _ _ _ _ (@aY _ _ _ _ _ _ _ _ _ _ EU (hr.mono (by decide)) (@aa _ _ _ _ _ (pv 1) (@aa _ _ _ _ _ (pv 2) (@aa _ _ _ _ _ (@aT _ _ _ _ _ _ (dX K) eU (pv 5) ao (fun _ _=>rfl)) (@aa _ _ _ _ _ (@aT _ _ _ _ _ _ (dX K) eU (pv 5) ao (fun _ _=>rfl)) aj rfl) rfl) rfl) rfl) (by rfl) (by decide) (by rfl) (by rfl)) (@aa _ _ _ _ _ (pv 8) aj rfl) rfl) (by rfl) (by decide) (by rfl) (by rfl)) (fun _=>rfl)))))) (@aJ _ _ _ (@aZ _ _ _ _ fU)) eN) (@aA _ _ _ _ _ (@aR _ _ (6) _ _ _ _ mP.nd rfl (Or.inl rfl) (pv 8) (by rfl) (by first|exact .inl rfl|exact .inr rfl|assumption)) (@aA _ _ _ _ _ (@dR _ _ _ _ _ _ _ _ (@cM _ _ _ _ _ _ _ _ (qq hr.units) (pv 3) (@gC _ _ _ _ aj) (bM _)) (@aA _ _ _ _ _ (@aR _ _ (9) _ _ _ _ mP.nd rfl (Or.inl rfl) (@aK _ _ _ _ _ _ _ _ eK (pv 2) (@aY _ _ _ _ _ _ _ _ _ _ ff (hr.mono (by decide)) (@aa _ _ _ _ _ (pv 0) (@aa _ _ _ _ _ (@bL _ _ _ _ _ _ _ _ (fQ K) gZ rfl bE gE (@aa _ _ _ _ _ (pv 3) aj rfl) (by decide) (by decide) (by rfl) (by rfl)) aj rfl) rfl) (by rfl) (by decide) (by rfl) (by rfl))) (by rfl) (by first|exact .inl rfl|exact .inr rfl|assumption)) (@aA _ _ _ _ _ (@aR _ _ (10) _ _ _ _ mP.nd rfl (Or.inl rfl) (@iV _ _ _ _ _ _ _ _ (gR K) lC rfl cK iA (@aa _ _ _ _ _ (pv 6) aj rfl) (by decide) (by decide) (by rfl) (by rfl)) (by rfl) (by first|exact .inl rfl|exact .inr rfl|assumption)) (@aA _ _ _ _ _ (@lJ _ _ _ _ _ _ (@aK _ _ _ _ _ _ _ _ iU (@aK _ _ _ _ _ _ _ _ eK (@aK _ _ _ _ _ _ _ _ eK (@aT _ _ _ _ _ _ (fh K) cE (pv 6) (pv 9) (fun _ _=>rfl)) ao) (@aY _ _ _ _ _ _ _ _ _ _ ff (hr.mono (by decide)) (@aa _ _ _ _ _ (pv 0) (@aa _ _ _ _ _ (@aK _ _ _ _ _ _ _ _ mw (pv 1) ao) aj rfl) rfl) (by rfl) (by decide) (by rfl) (by rfl))) (pv 1)) (mG (pv 10) (pv 9) set_list) (by rfl) (by rfl) (by rfl)) (@aJ _ _ _ (@aZ _ _ _ _ (@lV _ _ _ _ _ _ _ _ Rw (@aY _ _ _ _ _ _ _ _ _ _ IV (hr.mono (by decide)) (@aa _ _ _ _ _ (pv 7) (@aa _ _ _ _ _ (pv 10) aj rfl) rfl) (by rfl) (by decide) (by rfl) (by rfl)) fU (bM _))))))) eN) (@aJ _ _ _ (@aZ _ _ _ _ fU))))))))))))),?_⟩
 refine Sv.qF hB hlive hnb hds aE (ρ:=[.au, .d false _, .d false _, .d false _, .d false _, .no, .no, .no, .no, .no, .no]) rfl ?_
 clear aE hds
 have p2:=hX.hp.1
 have iI:=hX.iI
 have k1:=hX.k1
 have ml:=hX.ml
 have hW:=hX.j4
 have mV:=hX.nH
 have je:(ls.map PyData.int).length=ls.length:=ak ..
 have hee:PyData.eqv (.tuple [.list (rows.map aO),aO ls]) (.tuple [.list (rows.map aO),aO ls])=true:=eqv_refl _ (.inl (qR rows ls))
 have nh:∀w:List Int,aO w=fN (w.map some):=fun w=>by show PyData.list _=PyData.list _;rw[iz];rfl
 have tX:((ay p ls rows rows.length).map PyData.int).length=ls.length+rows.length:=by rw[ak,hW]
 have hrm:(rows.map aO).length=rows.length:=ak ..
 generalize qJ:(qX (fS (g9 (bT 4 uc) _ _ _) _) _:TS)=tl
 walk_at "dt"
 refine aB.ev (aB.jV (by decide) rfl ?_)
 walk_at "dt"
 intro v
 refine eX.rel aO true (fun i r=>∃r',rows[i]?=some r'/\r=r') ?_ fun os cS hos=>?_
 ·rintro i d hd
  obtain⟨r,hr,rfl⟩:=gH hd
  walk_at "dt"
  refine⟨by walk_at "wk",?_⟩
  walk_at "dt"
  exact⟨fun _=>by rw[wB];rfl,r,rfl,r,hr,rfl⟩
 rw[hrm] at cS
 have ho:os=rows:=by have:=r6 (φ:=id) cS hos;rwa[List.map_id] at this
 subst ho
 walk_at "dt"
 subst qJ
 refine Sv.seq ?_
 refine Sv.SJ (pG.e7 D7 ?_)
 walk_at "dt"
 refine⟨rfl,p,ls,os,rfl,hX,rfl, .inl ⟨_,rfl,fun A6=>?_⟩⟩
 refine Sv.seq ?_
 refine Sv.nF ?_
 refine Tv.lend 6 rfl ?_
 walk_at "dt"
 have Iw:(PyData.eqv (.tuple [.list (os.map aO), .list (ls.map .int)]) (.tuple [.list (os.map aO),aO ls]) !=true)=false:=by rw[show PyData.eqv _ _=true from hee];rfl
 refine Ev.e7 OA ?_
 walk_at "dt"
 refine⟨rfl,p,ls,os,rfl,hX,?_⟩
 walk_at "dt"
 simp only[bx,k9]
 refine⟨qR os ls,qR os ls,_,rfl,?_⟩
 rw[Iw,if_neg bq]
 walk_at "dt"
 refine Ev.e7 DU ?_
 walk_at "dt"
 refine⟨rfl,p,ls.length,os,rfl,by omega,fun r hr=>by have:=(hX.rk r hr).2.2;omega,?_⟩
 refine Gv.name ?_
 refine Sv.seq ?_
 refine Sv.nF ?_
 refine Tv.lend 6 rfl ?_
 walk_at "dt"
 refine Ev.e7 IJ ?_
 walk_at "dt"
 have OM:=hX.o7
 have Eg:∀prs∈bB p ls.length os,nE prs (ls.length+os.length):=fun prs eS=>(OM.2.2.2 prs eS).2.1
 have hcl:(bB p ls.length os).length<=10000:=by rw[m9];omega
 have hno:∀w:List Int,none∉w.map some:=fun w h=>by obtain⟨x,_,e⟩:=cZ.mp h;cases e
 have HJ:∀w:List Int,(∀x∈w,0<=x/\x<p)->gG (w.map some):=fun w h x hx=>by
  obtain⟨y,hy,e⟩:=cZ.mp hx
  cases e
  have:=h x hy
  unfold Sm;omega
 have hwl:((ay p ls os os.length).map some).length=ls.length+os.length:=by rw[ak,hW]
 refine⟨rfl,p,ls.length+os.length,bB p ls.length os,(ay p ls os os.length).map some,by show[_,aO (ay p ls os os.length)]=_;rw[nh],by omega,hcl,by rw[hwl];exact Eg,HJ _ mV,?_⟩
 rw[decide_eq_true (show nN p (bB p ls.length os) ((ay p ls os os.length).map some) from⟨hno _,hX.Ct⟩)]
 refine⟨true,rfl,false,rfl,?_⟩
 rw[if_neg bq]
 refine Sv.next ?_
 refine Sv.seq ?_
 refine Sv.uQ (fun ρ'=>ρ'=[.au, .d false (.int p), .d false (.int (ls.length:Int)), .d false (.list (os.map aO)), .d false (aO ls), .d false (.tuple [.list (os.map aO), .list (ls.map .int)]), .own A6 true ((ay p ls os os.length).map .int), .d true (eW p (ls.length+os.length) (bB p ls.length os)), .no, .no, .no]) ?_ ?_
 ·refine Sv.nF ?_
  refine Tv.lend 6 rfl ?_
  walk_at "dt"
  by_cases c:((os.map aO).length:Int)<=120
  ·rw[if_pos (by simpa using c)]
   walk_at "dt"
   refine Ev.pP Lx rfl ?_
   walk_at "dt"
   refine⟨rfl,p,ls,os,rfl,hX,?_⟩
   walk_at "dt"
   rfl
  ·rw[if_neg (by simpa using c),if_neg bq]
   refine Sv.next ?_
   rfl
 rintro ρ' rfl
 walk_at "dt"
 simp only[bx,k9]
 refine⟨qR os ls,qR os ls,_,rfl,?_⟩
 rw[Iw,if_neg bq]
 walk_at "dt"
 refine Ev.e7 (qu 5) ?_
 walk_at "dt"
 refine Ev.e7 D7 ?_
 walk_at "dt"
 refine⟨rfl,p,ls,os,rfl,hX,?_⟩
 walk_at "dt"
 have hal:rM 5 (aO (ay p ls os os.length)):= .inr ⟨_, .inl rfl,by rw[ak];omega,fun e he=>by obtain⟨y,_,rfl⟩:=cZ.mp he;exact .inl rfl⟩
 refine⟨rfl,_,rfl,hal,?_⟩
 walk_at "dt"
 rw[k9]
 refine⟨Hw os,HE,_,rfl,?_⟩
 rw[show PyData.eqv (.list (os.map aO)) (.list [])=decide (os=[]) by cases os<;>simp[PyData.eqv,PyData.eqvAll]]
 by_cases c:os=[]
 ·rw[if_neg (by simp[c])]
  walk_at "dt"
  exact q
 rw[if_pos (by simp[c])]
 have Xd:0<os.length:=tV.mpr c
 generalize NC:(qX (fS (fJ (gR K) (bC (cI 6) cz)) (gP 10)) _:TS)=tl2
 walk_at "dt"
 rw[hrm]
 intro r r0 r1
 walk_at "dt"
 subst NC
 refine Sv.seq ?_
 refine Sv.zT (aB.listOf ?_)
 walk_at "dt"
 intro A10
 refine Sv.seq ?_
 refine Sv.xG rfl ?_
 walk_at "dt"
 obtain⟨c0,hc0⟩:∃c0:Nat,r=(c0:Int):=⟨r.toNat,by omega⟩
 subst hc0
 have hcc:c0<os.length:=by omega
 obtain⟨x,hx⟩:∃x,(ay p ls os os.length)[ls.length+c0]?=some x:=⟨_,aI (by omega)⟩
 have JD:=mV x (eY hx)
 refine⟨_,jx (v:= .int x) (by omega) (by rw[show((ls.length:Int)+(c0:Int)).toNat=ls.length+c0 by omega,bI,hx];rfl),_,rfl,?_⟩
 walk_at "dt"
 intro y y0 y1
 walk_at "dt"
 obtain⟨z,hz⟩:∃z,(x+1+y)%p=z:=⟨_,rfl⟩
 have z0:0<=z:=by rw[<-hz];exact iW _ (by omega)
 have z1:z<p:=by rw[<-hz];exact iX _ (by omega)
 have hxz:(ay p ls os os.length)[ls.length+c0]?≠some z:=by
  rw[hx]
  intro e
  cases e
  by_cases c9:x+1+y<p
  ·rw[CC (by omega) c9] at hz;omega
  ·rw[<-Int.sub_emod_right,CC (by omega) (by omega)] at hz;omega
 rw[hz]
 refine⟨_,ls.length+c0,rfl,by rw[tX,ES (by omega) (by omega)];congr 1,?_⟩
 rw[<-show((ay p ls os os.length).set (ls.length+c0) z).map PyData.int=((ay p ls os os.length).map PyData.int).set (ls.length+c0) (.int z) from List.map_set ..]
 refine Sv.ret ?_
 refine Ev.lend 10 rfl ?_
 walk_at "dt"
 refine Ev.e7 IJ ?_
 walk_at "dt"
 have hsl:(((ay p ls os os.length).set (ls.length+c0) z).map some).length=ls.length+os.length:=by rw[ak,gQ,hW]
 refine⟨rfl,p,ls.length+os.length,bB p ls.length os,((ay p ls os os.length).set (ls.length+c0) z).map some,by show[_,aO ((ay p ls os os.length).set (ls.length+c0) z)]=_;rw[nh],by omega,hcl,by rw[hsl];exact Eg,HJ _ (fun u hu=>by rcases IM hu with h|h;exact mV u h;subst h;exact⟨z0,z1⟩),?_⟩
 rw[decide_eq_false (hX.bad hcc z0 z1 hxz)]
 exact⟨false,rfl,rfl,q⟩
theorem lO:ck ["script","bag","again","great","p","k","letters","rows"] ["script"] (aM lE):=⟨rfl,rfl,rfl,by decide+kernel,rfl,by decide+kernel,by decide+kernel⟩
theorem KI(F:bH K "law" "law" lE f fd)(RG:Callee P w K mg base "_law_bag" 1 ["script"] (DI K))(SD:Callee P w K mg base "_law_prime" 3 ["bag"] (iu 1 zD))(Ng:Callee P w K mg base "_law_letters" 3 ["bag","p","n"] (iu 3 xm))(Mr:Callee P w K mg base "_law_rows" 3 ["bag","k","many"] (iu 3 BD))(ff:Callee P w K mg base "_law_draw" 2 ["bag","many"] kO)(Ld:Callee P w K mg base "_law_right" 10 ["bag","p","k","rows","letters"] (iu 5 z3))(bZ:mg "range"=none)(pe:mg "min"=none)(bE:mg "len"=none)(fV:mg "int"=none):
  bu P w K mg base bD 11 f fd ["script"] (vm K):=by
 refine F.ok lO (fun vs H Q E h=>?_) (fun cdv A outer s H vs Q E hr h=>?_)
 ·obtain⟨a,ns,rfl,hS,hl,q⟩:=h
  rfl
 obtain⟨a,ns,rfl,hS,hl,q⟩:=h
 refine⟨_,(@aA _ _ _ _ _ (@aR _ _ (1) _ _ _ _ lO.nd rfl (Or.inl rfl) (@aY _ _ _ _ _ _ _ _ _ _ RG (hr.mono (by decide)) (@aa _ _ _ _ _ (pv 0) aj rfl) (by rfl) (by decide) (by rfl) (by rfl)) (by rfl) (by first|exact .inl rfl|exact .inr rfl|assumption)) (@aA _ _ _ _ _ (@jW _ _ _ _ _ _ _ _ iO rfl (@kK _ _ _ _ _ _ rfl bZ (@aa _ _ _ _ _ (@aK _ _ _ _ _ _ _ _ eK ao (@bL _ _ _ _ _ _ _ _ _ (EM rfl) rfl pe Hj (@aa _ _ _ _ _ (@aK _ _ _ _ _ _ _ _ qy (@bL _ _ _ _ _ _ _ _ (fQ K) gZ rfl bE gE (@aa _ _ _ _ _ (pv 0) aj rfl) (by decide) (by decide) (by rfl) (by rfl)) ao) (@aa _ _ _ _ _ ao aj rfl) rfl) (by decide) (by decide) (by rfl) (by rfl))) aj rfl) (by rfl)) (bN (i:=2) lO.nd rfl (Or.inl rfl)) (@aA _ _ _ _ _ (@aR _ _ (3) _ _ _ _ lO.nd rfl (Or.inl rfl) (@zO _ _ _ _ _ _ _ (@lV _ _ _ _ _ _ _ _ jf (@aY _ _ _ _ _ _ _ _ _ _ ff (hr.mono (by decide)) (@aa _ _ _ _ _ (pv 1) (@aa _ _ _ _ _ ao aj rfl) rfl) (by rfl) (by decide) (by rfl) (by rfl)) ao (bM _)) (@yJ _ _ _ _ _ (@lV _ _ _ _ _ _ _ _ jf (pv 2) ao (bM _)))) (by rfl) (by first|exact .inl rfl|exact .inr rfl|assumption)) (@aA _ _ _ _ _ (@aR _ _ (4) _ _ _ _ lO.nd rfl (Or.inl rfl) (@aY _ _ _ _ _ _ _ _ _ _ SD (hr.mono (by decide)) (@aa _ _ _ _ _ (pv 1) aj rfl) (by rfl) (by decide) (by rfl) (by rfl)) (by rfl) (by first|exact .inl rfl|exact .inr rfl|assumption)) (@aA _ _ _ _ _ (@aR _ _ (5) _ _ _ _ lO.nd rfl (Or.inl rfl) (@aK _ _ _ _ _ _ _ _ eK ao (@aY _ _ _ _ _ _ _ _ _ _ ff (hr.mono (by decide)) (@aa _ _ _ _ _ (pv 1) (@aa _ _ _ _ _ (@aT _ _ _ _ _ _ (fh K) cE (@gC _ _ _ _ (@aa _ _ _ _ _ ao (@aa _ _ _ _ _ ao aj rfl) rfl)) (@iV _ _ _ _ _ _ _ _ _ wD rfl fV o6 (@aa _ _ _ _ _ (pv 3) aj rfl) (by decide) (by decide) (by rfl) (by rfl)) (fun _ _=>rfl)) aj rfl) rfl) (by rfl) (by decide) (by rfl) (by rfl))) (by rfl) (by first|exact .inl rfl|exact .inr rfl|assumption)) (@aA _ _ _ _ _ (@aR _ _ (6) _ _ _ _ lO.nd rfl (Or.inl rfl) (@aY _ _ _ _ _ _ _ _ _ _ Ng (hr.mono (by decide)) (@aa _ _ _ _ _ (pv 1) (@aa _ _ _ _ _ (pv 4) (@aa _ _ _ _ _ (pv 5) aj rfl) rfl) rfl) (by rfl) (by decide) (by rfl) (by rfl)) (by rfl) (by first|exact .inl rfl|exact .inr rfl|assumption)) (@aA _ _ _ _ _ (@aR _ _ (7) _ _ _ _ lO.nd rfl (Or.inl rfl) (@aY _ _ _ _ _ _ _ _ _ _ Mr (hr.mono (by decide)) (@aa _ _ _ _ _ (pv 1) (@aa _ _ _ _ _ (pv 5) (@aa _ _ _ _ _ (@aY _ _ _ _ _ _ _ _ _ _ ff (hr.mono (by decide)) (@aa _ _ _ _ _ (pv 1) (@aa _ _ _ _ _ (@aT _ _ _ _ _ _ (fh K) cE (@gC _ _ _ _ (@aa _ _ _ _ _ ao (@aa _ _ _ _ _ ao aj rfl) rfl)) (@iV _ _ _ _ _ _ _ _ _ wD rfl fV o6 (@aa _ _ _ _ _ (pv 3) aj rfl) (by decide) (by decide) (by rfl) (by rfl)) (fun _ _=>rfl)) aj rfl) rfl) (by rfl) (by decide) (by rfl) (by rfl)) aj rfl) rfl) rfl) (by rfl) (by decide) (by rfl) (by rfl)) (by rfl) (by first|exact .inl rfl|exact .inr rfl|assumption)) (@aJ _ _ _ (@dR _ _ _ _ _ _ _ _ (@mC _ _ _ _ (@j8 _ (K) _ _ rfl (@aY _ _ _ _ _ _ _ _ _ _ Ld (hr.mono (by decide)) (@aa _ _ _ _ _ (pv 1) (@aa _ _ _ _ _ (pv 4) (@aa _ _ _ _ _ (pv 5) (@aa _ _ _ _ _ (pv 7) (@aa _ _ _ _ _ (pv 6) aj rfl) rfl) rfl) rfl) rfl) (by rfl) (by decide) (by rfl) (by rfl)) (fun _=>rfl))) (@aJ _ _ _ (@aZ _ _ _ _ fU)) eN))))))) (by intro _;rfl)) (@aJ _ _ _ (@aZ _ _ _ _ fU)))),?_⟩
 walk_at "st"
 refine⟨a,ns,rfl,hS,hl,fun b l H1 s1 f1 B1=>?_⟩
 have Ni:=s1.seq hS
 walk_at "st"
 refine R.RN Ni ?_
 walk_at "st"
 refine R.VX ?_
 walk_at "st"
 refine Sv.Js (G:=Cq b l H1) (E:={nx:=fun _=>True,rt:=fun _ d=>d= .bool true}) (ρ:=[.no, .au, .no, .no, .no, .no, .no, .no]) (VJ (m:=6) B1) (UX (fun σ H=>by walk_at "st";exact q _) (fun H=>q _)) ?_
 refine⟨fun _ ρ=>∃x2 x3 x4 x5 x6 x7:Sl,ρ=[.no, .au,x2,x3,x4,x5,x6,x7],⟨_,_,_,_,_,_,rfl⟩,?_,fun _ _=>trivial⟩
 rintro i d ρ ⟨hi,rfl⟩ ⟨x2,x3,x4,x5,x6,x7,rfl⟩
 refine Gv.pK ?_
 refine Sv.seq ?_
 refine Sv.uQ (fun ρ'=>∃gr:Bool,ρ'=[.no, .au, .d true (.int (0+(i:Int))), .d true (.bool gr),x4,x5,x6,x7]) ?_ ?_
 ·walk_at "dt"
  intro w0 w1 w2
  walk_at "dt"
  by_cases c:w0=7
  ·rw[if_pos (by simpa using c)]
   walk_at "dt"
   exact⟨_,rfl⟩
  ·rw[if_neg (by simpa using c)]
   walk_at "dt"
   exact⟨_,rfl⟩
 rintro ρ' ⟨gr,rfl⟩
 walk_at "dt"
 refine Ev.pP Ue rfl ?_
 walk_at "dt"
 refine⟨rfl,fun p hp iI f0=>?_⟩
 have p2:=hp.1
 refine Gv.pK ?_
 walk_at "dt"
 obtain⟨g,hg,g0,g1⟩:∃g:Int,(if gr=true then 1 else 0:Int)=g/\0<=g/\g<2:=⟨_,rfl,by split<;>omega,by split<;>omega⟩
 rw[hg]
 refine Exists.elim (pick (L:=[9,200]) g0 g1 (fun x=>1<=x/\x<=200) (by decide)) fun m em=>⟨_,em.1,m,rfl,by omega,by unfold Sm;omega,?_⟩
 intro r r0 r1
 walk_at "dt"
 refine Ev.pP Lb rfl ?_
 walk_at "dt"
 refine⟨rfl,p,1+r,rfl,⟨p2,by omega⟩,by omega,by omega,fun ls hls hlr=>?_⟩
 refine Gv.name ?_
 walk_at "dt"
 refine Ev.pP Rf rfl ?_
 walk_at "dt"
 rw[hg]
 refine Exists.elim (pick (L:=[9,201]) g0 g1 (fun x=>1<=x/\x<=201) (by decide)) fun m2 Vl=>⟨_,Vl.1,m2,rfl,by omega,by unfold Sm;omega,?_⟩
 intro t t0 t1
 walk_at "dt"
 refine⟨rfl,1+r,t,rfl,by omega,by omega,by omega,by omega,fun f R hR Ft=>?_⟩
 refine Gv.name ?_
 have hlk:(1+r:Int)=(ls.length:Int):=by omega
 rw[hlk]
 rw[hlk] at Ft
 have hX:bf p ls R:=⟨hp,iI,by omega,by omega,hlr,by omega,Ft⟩
 walk_at "dt"
 refine Ev.pP Pw rfl ?_
 walk_at "dt"
 refine⟨rfl,p,ls,R,rfl,hX,?_⟩
 walk_at "dt"
 exact⟨_,_,_,_,_,_,rfl⟩
end
local macro_rules| `(tactic|walk_at "bn")=> `(tactic|(intro _ _ _ _ _ _ us hl;first|(obtain⟨_,h⟩:=FY hl;subst h;rfl)|(obtain⟨_,_,h⟩:=ln2 hl;subst h;rfl)|(obtain⟨_,_,_,h⟩:=JA hl;subst h;rfl)|(obtain⟨_,_,_,_,h⟩:=Jt hl;subst h;rfl)|(obtain⟨_,_,_,_,_,h⟩:=R1 hl;subst h;rfl)|(obtain⟨_,_,_,_,_,_,h⟩:=ln6 hl;subst h;rfl)|(obtain⟨_,_,_,_,_,_,_,h⟩:=ln7 hl;subst h;rfl)))
theorem all_mk{l:PySem.W.OpenLaw}{w:World}{K:PySem.W.Frag}{h:Heap}{mg:Str->Option Value}{fa:Addr}{f0 f1 f2 f3 f4 f5 f6 f7 f8 f9 Lu S4 Np P6 L4 Qv SO M1 Mx JO Q7 NJ Wf PK Lk Rk yG sF rm rq qT:Addr}(X:K.In h)(G:h.Ns mainGlobals mg)(JS:mg "law"=some (.ref fa))
  {Nr E7:Option Addr} {Tn:Array (Option Value)} {Wa DP Jw GW zv Gu:Value} {Sg SE:Option Addr} {SG:Array (Option Value)} {Mz Qk NP N5 Hg Lo:Value} {Kf OE:Option Addr} {Qn:Array (Option Value)} {J0 Ql LX KR Jd Wh:Value} {Pr Tq:Option Addr} {QJ:Array (Option Value)} {QW K8 Of QX FI NU:Value} {OQ SW:Option Addr} {JP:Array (Option Value)} {M8 Uo Wv Rg EK Vj:Value}
  {aW:Addr} (wC:PySem.W.nsIn K mainGlobals "Mender"=some (some (.ref aW))) (Cm:PySem.W.plainGet K aW Str.empty=true) (C4:PySem.W.hasDictIn K aW=true) (BE:PySem.W.plainOver K aW=true) (Au:PySem.W.findIn K (.ref aW) "__setattr__"=some (some (.builtin "object.__setattr__"))) (yN:PySem.W.makesIn K aW=true) (xT:PySem.W.keepIn K (.ref aW)=true)
  (l6:PySem.W.findIn K (.ref aW) "net"=some none)
  (jy:PySem.W.findIn K (.ref aW) "letters"=some none)
  (d0:aV K "over" "over" ya f0)
  (d1:aV K "inverse" "inverse" Ci f1)
  (d2:aV K "total" "total" xu f2)
  (d3:aV K "staired" "staired" sY f3)
  (d4:aV K "stair" "stair" tN f4)
  (d5:aV K "laid" "laid" zU f5)
  (d6:aV K "sums" "sums" tO f6)
  (d7:aV K "sum_of" "sum_of" Bc f7)
  (d8:aV K "is_true" "is_true" vH f8)
  (d9:aV K "told_by" "told_by" yv f9)
  (yu:aV K "told_for" "told_for" uA Lu)
  (AK:aV K "round_of" "round_of" tH S4)
  (Bw:aV K "copied" "copied" vK Np)
  (zE:aV K "mended" "mended" By P6)
  (AR:aV K "_law_bag" "_law_bag" vX L4)
  (ym:aV K "_law_stirred" "_law_stirred" Cc Qv)
  (yF:aV K "_law_draw" "_law_draw" CJ SO)
  (yR:aV K "_law_prime_from" "_law_prime_from" uI M1)
  (zw:aV K "_law_prime" "_law_prime" Bs Mx)
  (wZ:aV K "_law_letters" "_law_letters" rW JO)
  (yU:aV K "_law_whole" "_law_whole" Cv Q7)
  (xW:aV K "_law_alike" "_law_alike" uu NJ)
  (zj:aV K "_law_rows" "_law_rows" qp Wf)
  (Bd:aV K "_law_begins" "_law_begins" rC PK)
  (yW:aV K "_law_mended_right" "_law_mended_right" oK Lk)
  (yr:aV K "_law_right" "_law_right" vW Rk)
  (Cj:PySem.W.nsIn K mainGlobals "law"=some (some (.ref yG))) (xD:K.lookup yG=some ⟨Wa,Nr, .func (PySem.W.fnOf "law" "law" (jM lE) (jg lE) (aM lE) .none DP Jw GW E7 zv Gu),Tn⟩) (CW:PySem.W.codeIn K zv "law"=true) (CG:PySem.W.keepIn K (.ref yG)=true)
  (As:PySem.W.findIn K (.ref aW) "__init__"=some (some (.ref sF))) (xV:PySem.W.isFn K (.ref sF)=true) (B5:K.lookup sF=some ⟨Mz,Sg, .func (PySem.W.fnOf "__init__" "Mender.__init__" (jM oE) (jg oE) (aM oE) .none Qk NP N5 SE Hg Lo),SG⟩) (wG:PySem.W.codeIn K Hg "Mender.__init__"=true) (CI:PySem.W.keepIn K (.ref sF)=true)
  (xK:PySem.W.findIn K (.ref aW) "step"=some (some (.ref rm))) (xj:PySem.W.isFn K (.ref rm)=true) (B9:K.lookup rm=some ⟨J0,Kf, .func (PySem.W.fnOf "step" "Mender.step" (jM oX) (jg oX) (aM oX) .none Ql LX KR OE Jd Wh),Qn⟩) (zx:PySem.W.codeIn K Jd "Mender.step"=true) (uD:PySem.W.keepIn K (.ref rm)=true)
  (Ck:PySem.W.findIn K (.ref aW) "mend"=some (some (.ref rq))) (zK:PySem.W.isFn K (.ref rq)=true) (zY:K.lookup rq=some ⟨QW,Pr, .func (PySem.W.fnOf "mend" "Mender.mend" (jM ow) (jg ow) (aM ow) .none K8 Of QX Tq FI NU),QJ⟩) (zZ:PySem.W.codeIn K FI "Mender.mend"=true) (tB:PySem.W.keepIn K (.ref rq)=true)
  (wR:PySem.W.findIn K (.ref aW) "word"=some (some (.ref qT))) (zu:PySem.W.isFn K (.ref qT)=true) (Ax:K.lookup qT=some ⟨M8,OQ, .func (PySem.W.fnOf "word" "Mender.word" (jM pW) (jg pW) (aM pW) .none Uo Wv Rg SW EK Vj),JP⟩) (yH:PySem.W.codeIn K EK "Mender.word"=true) (tP:PySem.W.keepIn K (.ref qT)=true)
  (zo:PySem.W.nsIn K mainGlobals "abs"=some none)
  (Aa:PySem.W.nsIn K mainGlobals "all"=some none)
  (CH:PySem.W.nsIn K mainGlobals "bool"=some none)
  (zS:PySem.W.nsIn K mainGlobals "enumerate"=some none)
  (BS:PySem.W.nsIn K mainGlobals "int"=some none)
  (yb:PySem.W.nsIn K mainGlobals "isinstance"=some none)
  (wz:PySem.W.nsIn K mainGlobals "len"=some none)
  (wJ:PySem.W.nsIn K mainGlobals "list"=some none)
  (Bx:PySem.W.nsIn K mainGlobals "min"=some none)
  (CU:PySem.W.nsIn K mainGlobals "range"=some none)
  (AB:PySem.W.nsIn K mainGlobals "set"=some none)
  (CN:PySem.W.nsIn K mainGlobals "sorted"=some none)
  (CQ:PySem.W.nsIn K mainGlobals "str"=some none)
  (Ai:PySem.W.nsIn K mainGlobals "sum"=some none)
  (zF:PySem.W.nsIn K mainGlobals "tuple"=some none)
  :∃fd:FuncData,(∀(s:Shared) (v:Value),BindsTo s fd ⟨[v],[]⟩ [("script",v)])/\∀base:Heap,K.In base->base.Ns mainGlobals mg->bu l.prog w K mg base bD 11 fa fd ["script"] (vm K):=by
 have e:=JS.symm.trans (cG X G Cj)
 cases e
 obtain⟨a0,_,F0⟩:=d0
 have b0:=F0.binds (ps:=["p","a","b"]) (by walk_at "bn")
 obtain⟨a1,_,F1⟩:=d1
 have b1:=F1.binds (ps:=["p","b"]) (by walk_at "bn")
 obtain⟨a2,_,F2⟩:=d2
 have b2:=F2.binds (ps:=["p","pairs","word"]) (by walk_at "bn")
 obtain⟨a3,_,F3⟩:=d3
 have b3:=F3.binds (ps:=["p","k","rows"]) (by walk_at "bn")
 obtain⟨a4,_,F4⟩:=d4
 have b4:=F4.binds (ps:=["p","k","c","row"]) (by walk_at "bn")
 obtain⟨a5,_,F5⟩:=d5
 have b5:=F5.binds (ps:=["p","k","rows","letters"]) (by walk_at "bn")
 obtain⟨a6,_,F6⟩:=d6
 have b6:=F6.binds (ps:=["net","word"]) (by walk_at "bn")
 obtain⟨a7,_,F7⟩:=d7
 have b7:=F7.binds (ps:=["p","pairs","word"]) (by walk_at "bn")
 obtain⟨a8,_,F8⟩:=d8
 have b8:=F8.binds (ps:=["net","word"]) (by walk_at "bn")
 obtain⟨a9,_,F9⟩:=d9
 have b9:=F9.binds (ps:=["net","word","c"]) (by walk_at "bn")
 obtain⟨KH,_,zl⟩:=yu
 have JW:=zl.binds (ps:=["p","pairs","rest","word"]) (by walk_at "bn")
 obtain⟨Mq,_,wQ⟩:=AK
 have QM:=wQ.binds (ps:=["net","word"]) (by walk_at "bn")
 obtain⟨MG,_,AS⟩:=Bw
 have OJ:=AS.binds (ps:=["net"]) (by walk_at "bn")
 obtain⟨P8,_,AI⟩:=zE
 have LZ:=AI.binds (ps:=["net","word"]) (by walk_at "bn")
 obtain⟨Uq,_,Cw⟩:=AR
 have MA:=Cw.binds (ps:=["script"]) (by walk_at "bn")
 obtain⟨Tr,_,C6⟩:=ym
 have Vx:=C6.binds (ps:=["bag","many"]) (by walk_at "bn")
 obtain⟨Mw,_,C5⟩:=yF
 have MU:=C5.binds (ps:=["bag","many"]) (by walk_at "bn")
 obtain⟨TF,_,zy⟩:=yR
 have Kc:=zy.binds (ps:=["number"]) (by walk_at "bn")
 obtain⟨Vm,_,yL⟩:=zw
 have MH:=yL.binds (ps:=["bag"]) (by walk_at "bn")
 obtain⟨Vr,_,Bh⟩:=wZ
 have S5:=Bh.binds (ps:=["bag","p","n"]) (by walk_at "bn")
 obtain⟨RT,_,xE⟩:=yU
 have TV:=xE.binds (ps:=["found"]) (by walk_at "bn")
 obtain⟨pF,_,jv⟩:=xW
 have pA:=jv.binds (ps:=["found","due"]) (by walk_at "bn")
 obtain⟨Vk,_,CA⟩:=zj
 have MP:=CA.binds (ps:=["bag","k","many"]) (by walk_at "bn")
 obtain⟨Q6,_,AL⟩:=Bd
 have P1:=AL.binds (ps:=["p","k","rows","letters","word"]) (by walk_at "bn")
 obtain⟨ME,_,CO⟩:=yW
 have S0:=CO.binds (ps:=["bag","net","letters","word"]) (by walk_at "bn")
 obtain⟨O2,_,B7⟩:=yr
 have Tu:=B7.binds (ps:=["bag","p","k","rows","letters"]) (by walk_at "bn")
 have MT:=pS (st:=lE) xD CW CG
 have Jv:=pS (st:=oE) B5 wG CI
 have OU:=Jv.binds (ps:=["self","net","word"]) (by walk_at "bn")
 have GO:=pS (st:=oX) B9 zx uD
 have QU:=GO.binds (ps:=["self"]) (by walk_at "bn")
 have Fz:=pS (st:=ow) zY zZ tB
 have QI:=Fz.binds (ps:=["self"]) (by walk_at "bn")
 have EA:=pS (st:=pW) Ax yH tP
 have Q9:=EA.binds (ps:=["self"]) (by walk_at "bn")
 have gY:ez K aW:=⟨Cm,C4,BE,Au⟩
 have wX:=ir X G zo
 have iZ:=ir X G Aa
 have jO:=ir X G CH
 have xo:=ir X G zS
 have fV:=ir X G BS
 have eH:=ir X G yb
 have bE:=ir X G wz
 have cK:=ir X G wJ
 have pe:=ir X G Bx
 have bZ:=ir X G CU
 have xX:=ir X G AB
 have oN:=ir X G CN
 have lW:=ir X G CQ
 have Ae:=ir X G Ai
 have lR:=ir X G zF
 refine⟨PySem.W.fnOf "law" "law" (jM lE) (jg lE) (aM lE) .none DP Jw GW E7 zv Gu,fun s v=> .of_eq rfl,fun base _ _=>?_⟩
 have Lp:=Callee.mk' F1 (QN (P:=l.prog) (w:=w) (base:=base) F1) b1 (cG X G a1)
 have Ss:=Callee.mk' F0 (J3 (P:=l.prog) (w:=w) (base:=base) F0 Lp) b0 (cG X G a0)
 have AQ:=Callee.mk' F2 (Nz (P:=l.prog) (w:=w) (base:=base) F2) b2 (cG X G a2)
 have SH:=Callee.mk' F4 (Nv (P:=l.prog) (w:=w) (base:=base) F4) b4 (cG X G a4)
 have Df:=Callee.mk' F3 (VQ (P:=l.prog) (w:=w) (base:=base) F3 SH bE xo) b3 (cG X G a3)
 have O0:=Callee.mk' F5 (LG (P:=l.prog) (w:=w) (base:=base) F5 Df AQ cK) b5 (cG X G a5)
 have VT:=Callee.mk' F7 (LO (P:=l.prog) (w:=w) (base:=base) F7 AQ) b7 (cG X G a7)
 have LM:=Callee.mk' F6 (VA (P:=l.prog) (w:=w) (base:=base) F6 VT) b6 (cG X G a6)
 have TY:=Callee.mk' F8 (PD (P:=l.prog) (w:=w) (base:=base) F8 LM iZ) b8 (cG X G a8)
 have KU:=Callee.mk' zl (TQ (P:=l.prog) (w:=w) (base:=base) zl Ss AQ bE) JW (cG X G KH)
 have Ww:=Callee.mk' F9 (KN (P:=l.prog) (w:=w) (base:=base) F9 KU) b9 (cG X G a9)
 have L7:=Callee.mk' wQ (RQ (P:=l.prog) (w:=w) (base:=base) wQ Ww bZ bE oN) QM (cG X G Mq)
 have NV:=Callee.mk' AS (Ua (P:=l.prog) (w:=w) (base:=base) AS cK) OJ (cG X G MG)
 have Ti:l9 l.prog w K mg base aW "step" 6 ["self"] (g8 1 (sM aW)):=⟨gY,rm,_,O6 (P:=l.prog) (w:=w) (base:=base) GO gY l6 jy L7,QU,⟨xK,xj,uD⟩⟩
 have OC:l9 l.prog w K mg base aW "mend" 7 ["self"] (g8 1 (su aW)):=⟨gY,rq,_,O3 (P:=l.prog) (w:=w) (base:=base) Fz Ti,QI,⟨Ck,zK,tB⟩⟩
 have N9:l9 l.prog w K mg base aW "word" 1 ["self"] (g8 1 (qZ aW)):=⟨gY,qT,_,Oz (P:=l.prog) (w:=w) (base:=base) EA gY jy cK,Q9,⟨wR,zu,tP⟩⟩
 have S7:yd l.prog w K mg base aW "Mender" 2 ["self","net","word"] (g8 3 (qV aW)):=⟨sF,_,Uz (P:=l.prog) (w:=w) (base:=base) Jv gY l6 jy NV cK,OU,⟨yN,As,xV,xT⟩,cG X G wC⟩
 have Kl:=Callee.mk' AI (Nd (P:=l.prog) (w:=w) (base:=base) AI OC N9 S7) LZ (cG X G P8)
 have UQ:=Callee.mk' Cw (KP (P:=l.prog) (w:=w) (base:=base) Cw wX) MA (cG X G Uq)
 have Ru:=Callee.mk' C6 (Oj (P:=l.prog) (w:=w) (base:=base) C6 bZ) Vx (cG X G Tr)
 have oQ:=Callee.mk' C5 (Pn (P:=l.prog) (w:=w) (base:=base) C5 Ru bE) MU (cG X G Mw)
 have M4:=Callee.mk' zy (Rt (P:=l.prog) (w:=w) (base:=base) zy bZ) Kc (cG X G TF)
 have ON:=Callee.mk' yL (LI (P:=l.prog) (w:=w) (base:=base) yL oQ M4) MH (cG X G Vm)
 have Vw:=Callee.mk' Bh (T8 (P:=l.prog) (w:=w) (base:=base) Bh oQ bZ fV pe) S5 (cG X G Vr)
 have SV:=Callee.mk' xE (We (P:=l.prog) (w:=w) (base:=base) xE eH fV jO) TV (cG X G RT)
 have PM:=Callee.void (P:=l.prog) (w:=w) (base:=base) (k:=0) (sp:=bT 2 (nB 0)) jv pA (cG X G pF) Tz
 have O5:=Callee.mk' jv (sf (P:=l.prog) (w:=w) (base:=base) 0 jv PM eH cK lR iZ bE jO fV lW bZ) pA (cG X G pF)
 have PJ:=Callee.mk' jv (sf (P:=l.prog) (w:=w) (base:=base) 1 jv O5 eH cK lR iZ bE jO fV lW bZ) pA (cG X G pF)
 have SM:=Callee.mk' jv (sf (P:=l.prog) (w:=w) (base:=base) 2 jv PJ eH cK lR iZ bE jO fV lW bZ) pA (cG X G pF)
 have Od:=Callee.mk' jv (sf (P:=l.prog) (w:=w) (base:=base) 3 jv SM eH cK lR iZ bE jO fV lW bZ) pA (cG X G pF)
 have UL:=Callee.mk' jv (sf (P:=l.prog) (w:=w) (base:=base) 4 jv Od eH cK lR iZ bE jO fV lW bZ) pA (cG X G pF)
 have FJ:=UL
 have NQ:=Callee.mk' CA (OB (P:=l.prog) (w:=w) (base:=base) CA oQ bZ oN xX bE) MP (cG X G Vk)
 have Wl:=Callee.mk' AL (Vn (P:=l.prog) (w:=w) (base:=base) AL SV bZ iZ bE eH cK Ae) P1 (cG X G Q6)
 have N8:=Callee.mk' CO (JU (P:=l.prog) (w:=w) (base:=base) CO FJ Kl oQ bE bZ) S0 (cG X G ME)
 have T3:=Callee.mk' B7 (V3 (P:=l.prog) (w:=w) (base:=base) B7 O0 Df TY Wl N8 FJ oQ cK bE) Tu (cG X G O2)
 exact KI MT UQ ON Vw NQ oQ T3 bZ pe bE fV
theorem walk{l:PySem.W.OpenLaw}{q:Program}{loose:List Str}{XP:(Str->Option Value)->Heap->Prop}{YP:World->Heap->Prop}{d:DefRec}{K:Params->PySem.W.Frag}(hn:l.most=some 63)(hdf:d.params.defaults=[])
  (hY:∀(w:World) (h:Heap),YP w h->(K w.params).In h)
  (F : ∀ (w : World) (mg : Str -> Option Value) (fa : Addr) (h : Heap), (K w.params).In h -> h.Ns mainGlobals mg -> mg d.name = some (.ref fa) ->
   ∃fd:FuncData,(∀(s:Shared) (u:Value),BindsTo s fd ⟨[u],[]⟩ [("script",u)])/\∀base:Heap,(K w.params).In base->base.Ns mainGlobals mg->bu l.prog w (K w.params) mg base bD 11 fa fd ["script"] (vm (K w.params))):
  PySem.W.WalkO q loose XP YP l.row.toRowW d [] (fun f vs=>PySem.call f vs):=
 L2.Lc (n:=63) (k:=11) (x:="script") (CX:=fun _=>bD) (sp:=fun w=>vm (K w.params)) hn (by decide) hdf ⟨rfl,by decide,by decide⟩ hY F (fun _ _ a ns hl _ hS=>⟨a,ns,rfl,hS,hl,fun _=>rfl⟩) fun _ _ _ _ _ z=>z
def view:Program:={PySem.Challenge.pw_fewchecks_k67_whole_words_laid with main:={PySem.Challenge.pw_fewchecks_k67_whole_words_laid.main with body:=[top 0,top 2,top 3,top 4,top 6,top 7,top 8,top 10,top 11,top 12,top 13,top 15,top 16,top 17,top 18,top 19,top 20,top 22,top 23,top 24,top 25,top 26,top 27,top 28,top 29,top 30,top 31,top 32,top 33,top 34]}}
end K67
open PySem PySem.W PyProof.Rows
local macro_rules| `(tactic|o_head $H:term)=> `(tactic|
 (refine holds_open (q:=K67.view) (loose:=[])
    (Xt:=fun s=>xlAt K67.view [] s && recOk [] s) (XP:=XL K67.view []) (Yf:=Hook.obs $H)
    (Ya:=Hook.val $H) (YP:=Hook.says $H) (N:=100000) ?hl (Hook.of $H)
    (Hook.keeps $H) (fun s e=>xl_of s (Dc.mp e).1) XL.keeps
    rfl rfl rfl (fun s e=>recFacts_of (Dc.mp e).2) rfl
    (by assumption) (by decide+kernel) ⟨rfl,rfl,rfl,rfl,rfl,by decide+kernel⟩ ?hw ?hc;(case hl=>exact fun w=>by kernel_rfl)))
set_option maxRecDepth 100000 in
set_option maxHeartbeats 0 in
theorem PySem.Challenge.cw_fewchecks_k67_whole_words_laid_holds : PySem.Challenge.rw_fewchecks_k67_whole_words_laid.Holds := by
 w_on
 refine holds_law (by decide+kernel) fun said=>?_
 k_head
 (case hw=>w_witness2)
 k_fill
 refine K67.walk (l:=PySem.Challenge.rw_fewchecks_k67_whole_words_laid) rfl rfl (fun w h Y=>PySem.W.kIn_of Y) ?F
 case F=>
  intro w mg fa h KX G hmg
  refine' K67.all_mk KX G hmg ?wC ?Cm ?C4 ?BE ?Au ?yN ?xT ?l6 ?jy ?d0 ?d1 ?d2 ?d3 ?d4 ?d5 ?d6 ?d7 ?d8 ?d9 ?yu ?AK ?Bw ?zE ?AR ?ym ?yF ?yR ?zw ?wZ ?yU ?xW ?zj ?Bd ?yW ?yr ?Cj ?xD ?CW ?CG ?As ?xV ?B5 ?wG ?CI ?xK ?xj ?B9 ?zx ?uD ?Ck ?zK ?zY ?zZ ?tB ?wR ?zu ?Ax ?yH ?tP ?zo ?Aa ?CH ?zS ?BS ?yb ?wz ?wJ ?Bx ?CU ?AB ?CN ?CQ ?Ai ?zF
  (case wC=>k_is)
  (case Cm=>k_is)
  (case C4=>k_is)
  (case BE=>k_is)
  (case Au=>k_is)
  (case yN=>k_is)
  (case xT=>k_is)
  (case l6=>k_is)
  (case jy=>k_is)
  (case d0=>refine' L2.aV.mk ?a ?l ?c ?k;(case a=>k_is);(case l=>k_is);(case c=>k_is);(case k=>k_is))
  (case d1=>refine' L2.aV.mk ?a ?l ?c ?k;(case a=>k_is);(case l=>k_is);(case c=>k_is);(case k=>k_is))
  (case d2=>refine' L2.aV.mk ?a ?l ?c ?k;(case a=>k_is);(case l=>k_is);(case c=>k_is);(case k=>k_is))
  (case d3=>refine' L2.aV.mk ?a ?l ?c ?k;(case a=>k_is);(case l=>k_is);(case c=>k_is);(case k=>k_is))
  (case d4=>refine' L2.aV.mk ?a ?l ?c ?k;(case a=>k_is);(case l=>k_is);(case c=>k_is);(case k=>k_is))
  (case d5=>refine' L2.aV.mk ?a ?l ?c ?k;(case a=>k_is);(case l=>k_is);(case c=>k_is);(case k=>k_is))
  (case d6=>refine' L2.aV.mk ?a ?l ?c ?k;(case a=>k_is);(case l=>k_is);(case c=>k_is);(case k=>k_is))
  (case d7=>refine' L2.aV.mk ?a ?l ?c ?k;(case a=>k_is);(case l=>k_is);(case c=>k_is);(case k=>k_is))
  (case d8=>refine' L2.aV.mk ?a ?l ?c ?k;(case a=>k_is);(case l=>k_is);(case c=>k_is);(case k=>k_is))
  (case d9=>refine' L2.aV.mk ?a ?l ?c ?k;(case a=>k_is);(case l=>k_is);(case c=>k_is);(case k=>k_is))
  (case yu=>refine' L2.aV.mk ?a ?l ?c ?k;(case a=>k_is);(case l=>k_is);(case c=>k_is);(case k=>k_is))
  (case AK=>refine' L2.aV.mk ?a ?l ?c ?k;(case a=>k_is);(case l=>k_is);(case c=>k_is);(case k=>k_is))
  (case Bw=>refine' L2.aV.mk ?a ?l ?c ?k;(case a=>k_is);(case l=>k_is);(case c=>k_is);(case k=>k_is))
  (case zE=>refine' L2.aV.mk ?a ?l ?c ?k;(case a=>k_is);(case l=>k_is);(case c=>k_is);(case k=>k_is))
  (case AR=>refine' L2.aV.mk ?a ?l ?c ?k;(case a=>k_is);(case l=>k_is);(case c=>k_is);(case k=>k_is))
  (case ym=>refine' L2.aV.mk ?a ?l ?c ?k;(case a=>k_is);(case l=>k_is);(case c=>k_is);(case k=>k_is))
  (case yF=>refine' L2.aV.mk ?a ?l ?c ?k;(case a=>k_is);(case l=>k_is);(case c=>k_is);(case k=>k_is))
  (case yR=>refine' L2.aV.mk ?a ?l ?c ?k;(case a=>k_is);(case l=>k_is);(case c=>k_is);(case k=>k_is))
  (case zw=>refine' L2.aV.mk ?a ?l ?c ?k;(case a=>k_is);(case l=>k_is);(case c=>k_is);(case k=>k_is))
  (case wZ=>refine' L2.aV.mk ?a ?l ?c ?k;(case a=>k_is);(case l=>k_is);(case c=>k_is);(case k=>k_is))
  (case yU=>refine' L2.aV.mk ?a ?l ?c ?k;(case a=>k_is);(case l=>k_is);(case c=>k_is);(case k=>k_is))
  (case xW=>refine' L2.aV.mk ?a ?l ?c ?k;(case a=>k_is);(case l=>k_is);(case c=>k_is);(case k=>k_is))
  (case zj=>refine' L2.aV.mk ?a ?l ?c ?k;(case a=>k_is);(case l=>k_is);(case c=>k_is);(case k=>k_is))
  (case Bd=>refine' L2.aV.mk ?a ?l ?c ?k;(case a=>k_is);(case l=>k_is);(case c=>k_is);(case k=>k_is))
  (case yW=>refine' L2.aV.mk ?a ?l ?c ?k;(case a=>k_is);(case l=>k_is);(case c=>k_is);(case k=>k_is))
  (case yr=>refine' L2.aV.mk ?a ?l ?c ?k;(case a=>k_is);(case l=>k_is);(case c=>k_is);(case k=>k_is))
  (case Cj=>k_is)
  (case xD=>k_is)
  (case CW=>k_is)
  (case CG=>k_is)
  (case As=>k_is)
  (case xV=>k_is)
  (case B5=>k_is)
  (case wG=>k_is)
  (case CI=>k_is)
  (case xK=>k_is)
  (case xj=>k_is)
  (case B9=>k_is)
  (case zx=>k_is)
  (case uD=>k_is)
  (case Ck=>k_is)
  (case zK=>k_is)
  (case zY=>k_is)
  (case zZ=>k_is)
  (case tB=>k_is)
  (case wR=>k_is)
  (case zu=>k_is)
  (case Ax=>k_is)
  (case yH=>k_is)
  (case tP=>k_is)
  (case zo=>k_is)
  (case Aa=>k_is)
  (case CH=>k_is)
  (case zS=>k_is)
  (case BS=>k_is)
  (case yb=>k_is)
  (case wz=>k_is)
  (case wJ=>k_is)
  (case Bx=>k_is)
  (case CU=>k_is)
  (case AB=>k_is)
  (case CN=>k_is)
  (case CQ=>k_is)
  (case Ai=>k_is)
  (case zF=>k_is)
