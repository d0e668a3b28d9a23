import PyProof.Rows.All
import Wide.All
import OpenK.AllK
import Wide.FinOn
import Lean
import PyProof.EqAt
import PyProof.EqKinds
import PyProof.TupleCall
import PySem.Challenge.RW_fewchecks_k58_whole_nets_side_by_side
set_option compiler.extract_closed false
set_option Elab.async false
set_option linter.all false
set_option maxRecDepth 100000
def ak:= @List.length_map
def aI:= @Nat.le_refl
def aK:= @List.mem_cons
def aQ:= @List.getElem?_eq_getElem
def aX:= @List.getElem?_map
def bC:= @PySem.Heap.lt_size
def bA:= @List.mem_cons_self
def bM:= @Ne.symm
def bQ:= @List.getElem?_eq_some_iff
def bP:= @List.length_append
def bR:= @List.map_cons
def bV:= @PySem.Heap.get?_push_of_some
def bW:= @List.mem_map
def bX:= @PySem.W.mg_of
def ck:= @List.getElem?_set_ne
def cg:= @List.mem_singleton
def cE:= @List.not_mem_nil
def cK:= @List.mem_cons_of_mem
def cP:= @Bool.and_eq_true
def cN:= @List.map_append
def cV:= @Nat.ne_of_lt
def dh:= @Bool.false_ne_true
def dz:= @List.map_map
def dH:= @List.getElem?_set_self
def dO:= @List.size_toArray
def dP:= @PySem.boot_len
def dW:= @Nat.zero_le
def eE:= @Nat.lt_of_lt_of_le
def ez:= @Nat.le_trans
def eK:= @List.mem_of_getElem?
def eO:= @List.getD_eq_getElem?_getD
def eT:= @Int.toNat_natCast
def eU:= @PySem.PassesOwn.never
def fh:= @List.length_set
def fE:= @List.length_singleton
def fN:= @PySem.Heap.get?_push_size
def fM:= @List.length_cons
def fQ:= @List.map_congr_left
def fZ:= @List.lookup_cons
def gb:= @List.take_length
def gn:= @Option.some.inj
def gv:= @PyProof.Rows.boot_list
def gJ:= @Int.emod_nonneg
def gy:= @Int.emod_lt_of_pos
def gC:= @List.getElem?_eq_none
def gD:= @PySem.W.mg_none_of
def gP:= @List.mem_append
def ig:= @List.append_nil
def iy:= @List.getElem?_append_right
def iD:= @List.getElem?_replicate
def iB:= @List.getElem?_append_left
def iw:= @List.ext_getElem?
def ie:= @List.getElem_mem
def iK:= @List.nodup_cons
def iQ:= @List.length_take
def iX:= @Classical.byContradiction
def jo:= @Nat.lt_irrefl
def jk:= @Nat.le_of_lt
def jq:= @PySem.W.kia_one
def jB:= @List.set_set
def jd:= @List.append_assoc
def jR:= @Option.map_eq_some_iff
def jF:= @Option.some_ne_none
def j3:= @List.mem_filter
def jZ:= @Array.length_toList
def kj:= @List.mem_append_right
def j7:= @PySem.Heap.get?_update_other
def kq:= @Array.getElem?_eq_getElem
def ko:= @List.find?_cons
def j5:= @List.mem_map_of_mem
def j4:= @PySem.F.plainAttrs_list
def kG:= @PySem.F.slot_list_append
def j6:= @PySem.F.type_list_append
def kc:= @PyProof.Rows.boot_isinstance
def k6:= @List.getElem?_cons_succ
def lu:= @PySem.Around.under_plainId
def lg:= @Nat.mul_mod
def lq:= @List.countP_append
def mh:= @Bool.eq_iff_iff
def mz:= @PySem.Heap.size_push
def mD:= @Nat.lt_trans
def mC:= @PySem.F.called_set
def mH:= @List.getElem?_of_mem
def nW:= @List.mem_range
def mR:= @Nat.ne_of_gt
def nQ:= @PySem.mem_of_lookup
def nL:= @Bool.or_false
def nu:= @List.cons_append
def m9:= @Int.zero_mul
def nP:= @Nat.lt_succ_of_lt
def nX:= @Array.getElem?_toList
def mZ:= @List.any_cons
def nZ:= @PySem.W.kia_tup
def o6:= @List.filterMap_cons
def pW:= @List.map_nil
def oU:= @List.all_cons
def oA:= @List.length_eq_zero_iff
def pL:= @List.mem_of_mem_take
def p9:= @List.foldl_cons
def rP:= @PySem.Value.isInt_shape
def rK:= @Nat.le_succ
def qg:= @PySem.SeqAt.canLay_of_shaped
def rT:= @Bool.false_or
def rY:= @Int.mul_ediv_add_emod
def rM:= @Int.mul_le_mul_of_nonneg_left
def qh:= @Int.mul_sub
def qG:= @Int.mul_assoc
def rm:= @Array.getElem?_eq_some_iff
def r6:= @Nat.lt_succ_self
def qZ:= @Bool.true_and
def rj:= @Bool.or_true
def rS:= @Nat.mul_assoc
def qv:= @Nat.mul_comm
def qF:= @Classical.choose_spec
def qD:= @List.foldl_append
def rz:= @Iff.rfl
def rG:= @List.getElem_map
def qx:= @List.getElem?_eq_none_iff
def q9:= @Int.emod_eq_of_lt
def qW:= @List.countP_singleton
def rW:= @List.countP_map
def qi:= @List.set_append_left
def rN:= @List.set_append_right
def tT:= @List.getElem_inj
def vE:= @PyProof.Rows.callWith_type1
def uF:= @PySem.W.kitx_dict
def tU:= @PySem.Heap.get?_update_self
def uG:= @Nat.le_of_eq
def uw:= @List.all_eq_true
def uz:= @Int.le_refl
def vz:= @Int.zero_add
def sN:= @Int.mul_comm
def vA:= @Int.ediv_nonneg
def tO:= @Nat.succ.inj
def tY:= @Array.size_extract
def tZ:= @Nat.mod_lt
def uf:= @PySem.F.plain_list_iadd
def su:= @List.any_eq_true
def u6:= @List.Nodup.length_le_of_subset
def tN:= @Int.sub_zero
def tB:= @Nat.pow_add
def sR:= @PySem.F.slot_list_getattribute
def uR:= @List.range_succ
def uy:= @List.flatMap_append
def vq:= @List.countP_cons
def vj:= @List.countP_congr
def uq:= @List.countP_eq_zero
def tu:= @PyProof.Rows.boot_sorted
def uJ:= @List.ne_nil_of_length_pos
def xy:= @Sum.inl.inj
def Ci:= @List.mem_filterMap
def zF:= @PySem.W.kitx_list
def vW:= @List.of_mem_zip
def Ct:= @List.length_drop
def yF:= @Nat.le_of_not_lt
def B6:= @Nat.lt_of_le_of_lt
def wX:= @List.take_add_one
def xC:= @Array.getD_eq_getD_getElem?
def wI:= @Array.getElem?_eq_none
def yX:= @Nat.lt_or_eq_of_le
def Ae:= @PyProof.Rows.F.plain_set_update_loop
def xG:= @Nat.lt_trichotomy
def wo:= @List.range_succ_eq_map
def zC:= @Bool.false_eq_true
def wu:= @Nat.lt_of_lt_of_eq
def zR:= @List.nodup_append
def BN:= @List.nodup_nil
def yU:= @List.take_of_length_le
def Bm:= @List.drop_zero
def yr:= @Nat.mul_one
def wD:= @Nat.zero_mul
def vX:= @Nat.div_add_mod
def yj:= @Nat.mod_mod
def zq:= @Nat.mod_mod_of_dvd
def zS:= @Nat.one_mul
def AQ:= @Nat.le_of_dvd
def z4:= @Int.eq_ofNat_of_zero_le
def zj:= @Int.emod_eq_zero_of_dvd
def AX:= @List.lookup_cons_self
def Cr:= @PySem.F.slot_dict_get
def B7:= @List.pairwise_cons
def vP:= @List.count_eq_zero
def yP:= @List.flatMap_singleton
def AY:= @List.mem_or_eq_of_mem_set
def we:= @Int.add_zero
def wW:= @Int.le_trans
def zL:= @Int.ediv_le_self
def zc:= @List.map_id
def B4:= @List.filter_append
def yb:= @List.map_set
def xN:= @Bool.eq_false_iff
def yM:= @PyProof.Rows.boot_int
def CV:= @List.mem_append_left
def C9:= @PySem.Calls.Name_function_global
def FG:= @PySem.W.cellsFrom_some
def EX:= @Option.isSome_iff_exists
def G2:= @List.getElem?_take_of_lt
def Dj:= @List.filterMap_cons_some
def CP:= @Array.getElem?_push
def GD:= @Array.getElem?_extract_of_lt
def Hl:= @List.getElem?_toArray
def Eo:= @List.length_eraseIdx_of_lt
def CQ:= @List.Perm.append_left
def HQ:= @PySem.F.entry_proto_collect
def IZ:= @PySem.F.plain_proto_collect
def Dv:= @PySem.F.entry_list_iadd
def EZ:= @PySem.F.plain_extend_loop
def Dc:= @PySem.Calls.call_function_entry
def Hu:= @Nat.dvd_of_mod_eq_zero
def Jj:= @Int.gcd_eq_zero_iff
def Dm:= @Int.natAbs_dvd_natAbs
def Hh:= @Int.emod_add_mul_ediv
def ET:= @List.count_singleton
def Ib:= @Nat.le_of_ble_eq_true
def C8:= @List.filter_eq_nil_iff
def E5:= @List.nodup_iff_pairwise_ne
def HR:= @PySem.F.plainAttrs_dict
def C3:= @PySem.F.type_dict_get
def FJ:= @PyProof.Rows.boot_set
def GI:= @List.exists_mem_of_length_pos
def C4:= @List.length_pos_of_mem
def Dy:= @PyProof.Rows.boot_tuple
def Fi:= @PyProof.Rows.boot_bool
def Eh:= @PyProof.Rows.boot_str
def Ji:= @List.replicate_succ'
def GK:= @List.drop_eq_nil_of_le
def Ec:= @Bool.and_eq_true_iff
namespace L2
open PySem PySem.Spec PyProof.Rows
abbrev Key:=Sum Int Str
def oK:Key->Value->Bool
 | .inl k,v=>Value.isInt k v
 | .inr x,v=>Value.isStrOf x v
def N4(w:World):Key->Int
 | .inl k=>hashInt k
 | .inr x=>hashStr w x
theorem kP:∀{k:Key} {v:Value},oK k v=true->(∃i t,k=Sum.inl i/\v=Value.int i t)\/(∃x t,k=Sum.inr x/\v=Value.str x t)
  | .inl i, v, h => by
    obtain⟨t,e⟩:=rP (k:=i) (v:=v) h
    exact .inl ⟨i,t,rfl,e⟩
  | .inr x, v, h => by
    obtain⟨t,e⟩:=Value.isStrOf_shape (x:=x) (v:=v) h
    exact .inr ⟨x,t,rfl,e⟩
theorem Nn(i:Int)(t:Tok):oK (.inl i) (.int i t)=true:=by simp[oK,Value.isInt]
theorem Qu(x:Str)(t:Tok):oK (.inr x) (.str x t)=true:=by simp[oK,Value.isStrOf]
theorem Vv(a b:Int):decide ((Sum.inl a:Key)=Sum.inl b)=(a==b):=by
 by_cases e:a=b
 ·subst e;simp
 ·have h:¬(Sum.inl a:Key)=Sum.inl b:=fun q=>e (xy q)
  rw[decide_eq_false h]
  exact(beq_eq_false_iff_ne.mpr e).symm
theorem Vq(a b:Str):decide ((Sum.inr a:Key)=Sum.inr b)=decide (a=b):=by
 by_cases e:a=b
 ·subst e;simp
 ·have h:¬(Sum.inr a:Key)=Sum.inr b:=fun q=>e (Sum.inr.inj q)
  rw[decide_eq_false h,decide_eq_false e]
theorem M5(a:Int)(b:Str):decide ((Sum.inl a:Key)=Sum.inr b)=false:=decide_eq_false (fun q=>nomatch q)
theorem SM(a:Str)(b:Int):decide ((Sum.inr a:Key)=Sum.inl b)=false:=decide_eq_false (fun q=>nomatch q)
def dJ(prog:Program)(w:World):PySem.KeyKind prog w Key where
 is:=oK
 hash:=N4 w
 inj:=fun v a b ha hb=>by
  rcases kP ha with ⟨i,t,rfl,rfl⟩|⟨x,t,rfl,rfl⟩
  ·rcases kP hb with ⟨j,u,rfl,e⟩|⟨y,u,rfl,e⟩
   ·injection e with e1 _;rw[e1]
   ·exact nomatch e
  ·rcases kP hb with ⟨j,u,rfl,e⟩|⟨y,u,rfl,e⟩
   ·exact nomatch e
   ·injection e with e1 _;rw[e1]
 byValue:=fun k v h=>by
  rcases kP h with ⟨i,t,rfl,rfl⟩|⟨x,t,rfl,rfl⟩<;>rfl
 pyHash:=fun hv h=>by
  rcases kP hv with ⟨i,t,rfl,rfl⟩|⟨x,t,rfl,rfl⟩
  ·exact wpAny_pyHash_int h
  ·exact wpAny_pyHash_str h
 eqBool:=fun hu hv h=>by
  rcases kP hu with ⟨i,t,rfl,rfl⟩|⟨x,t,rfl,rfl⟩
  ·rcases kP hv with ⟨j,u,rfl,rfl⟩|⟨y,u,rfl,rfl⟩
   ·rw[Vv] at h;exact wpAny_eqBool_int h
   ·rw[M5] at h;exact SeqAt.EqAt.int_str i t y u _ _ _ _ h
  ·rcases kP hv with ⟨j,u,rfl,rfl⟩|⟨y,u,rfl,rfl⟩
   ·rw[SM] at h;exact SeqAt.EqAt.str_int x t j u _ _ _ _ h
   ·rw[Vq] at h;exact wpAny_eqBool_str h
 «strs» :=fun k x t v h=>by
  rcases kP h with ⟨i,u,rfl,e⟩|⟨y,u,rfl,e⟩
  ·exact nomatch e
  ·injection e with e1 _
   subst e1
   cases v<;>rfl
theorem K6(prog:Program)(w:World)(i:Int)(t:Tok):(dJ prog w).is (.inl i) (.int i t)=true:=Nn i t
theorem TZ(prog:Program)(w:World)(x:Str)(t:Tok):(dJ prog w).is (.inr x) (.str x t)=true:=Qu x t
inductive V where
 |aM|bl (b:Bool)|int (i:Int)|str (x:Str)|iZ (b:Array UInt8)|lH (b:UInt64)|ref (a:Addr)|ty (n:String)
 deriving DecidableEq
def RelV:V->Value->Prop
 | .aM,u=>u=Value.none
 | .bl b,u=>u=Value.bool b
 | .int i,u=>∃t,u=Value.int i t
 | .str x,u=>∃t,u=Value.str x t
 | .iZ b,u=>∃t,u=Value.bytes b t
 | .lH b,u=>∃t,u=Value.float b t
 | .ref a,u=>u=Value.ref a
 | .ty n,u=>u=Value.type n
abbrev Vals:List V->List Value->Prop:=Paired RelV
theorem Vals.length{xs:List V}{us:List Value}(r:Vals xs us):xs.length=us.length:=Paired.length r
theorem Vals.get:∀{xs:List V} {us:List Value} {i:Nat} {x:V},Vals xs us->xs[i]?=some x->∃u,us[i]?=some u/\RelV x u
  |_,_,_,_, .nil,e=>by simp at e
  |_,_,0,_, .cons r _,e=>by simp at e;subst e;exact⟨_,rfl,r⟩
  | _, _, i + 1, x, .cons _ t, e => by
    obtain⟨u,h1,h2⟩:=Vals.get (i:=i) (x:=x) t (by simpa using e)
    exact⟨u,by simpa using h1,h2⟩
theorem Vals.set{x:V}{u:Value}(r:RelV x u):∀{xs:List V} {us:List Value} (i:Nat),Vals xs us->Vals (xs.set i x) (us.set i u)
 |_,_,_, .nil=> .nil
 |_,_,0, .cons _ t=> .cons r t
 |_,_,i+1, .cons q t=> .cons q (Vals.set r i t)
theorem Vals.append:∀{xs ys:List V} {us ws:List Value},Vals xs us->Vals ys ws->Vals (xs++ys) (us++ws)
 |_,_,_,_, .nil,s=>s
 |_,_,_,_, .cons r t,s=> .cons r (Vals.append t s)
theorem Vals.take:∀{xs:List V} {us:List Value} (n:Nat),Vals xs us->Vals (xs.take n) (us.take n)
 |_,_,0,_=> .nil
 |_,_,_+1, .nil=> .nil
 |_,_,n+1, .cons r t=> .cons r (Vals.take n t)
theorem Vals.drop:∀{xs:List V} {us:List Value} (n:Nat),Vals xs us->Vals (xs.drop n) (us.drop n)
 |_,_,0,r=>r
 |_,_,_+1, .nil=> .nil
 |_,_,n+1, .cons _ t=>Vals.drop n t
def jC:Option V->Option Value->Prop
 |some v,some u=>RelV v u
 |none,none=>True
 |_,_=>False
def KV{κ:Type}:List (κ×V)->List (κ×Value)->Prop:=Paired fun(p:κ×V) (q:κ×Value)=>p.1=q.1/\RelV p.2 q.2
def kV:Key->V
 | .inl i=> .int i
 | .inr x=> .str x
inductive HO where
  |lst (xs:List V)
  |tup (xs:List V)
  |dK (kvs:List (Key×V))|dT (kvs:List (List Key×V))
  |set (S:Int->Bool) (n:Nat)
  |ins (C dx:Addr) (fs:List (Str×V))
  |own (x:Addr)
  |xd (fs:List (Str×V))
  |met (f x:Addr)
  |lJ (lo hi:Int)
  |bY (o:Obj) (u:HO)
  |m6 (ps:Array Value)
  |ext (φ:Heap->Prop)
abbrev Hp:=Addr->Option HO
def upd(H:Hp)(a:Addr)(o:HO):Hp:=fun b=>if b=a then some o else H b
theorem aY{H:Hp}{a:Addr}{o:HO}:upd H a o a=some o:=by unfold upd;rw[if_pos rfl]
theorem az{H:Hp}{a b:Addr}{o:HO}(h:b≠a):upd H a o b=H b:=by unfold upd;rw[if_neg h]
theorem BW{H:Hp}{a:Addr}{o u:HO}:upd (upd H a o) a u=upd H a u:=by
 funext b;unfold upd;split<;>rfl
theorem iH{H:Hp}{a b:Addr}{o:HO}(h:H a=some o)(h':H b=none):a≠b:=by
 intro e;subst e;rw[h] at h';cases h'
section
variable(P:Program)(w:World)
def bT(H:Hp)(h:Heap)(a:Addr):HO->Prop
 | .lst xs=>xs.length<=sizeLine/\∃(its:List Value) (n:Nat),Vals xs its/\h.get? a=some {cls:= .type "list",data:= .seq its.toArray n}
 | .tup xs=>xs.length<=sizeLine/\∃its:List Value,Vals xs its/\IsTup h a its.toArray
 | .dK kvs=>kvs.length<=sizeLine/\(a==sysModules)=false/\∃vs,KV kvs vs/\h.DictOf (dJ P w) a vs
 | .dT kvs => kvs.length <= sizeLine /\ (a == sysModules) = false /\ ∃ xs : List (List Key × Addr × Value),
   Paired (fun(p:List Key×V) (q:List Key×Addr×Value)=>p.1=q.1/\H q.2.1=some (.tup (p.1.map kV))/\RelV p.2 q.2.2) kvs xs/\
   ∃o es ep,h.get? a=some o/\o.ExactDict/\o.data= .dict es ep/\es.toList=xs.map (entryOfKey (tupleKind (dJ P w)))/\(xs.map (·.1)).Nodup
 | .set S n=>h.SetOf (intKind P w) a S n
 | .ins C dx fs => H dx = some (.own a) /\ fs.length <= 1000 /\ dx ≠ a /\ h.get? a = some (PySem.W.instObj C dx) /\
   ∃mA,h.Ns1 dx mA/\(∀f,jC (fs.lookup f) (mA f))/\PySem.Within mA (fs.map (·.1))
 | .own _=>∃o,h.get? a=some o
 | .xd fs=>∃mA,h.Ns1 a mA/\∀f,jC (fs.lookup f) (mA f)
 | .lJ lo hi=>∃t u v,h.get? a=some {cls:= .type "range",data:= .fields #[.int lo t, .int hi u, .int 1 v]}
 | .bY o u=>h.get? a=some o/\bT H h a u
 | .m6 ps=>h.get? a=some {cls:= .none,data:= .fields ps}
 | .met f x=>h.get? a=some (PySem.W.methodObj (.ref f) (.ref x))
 | .ext φ=>φ h/\(∃o,h.get? a=some o)/\∀h1 h2:Heap,φ h1->(∀o,h1.get? a=some o->h2.get? a=some o)->φ h2
def c8(H:Hp)(h:Heap):Prop:=∀a o,H a=some o->bT P w H h a o
end
section
variable{P:Program}{w:World}{H H':Hp}{h h':Heap}{a:Addr}{o:HO}
theorem bT.lt(x:bT P w H h a o):a<h.objs.size:=by
 cases o with
 |lst xs=>obtain⟨_,_,_,_,e⟩:=x;exact bC e
 |tup xs=>obtain⟨_,_,_,p⟩:=x;exact p.lt
 |dK kvs=>obtain⟨_,_,_,_,o,_,_,e,_⟩:=x;exact bC e
 |dT kvs=>obtain⟨_,_,_,_,o,_,_,e,_⟩:=x;exact bC e
 |set S n=>obtain⟨o,_,_,_,e,_⟩:=x;exact bC e
 |ins C dx fs=>obtain⟨_,_,_,e,_⟩:=x;exact bC e
 |own y=>obtain⟨_,e⟩:=x;exact bC e
 |xd fs=>obtain⟨_,⟨_,_,_,e,_⟩,_⟩:=x;exact bC e
 |lJ lo hi=>obtain⟨_,_,_,e⟩:=x;exact bC e
 |bY ob u=>obtain⟨e,_⟩:=x;exact bC e
 |m6 ps=>exact bC (show h.get? a=some _ from x)
 |met f y=>exact bC (show h.get? a=some _ from x)
 |ext φ=>obtain⟨_,⟨_,e⟩,_⟩:=x;exact bC e
theorem Paired.FH{α β:Type}{F G:α->β->Prop}:∀{l₁:List α} {l₂:List β},Paired F l₁ l₂->(∀a b,F a b->G a b)->Paired G l₁ l₂
 |_,_, .nil,_=> .nil
 |_,_, .cons r t,f=> .cons (f _ _ r) (Paired.FH t f)
theorem bT.stay(x:bT P w H h a o)(k:∀b u,(b=a\/H b=some (.own a))->h.get? b=some u->h'.get? b=some u)
    (ho:∀b,H b=some (.own a)->H' b=some (.own a)) (ht:∀b xs,H b=some (.tup xs)->H' b=some (.tup xs)):bT P w H' h' a o:=by
  induction o with
  |lst xs=>obtain⟨z,its,n,r,e⟩:=x;exact⟨z,its,n,r,k _ _ (.inl rfl) e⟩
  |tup xs=>obtain⟨z,its,r,ob,e,c⟩:=x;exact⟨z,its,r,ob,k _ _ (.inl rfl) e,c⟩
  |dK kvs=>obtain⟨z,y,vs,r,ob,es,ep,e,c⟩:=x;exact⟨z,y,vs,r,ob,es,ep,k _ _ (.inl rfl) e,c⟩
  | dT kvs =>
    obtain⟨z,y,xs,r,ob,es,ep,e,c⟩:=x
    exact⟨z,y,xs,Paired.FH r fun p q z=>⟨z.1,ht _ _ z.2.1,z.2.2⟩,ob,es,ep,k _ _ (.inl rfl) e,c⟩
  |set S n=>obtain⟨ob,es,ep,t,e,c⟩:=x;exact⟨ob,es,ep,t,k _ _ (.inl rfl) e,c⟩
  | ins C dx fs =>
    obtain⟨d,z,ne,e,mA,⟨od,es,ep,e2,c⟩,r⟩:=x
    exact⟨ho _ d,z,ne,k _ _ (.inl rfl) e,mA,⟨od,es,ep,k _ _ (.inr d) e2,c⟩,r⟩
  |own y=>obtain⟨ob,e⟩:=x;exact⟨ob,k _ _ (.inl rfl) e⟩
  |xd fs=>obtain⟨mA,⟨od,es,ep,e,c⟩,r⟩:=x;exact⟨mA,⟨od,es,ep,k _ _ (.inl rfl) e,c⟩,r⟩
  |lJ lo hi=>obtain⟨t,u,v,e⟩:=x;exact⟨t,u,v,k _ _ (.inl rfl) e⟩
  |bY ob u ih=>obtain⟨e,q⟩:=x;exact⟨k _ _ (.inl rfl) e,ih q⟩
  | m6 ps =>
    have e:h.get? a=some {cls:= .none,data:= .fields ps}:=x
    show h'.get? a=some {cls:= .none,data:= .fields ps}
    exact k a _ (.inl rfl) e
  | met f y =>
    have e:h.get? a=some (PySem.W.methodObj (.ref f) (.ref y)):=x
    show h'.get? a=some (PySem.W.methodObj (.ref f) (.ref y))
    exact k a _ (.inl rfl) e
  |ext φ=>obtain⟨p,⟨o,e⟩,st⟩:=x;exact⟨st _ _ p fun o q=>k _ _ (.inl rfl) q,⟨o,k _ _ (.inl rfl) e⟩,st⟩
theorem c8.lt(x:c8 P w H h)(e:H a=some o):a<h.objs.size:=(x a o e).lt
theorem c8.fresh(x:c8 P w H h)(e:h.objs.size<=a):H a=none:=by
 cases q:H a with
 |none=>rfl
 |some u=>exact absurd (eE (x.lt q) e) (jo _)
theorem c8.kept(x:c8 P w H h)(k:∀b u,h.get? b=some u->h'.get? b=some u):c8 P w H h':=fun a o e=>
 (x a o e).stay (fun b u _ q=>k b u q) (fun _ q=>q) fun _ _ q=>q
theorem c8.laid(x:c8 P w H h)(k:∀b u,h.get? b=some u->h'.get? b=some u)(hp:h.objs.size<=a)(new:bT P w (upd H a o) h' a o):c8 P w (upd H a o) h':=fun b u e=>by
 have hn:=x.fresh hp
 by_cases hb:b=a
 ·subst hb;rw[aY] at e;cases e;exact new
 ·rw[az hb] at e
  exact(x b u e).stay (fun c v _ q=>k c v q) (fun c q=>by rw[az (iH q hn)];exact q) fun c xs q=>by rw[az (iH q hn)];exact q
end
def Rd(H:Hp)(a:Addr)(u:HO):Prop:=H a=some u\/∃o,H a=some (.bY o u)
theorem Rd.ok{P:Program}{w:World}{H:Hp}{h:Heap}{a:Addr}{u:HO}(r:Rd H a u)(x:c8 P w H h):bT P w H h a u:=by
 rcases r with r|⟨o,r⟩
 ·exact x a u r
 ·obtain⟨_,q⟩:=x a _ r
  exact q
def qT:Option HO->Prop
 |some (.lst _)=>True
 |some (.dK _)=>True
 |some (.dT _)=>True
 |some (.set _ _)=>True
 |some (.ins _ _ _)=>True
 |some (.ext _)=>True
 |_=>False
section
variable{P:Program}{w:World}{H:Hp}{h h':Heap}{x e:Addr}{o':HO}
theorem c8.write(ok:c8 P w H h)(mu:qT (H x))(he:e=x\/H e=some (.own x))(k:∀b u,b≠e->h.get? b=some u->h'.get? b=some u)(pD:∃u,h'.get? e=some u)
  (new:bT P w (upd H x o') h' x o'):c8 P w (upd H x o') h':=fun b u q=>by
 have CD:∀c y,H c=some (.own y)->c≠x:=fun c y r z=>by subst z;rw[r] at mu;exact mu
 have U7:∀c xs,H c=some (.tup xs)->c≠x:=fun c xs r z=>by subst z;rw[r] at mu;exact mu
 by_cases hb:b=x
 ·subst hb;rw[aY] at q;cases q;exact new
 ·rw[az hb] at q
  by_cases oh:b=e
  ·have q':H b=some (.own x):=by
    rcases he with z|z
    ·exact absurd (oh.trans z) hb
    ·rw[oh];exact z
   rw[q] at q';cases q'
   obtain⟨v,hv⟩:=pD
   exact⟨v,by rw[oh];exact hv⟩
  ·refine(ok b u q).stay (fun c v hc r=>k c v ?_ r) (fun c r=>by rw[az (CD c b r)];exact r) fun c xs r=>by rw[az (U7 c xs r)];exact r
   rcases hc with rfl|hc
   ·exact oh
   ·rintro rfl
    rcases he with z|z
    ·exact CD c b hc z
    ·rw[hc] at z;cases z;exact hb rfl
end
structure Un(fs ex:List Addr)(H H':Hp)(h h':Heap):Prop where
 keep:∀b o,h.get? b=some o->H b=none->b∉fs->b∉ex->h'.get? b=some o
 slot:∀b o,h.get? b=some o->H b=none->b∈fs->b∉ex->∃sl,h'.get? b=some {o with slots:=sl}
 free:∀b o,h.get? b=some o->H b=none->b∉ex->H' b=none
 there:∀b o,h.get? b=some o->b∉ex->∃o',h'.get? b=some o'
 tups:∀b xs,H b=some (.tup xs)->H' b=some (.tup xs)
 jU:∀b o u,H b=some (.bY o u)->H' b=some (.bY o u)
 kW:∀b ps,H b=some (.m6 ps)->∃more,H' b=some (.m6 (ps++more))
section
variable{fs fs' ex ex':List Addr}{H H1 H2:Hp}{h h1 h2 h':Heap}{a x e:Addr}{o:HO}
theorem Un.any(u:Un fs ex H H1 h h1){b:Addr}{ob:Obj}(q:h.get? b=some ob)(n:H b=none)(hx:b∉ex):∃sl,h1.get? b=some {ob with slots:=sl}:=by
 by_cases hb:b∈fs
 ·exact u.slot b ob q n hb hx
 ·exact⟨ob.slots,u.keep b ob q n hb hx⟩
theorem Un.kept(k:∀b u,h.get? b=some u->h'.get? b=some u):Un fs ex H H h h':=
 ⟨fun b ob q _ _ _=>k b ob q,fun b ob q _ _ _=>⟨ob.slots,k b ob q⟩,fun _ _ _ n _=>n,fun b ob q _=>⟨ob,k b ob q⟩,fun _ _ q=>q,fun _ _ _ q=>q,fun _ ps q=>⟨#[],by rw[q];simp⟩⟩
theorem Un.refl:Un fs ex H H h h:=Un.kept fun _ _ q=>q
theorem Un.laid(k:∀b u,h.get? b=some u->h'.get? b=some u)(hp:h.objs.size<=a)(hn:H a=none):Un fs ex H (upd H a o) h h' where
 keep:=fun b u q _ _ _=>k b u q
 slot:=fun b u q _ _ _=>⟨u.slots,k b u q⟩
 free:=fun b u q n _=>by rw[az (cV (eE (bC q) hp))];exact n
 there:=fun b u q _=>⟨u,k b u q⟩
 tups:=fun b xs q=>by rw[az (iH q hn)];exact q
 jU:=fun b u xs q=>by rw[az (iH q hn)];exact q
 kW:=fun b ps q=>⟨#[],by rw[az (iH q hn),q];simp⟩
theorem Un.write(mu:qT (H x))(he:e=x\/H e=some (.own x))(k:∀b u,b≠e->h.get? b=some u->h'.get? b=some u)(pD:∃u,h'.get? e=some u):Un fs ex H (upd H x o) h h':=by
 have hx:∀b,H b=none->b≠x:=fun b n z=>by subst z;rw[n] at mu;exact mu
 have hb:∀b,H b=none->b≠e:=fun b n z=>by
  subst z
  rcases he with r|r
  ·exact hx b n r
  ·rw[n] at r;cases r
 have hm:∀b u,H b=some u->¬qT (some u)->b≠x:=fun b u q nm z=>by subst z;rw[q] at mu;exact nm mu
 refine⟨fun b u q n _ _=>k b u (hb b n) q,fun b u q n _ _=>⟨u.slots,k b u (hb b n) q⟩,fun b u q n _=>by rw[az (hx b n)];exact n,fun b u q _=>?_,
  fun b xs q=>by rw[az (hm b _ q fun z=>z)];exact q,fun b u xs q=>by rw[az (hm b _ q fun z=>z)];exact q,fun b ps q=>⟨#[],by rw[az (hm b _ q fun z=>z),q];simp⟩⟩
 by_cases oh:b=e
 ·subst oh;exact pD
 ·exact⟨u,k b u oh q⟩
end
def sQ(h:Heap)(H:Hp):List Addr:=(List.range h.objs.size).filter fun a=>(H a).isSome
def kO(h:Heap)(H:Hp):Heap:=PySem.W.hideAll h (sQ h H)
theorem Ua(h:Heap)(H:Hp):(kO h H).objs.size=h.objs.size:=PySem.W.hideAll_size _ _
theorem OJ{h:Heap}{H:Hp}{b:Addr}{o:Obj}(e:h.get? b=some o)(n:H b=none):(kO h H).get? b=some o:=
 PySem.W.hideAll_get _ e fun hm=>by
  have q:(H b).isSome=true:=(j3.mp hm).2
  rw[n] at q;simp at q
theorem PL{h:Heap}{H:Hp}{b:Addr}{o:Obj}(e:(kO h H).get? b=some o):h.get? b=some o/\H b=none:=by
  have e':h.get? b=some o:=PySem.W.of_hideAll (sQ h H) e
  refine⟨e',?_⟩
  cases q:H b with
  |none=>rfl
  | some x =>
    have hm:b∈sQ h H:=j3.mpr ⟨nW.mpr (bC e'),by simp[q]⟩
    have z:(kO h H).get? b=none:=PySem.W.hideAll_none (sQ h H) hm
    rw[z] at e;cases e
def MJ(g h:Heap)(L:Addr):List (Addr×Obj):=(List.range h.objs.size).filterMap fun a=>if a=L\/(g.get? a).isSome=true then none else(h.get? a).map fun o=>(a,o)
def rest(g h:Heap)(L d:Addr):List (Addr×Obj):=(MJ g h L).filter fun p=>decide (p.1≠d)
structure Mod(K:PySem.W.Frag)(mg:Str->Option Value)(base:Heap):Prop where
 Bf:K.In base
 glob:base.Ns mainGlobals mg
 blt:∃mb,base.Ns builtinsNs mb/\∀x:Str,x≠"__name__" ->mb x=bootBuiltins x
 nolimit:base.NoLimit
structure Cx where
 prog:Program
 w:World
 K:PySem.W.Frag
 mg:Str->Option Value
 base:Heap
 A:Around
 N:List Str
 s₀:Shared
 H₀:Hp
 env:Env
 outer:List Env
 stack:List Env
 ex:List Addr
 fn:Str->Bool
 calm:Bool
 pn:List (Addr×Obj)
 xe:Value->Shared->Prop
def frs(l:List Env):List Addr:=l.filterMap (·.frame)
abbrev Cx.fs(X:Cx):List Addr:=frs X.outer
def xq(sc:Scope)(x:Str):Prop:=sc.names.lookup x=some .local\/sc.names.lookup x=some .cell\/sc.names.lookup x=some .free
def Loc(sc:Scope)(x:Str):Prop:=sc.names.lookup x=some .local\/sc.names.lookup x=some .cell
def Look(env:Env)(h:Heap)(m:Str->Option Value)(x:Str)(u:Value):Prop:=
 (env.kindOf x=some .local/\m x=some u)\/((env.kindOf x=some .cell\/env.kindOf x=some .free)/\∃c,env.cells.lookup x=some c/\h.IsCell c (some u))
structure Cx.Ok(X:Cx):Prop where
 mod:Mod X.K X.mg X.base
 kind:X.env.scope.kind= .function
 glob:X.env.globals=mainGlobals
 blt:X.env.builtins=builtinsNs
 above:X.s₀.heap.objs.size<=X.env.locals
 inj:∀x y c,X.env.cells.lookup x=some c->X.env.cells.lookup y=some c->x=y
 has:∀x,(X.env.kindOf x=some .cell\/X.env.kindOf x=some .free)->∃c,X.env.cells.lookup x=some c
 qf:∀x c,X.fn x=true->X.env.cells.lookup x=some c->X.s₀.heap.objs.size<=c
 hd:X.calm=true->X.A.handled=none
 frames:X.A.frames=some X.stack
 stk:X.stack=X.outer\/(X.stack=X.env::X.outer/\X.env.frame=some X.env.locals)
 uE:∀b∈X.ex,b≠X.env.locals/\∀x c,X.env.cells.lookup x=some c->c≠b
 bs:∀b o,X.base.get? b=some o->X.s₀.heap.get? b=some o/\X.H₀ b=none
 nj:X.base.objs.size<=X.s₀.heap.objs.size
 rC:∀b o,X.base.get? b=some o->b∉X.ex
 qU:∀b∈X.ex,b∉X.fs
 jW:X.s₀.heap.FunFrames X.base X.outer
 oE:∀b∈X.fs,X.H₀ b=none
structure Inv(X:Cx)(pins:List (Addr×Obj))(σ:List (Option V))(H:Hp)(s:Shared):Prop where
 ok:X.Ok
 os:s.os=X.s₀.os
 bare:AllBare s.gens
 base:Un X.fs X.ex X.H₀ H X.s₀.heap s.heap
 loc:∃m,s.heap.Ns X.env.locals m/\∀(i:Nat) (x:Str) (v:V),X.N[i]?=some x->σ[i]?=some (some v)->xq X.env.scope x->∃u,RelV v u/\Look X.env s.heap m x u
 cell:∀x c,X.env.cells.lookup x=some c->∃v,s.heap.IsCell c v
 free:H X.env.locals=none
 i8:∀x c,X.env.cells.lookup x=some c->H c=none
 pin:∀p∈X.pn++pins,s.heap.get? p.1=some p.2/\H p.1=none/\p.1≠X.env.locals/\p.1∉X.fs/\∀v,p.2.data≠ .cell v
 hok:c8 X.prog X.w H s.heap
 len:σ.length=X.N.length
section
variable{X:Cx}{pins:List (Addr×Obj)}{σ:List (Option V)}{H H':Hp}{s:Shared}{h':Heap}
theorem Cx.Ok.J2(ok:X.Ok){b:Addr}{o:Obj}(e:X.base.get? b=some o):b∉X.fs:=fun hb=>by
 have:=(ok.jW.mem hb).1
 rw[e] at this;cases this
theorem Inv.bs(I:Inv X pins σ H s):∀b o,X.base.get? b=some o->s.heap.get? b=some o/\H b=none:=fun b o e=>
 ⟨I.base.keep b o (I.ok.bs b o e).1 (I.ok.bs b o e).2 (I.ok.J2 e) (I.ok.rC b o e),I.base.free b o (I.ok.bs b o e).1 (I.ok.bs b o e).2 (I.ok.rC b o e)⟩
theorem Inv.bk(I:Inv X pins σ H s):∀b o,X.base.get? b=some o->s.heap.get? b=some o:=fun b o e=>(I.bs b o e).1
theorem Inv.mod(I:Inv X pins σ H s):Mod X.K X.mg X.base:=I.ok.mod
theorem Inv.eB(I:Inv X pins σ H s):X.K.In s.heap:=I.ok.mod.Bf.keeps I.bk
theorem Inv.lt(I:Inv X pins σ H s):X.env.locals<s.heap.objs.size:=let ⟨_,hn,_⟩:=I.loc;hn.lt
theorem Inv.sz(I:Inv X pins σ H s):X.s₀.heap.objs.size<=s.heap.objs.size:=ez I.ok.above (jk I.lt)
theorem Inv.VI(I:Inv X pins σ H s){a:Addr}(h:s.heap.objs.size<=a):a∉X.fs:=fun hb=>by
 obtain⟨_,o,ho,_⟩:=I.ok.jW.mem hb
 exact absurd (eE (bC ho) (ez I.sz h)) (jo _)
theorem Inv.mO(I:Inv X pins σ H s):∀x c,X.env.cells.lookup x=some c->c≠X.env.locals:=fun x c e z=>by
 obtain⟨v,o,ho,hd⟩:=I.cell x c e
 obtain⟨m,⟨o',es,ep,ho',hd',_⟩,_⟩:=I.loc
 rw[z,ho'] at ho;cases ho;rw[hd'] at hd;cases hd
theorem Inv.jW(I:Inv X pins σ H s):s.heap.FunFrames X.base X.outer:=by
  have all:∀(l:List Env),(∀b∈frs l,b∈X.fs)->X.s₀.heap.FunFrames X.base l->s.heap.FunFrames X.base l:=by
    intro l
    induction l with
    |nil=>intro _ _;trivial
    | cons env r ih =>
      intro hs hl
      obtain⟨hk,⟨L,o,hf,hn,ho,hd⟩,hr⟩:=hl
      have hL:L∈X.fs:=hs L (by unfold frs;rw[o6,hf];exact bA)
      obtain⟨sl,e⟩:=I.base.slot L o ho (I.ok.oE L hL) hL fun z=>I.ok.qU L z hL
      exact⟨hk,⟨L,_,hf,hn,e,hd⟩,ih (fun b hb=>hs b (by unfold frs;rw[o6,hf];exact cK _ hb)) hr⟩
  exact all X.outer (fun _ hb=>hb) I.ok.jW
theorem Inv.stack(I:Inv X pins σ H s):s.heap.FunFrames X.base X.stack:=by
 rcases I.ok.stk with e|⟨e,hf⟩
 ·rw[e];exact I.jW
 ·rw[e]
  obtain⟨m,hn,_⟩:=I.loc
  refine .cons (by rw[I.ok.kind];decide) hf hn ?_ I.jW
  exact Heap.get?_none_of_le (ez I.ok.nj I.ok.above)
theorem Inv.wZ(I:Inv X pins σ H s):∀b∈frs X.stack,b∈X.env.locals::X.fs:=fun b hb=>by
 rcases I.ok.stk with e|⟨e,hf⟩
 ·rw[e] at hb;exact cK _ hb
 ·rw[e] at hb
  unfold frs at hb
  rw[o6,hf] at hb
  exact hb
theorem Inv.Hx(I:Inv X pins σ H s):∀b∈frs X.stack,H b=none:=fun b hb=>by
 rcases aK.mp (I.wZ b hb) with e|hb
 ·rw[e];exact I.free
 ·obtain⟨_,o,ho,_⟩:=I.ok.jW.mem hb
  exact I.base.free b o ho (I.ok.oE b hb) fun z=>I.ok.qU b z hb
theorem Inv.step{g':Array GenState}{t':Nat}{d':Drawn}{ch:List Addr}(I:Inv X pins σ H s)
  (hch:∀b∈ch,(b∈X.ex\/X.s₀.heap.objs.size<=b)/\b≠X.env.locals/\(∀x c,X.env.cells.lookup x=some c->c≠b)/\∀p∈X.pn++pins,p.1≠b)
  (keep:∀b o,b≠X.env.locals->b∉X.fs->b∉ch->s.heap.get? b=some o->H b=none->h'.get? b=some o)
  (slot:∀b o,b≠X.env.locals->b∈X.fs->b∉ch->s.heap.get? b=some o->H b=none->∃sl,h'.get? b=some {o with slots:=sl}) (free:∀b o,b∉ch->s.heap.get? b=some o->H b=none->H' b=none)
  (there:∀b o,b∉ch->s.heap.get? b=some o->∃o',h'.get? b=some o')
  (tups:∀b xs,H b=some (.tup xs)->H' b=some (.tup xs)) (jU:∀b o u,H b=some (.bY o u)->H' b=some (.bY o u)) (kW:∀b ps,H b=some (.m6 ps)->∃more,H' b=some (.m6 (ps++more)))
  (ns:∀m,s.heap.Ns X.env.locals m->h'.Ns X.env.locals m) (hok:c8 X.prog X.w H' h') (hg:AllBare g'):
  Inv X pins σ H' {s with heap:=h',gens:=g',drawn:=d',toks:=t'}:=by
 have HX:∀b o,X.s₀.heap.get? b=some o->b≠X.env.locals:=fun b o e=>cV (eE (bC e) I.ok.above)
 have uX:∀b o,X.s₀.heap.get? b=some o->b∉X.ex->b∉ch:=fun b o e hx hb=>by
  rcases(hch b hb).1 with z|z
  ·exact hx z
  ·exact absurd (eE (bC e) z) (jo _)
 have cellK:∀x c,X.env.cells.lookup x=some c->∀v,s.heap.IsCell c v->h'.IsCell c v:=fun x c e v ⟨o,ho,hd⟩=>by
  have qp:c∉ch:=fun z=>(hch c z).2.2.1 x c e rfl
  by_cases hc:c∈X.fs
  ·obtain⟨sl,q⟩:=slot c o (I.mO x c e) hc qp ho (I.i8 x c e)
   exact⟨_,q,hd⟩
  ·exact⟨o,keep c o (I.mO x c e) hc qp ho (I.i8 x c e),hd⟩
 refine⟨I.ok,I.os,hg,⟨fun b o e n hb hx=>?_,fun b o e n hb hx=>?_,fun b o e n hx=>?_,fun b o e hx=>?_,fun b xs e=>tups b xs (I.base.tups b xs e),fun b o xs e=>jU b o xs (I.base.jU b o xs e),fun b ps e=>?_⟩,?_,fun x c e=>?_,?_,fun x c e=>?_,fun p hp=>?_,hok,I.len⟩
 ·exact keep b o (HX b o e) hb (uX b o e hx) (I.base.keep b o e n hb hx) (I.base.free b o e n hx)
 ·obtain⟨sl,e1⟩:=I.base.slot b o e n hb hx
  obtain⟨UY,e2⟩:=slot b _ (HX b o e) hb (uX b o e hx) e1 (I.base.free b o e n hx)
  exact⟨UY,e2⟩
 ·obtain⟨o',e1⟩:=I.base.there b o e hx
  exact free b o' (uX b o e hx) e1 (I.base.free b o e n hx)
 ·obtain⟨o',e1⟩:=I.base.there b o e hx
  exact there b o' (uX b o e hx) e1
 ·obtain⟨m1,e1⟩:=I.base.kW b ps e
  obtain⟨m2,e2⟩:=kW b _ e1
  exact⟨m1++m2,by rw[e2,Array.append_assoc]⟩
 ·obtain⟨m,hn,hl⟩:=I.loc
  refine⟨m,ns m hn,fun i x v e1 e2 e3=>?_⟩
  obtain⟨u,r,l⟩:=hl i x v e1 e2 e3
  refine⟨u,r,?_⟩
  rcases l with l|⟨k,c,e,z⟩
  ·exact .inl l
  ·exact .inr ⟨k,c,e,cellK x c e _ z⟩
 ·obtain⟨v,z⟩:=I.cell x c e
  exact⟨v,cellK x c e v z⟩
 ·obtain⟨m,⟨o,_,_,ho,_⟩,_⟩:=I.loc
  exact free _ o (fun z=>(hch _ z).2.1 rfl) ho I.free
 ·obtain⟨v,o,ho,hd⟩:=I.cell x c e
  exact free c o (fun z=>(hch c z).2.2.1 x c e rfl) ho (I.i8 x c e)
 ·obtain⟨e,n,ne,nf,d⟩:=I.pin p hp
  have qp:p.1∉ch:=fun z=>(hch p.1 z).2.2.2 p hp rfl
  exact⟨keep p.1 p.2 ne nf qp e n,free p.1 p.2 qp e n,ne,nf,d⟩
theorem Inv.un{t':Nat}(I:Inv X pins σ H s)(u:Un X.fs [] H H' s.heap h')(hok:c8 X.prog X.w H' h'):Inv X pins σ H' {s with heap:=h',toks:=t'}:=by
 obtain⟨m,⟨o,es,ep,ho,r⟩,_⟩:=id I.loc
 obtain⟨sl,hL⟩:=u.any ho I.free (by simp)
 exact I.step (g':=s.gens) (d':=s.drawn) (ch:=[]) (fun _ z=>nomatch z) (fun b o _ hb _ e n=>u.keep b o e n hb (by simp)) (fun b o _ hb _ e n=>u.slot b o e n hb (by simp)) (fun b o _ e n=>u.free b o e n (by simp)) (fun b o _ e=>u.there b o e (by simp)) u.tups u.jU u.kW (fun m' hm=>by
  obtain⟨o',es',sL,ho',r'⟩:=hm
  rw[ho] at ho';cases ho'
  exact⟨_,es',sL,hL,r'⟩) hok I.bare
theorem Inv.call{g':Array GenState}{t':Nat}{d':Drawn}{ch:List Addr}(I:Inv X pins σ H s)(u:Un (frs X.stack) ch H H' s.heap h')(hok:c8 X.prog X.w H' h')(hg:AllBare g')
  (hch:∀b∈ch,(b∈X.ex\/X.s₀.heap.objs.size<=b)/\b≠X.env.locals/\(∀x c,X.env.cells.lookup x=some c->c≠b)/\∀p∈X.pn++pins,p.1≠b):
  Inv X pins σ H' {s with heap:=h',gens:=g',drawn:=d',toks:=t'}:=by
 obtain⟨m,⟨o,es,ep,ho,r⟩,_⟩:=id I.loc
 obtain⟨sl,hL⟩:=u.any ho I.free fun z=>(hch _ z).2.1 rfl
 exact I.step (ch:=ch) hch (fun b o hL hb hc e n=>u.keep b o e n (fun z=>(aK.mp (I.wZ b z)).elim hL hb) hc) (fun b o _ _ hc e n=>u.any e n hc) (fun b o hc e n=>u.free b o e n hc) (fun b o hc e=>u.there b o e hc) u.tups u.jU u.kW (fun m' hm=>by
  obtain⟨o',es',sL,ho',r'⟩:=hm
  rw[ho] at ho';cases ho'
  exact⟨_,es',sL,hL,r'⟩) hok hg
theorem Inv.turned{t':Nat}{it:Addr}(I:Inv X pins σ H s)(k:∀b o,b≠it->s.heap.get? b=some o->h'.get? b=some o)(hn:H it=none)(hL:it≠X.env.locals)
  (h1:it∈X.ex\/X.s₀.heap.objs.size<=it) (h2:∀x c,X.env.cells.lookup x=some c->c≠it) (h3:∀p∈X.pn++pins,p.1≠it):Inv X pins σ H {s with heap:=h',toks:=t'}:=by
 have GS:∀b u,H b=some u->b≠it:=fun b u e z=>by rw[z,hn] at e;cases e
 refine I.step (g':=s.gens) (d':=s.drawn) (ch:=[it]) (fun b hb=>?_) (fun b o _ _ hc e _=>k b o (fun z=>hc (by simp[z])) e) (fun b o _ _ hc e _=>⟨o.slots,k b o (fun z=>hc (by simp[z])) e⟩) (fun _ _ _ _ n=>n)
  (fun b o hc e=>⟨o,k b o (fun z=>hc (by simp[z])) e⟩) (fun _ _ e=>e) (fun _ _ _ e=>e) (fun b ps e=>⟨#[],by rw[e];simp⟩) (fun m hm=>?_) (fun b u e=>?_) I.bare
 ·have e:b=it:=by simpa using hb
  subst e
  exact⟨h1,hL,h2,h3⟩
 ·obtain⟨o,es,ep,ho,r⟩:=hm
  exact⟨o,es,ep,k _ o (bM hL) ho,r⟩
 ·refine(I.hok b u e).stay (fun c v hc q=>k c v ?_ q) (fun _ q=>q) fun _ _ q=>q
  rcases hc with z|z
  ·rw[z];exact GS b u e
  ·exact GS c _ z
theorem Inv.tok(I:Inv X pins σ H s)(t:Nat):Inv X pins σ H {s with toks:=t}:=I.un (h':=s.heap) (t':=t) Un.refl I.hok
theorem Inv.kept{t':Nat}(I:Inv X pins σ H s)(k:∀b u,s.heap.get? b=some u->h'.get? b=some u):Inv X pins σ H {s with heap:=h',toks:=t'}:=I.un (Un.kept k) (I.hok.kept k)
theorem Inv.laid{a:Addr}{o:HO}{t':Nat}(I:Inv X pins σ H s)(k:∀b u,s.heap.get? b=some u->h'.get? b=some u)(hp:s.heap.objs.size<=a)(new:bT X.prog X.w (upd H a o) h' a o):
  Inv X pins σ (upd H a o) {s with heap:=h',toks:=t'}:=I.un (Un.laid k hp (I.hok.fresh hp)) (I.hok.laid k hp new)
theorem Inv.write{x e:Addr}{o:HO}{t':Nat}(I:Inv X pins σ H s)(mu:qT (H x))(he:e=x\/H e=some (.own x))(k:∀b u,b≠e->s.heap.get? b=some u->h'.get? b=some u)(pD:∃u,h'.get? e=some u)
  (new:bT X.prog X.w (upd H x o) h' x o):Inv X pins σ (upd H x o) {s with heap:=h',toks:=t'}:=I.un (Un.write mu he k pD) (I.hok.write mu he k pD new)
theorem Inv.II{C5:List (Addr×Obj)}(I:Inv X pins σ H s)(h:∀p∈C5,s.heap.get? p.1=some p.2/\H p.1=none/\p.1≠X.env.locals/\p.1∉X.fs/\∀v,p.2.data≠ .cell v):Inv X C5 σ H s:=
 ⟨I.ok,I.os,I.bare,I.base,I.loc,I.cell,I.free,I.i8,fun p hp=>(gP.mp hp).elim (fun z=>I.pin p (CV _ z)) (h p),I.hok,I.len⟩
theorem Il{N:List Str}(hN:N.Nodup){i j:Nat}{x:Str}(a:N[i]?=some x)(b:N[j]?=some x):i=j:=by
 obtain⟨h1,e1⟩:=bQ.mp a
 obtain⟨h2,e2⟩:=bQ.mp b
 exact(tT hN).mp (e1.trans e2.symm)
theorem HA{M:Model}{A:Around}{E:Value->Shared->Prop}{i:Nat}{x:Str}{v:V}{u:Value}{Q:Unit->Shared->Prop}(I:Inv X pins σ H s)(hN:X.N.Nodup)(hi:X.N[i]?=some x)(hx:Loc X.env.scope x)(r:RelV v u)
  (h:∀s',Inv X pins (σ.set i (some v)) H s'->(∃a,Heap.SameBut a s.heap s'.heap/\(a=X.env.locals\/X.env.cells.lookup x=some a))->Q () s') (hf:X.fn x=true\/X.env.scope.names.lookup x=some .local:=by first|exact .inl rfl|exact .inr rfl|assumption):wpAny M A (storeName X.env x u) Q E s:=by
 obtain⟨m,hn,hl⟩:=id I.loc
 have hcls:(X.env.scope.kind== .class||(X.env.scope.kind== .module && X.env.locals !=X.env.globals))=false:=by rw[I.ok.kind];rfl
 have Jw:i<σ.length:=by rw[I.len];exact(bQ.mp hi).1
 have mO:=I.mO
 have tracked:∀{a:Addr} {h':Heap},(∃o,s.heap.get? a=some o/\H a=none)->Heap.SameBut a s.heap h'->c8 X.prog X.w H h':=fun{a h'} ha hs b ob e=>by
  obtain⟨_,_,hfree⟩:=ha
  refine(I.hok b ob e).stay (fun c w' hc q=>(hs.2 c ?_).trans q) (fun _ q=>q) fun _ _ q=>q
  rintro rfl
  rcases hc with rfl|hc
  ·rw[hfree] at e;cases e
  ·rw[hfree] at hc;cases hc
 rcases hx with hk|hk
 ·refine wpAny_storeName_local hk hn (fun h' hn' hs=>?_) hcls
  obtain⟨oL,_,_,MT,_⟩:=id hn
  refine h _ ⟨I.ok,I.os,I.bare,⟨fun b o e n hb hx=>?_,fun b o e n hb hx=>?_,I.base.free,fun b o e hx=>?_,I.base.tups,I.base.jU,I.base.kW⟩,⟨_,hn',fun j y v' e1 e2 e3=>?_⟩,fun y c e=>?_,I.free,I.i8,fun p hp=>?_,tracked ⟨oL,MT,I.free⟩ hs,by simpa using I.len⟩ ⟨_,hs, .inl rfl⟩
  ·exact(hs.2 b (cV (eE (bC e) I.ok.above))).trans (I.base.keep b o e n hb hx)
  ·obtain⟨sl,e1⟩:=I.base.slot b o e n hb hx
   exact⟨sl,(hs.2 b (cV (eE (bC e) I.ok.above))).trans e1⟩
  ·obtain⟨o',e1⟩:=I.base.there b o e hx
   exact⟨o',(hs.2 b (cV (eE (bC e) I.ok.above))).trans e1⟩
  ·by_cases hj:j=i
   ·subst hj
    rw[hi] at e1;cases e1
    rw[dH Jw] at e2
    cases e2
    exact⟨u,r, .inl ⟨hk,by simp⟩⟩
   ·rw[ck (bM hj)] at e2
    obtain⟨u',r',q⟩:=hl j y v' e1 e2 e3
    refine⟨u',r',?_⟩
    rcases q with ⟨k,e⟩|⟨k,c,e,z⟩
    ·refine .inl ⟨k,?_⟩
     have:y≠x:=fun e=>hj (Il hN e1 (e▸hi))
     simp[this,e]
    ·exact .inr ⟨k,c,e,z.sameBut hs (mO y c e)⟩
  ·obtain⟨w',z⟩:=I.cell y c e
   exact⟨w',z.sameBut hs (mO y c e)⟩
  ·obtain⟨e,n,ne,nf,d⟩:=I.pin p hp
   exact⟨(hs.2 p.1 ne).trans e,n,ne,nf,d⟩
 ·have hfn:X.fn x=true:=by
   rcases hf with z|z
   ·exact z
   ·rw[z] at hk;cases hk
  obtain⟨c,hc⟩:=I.ok.has x (.inl hk)
  obtain⟨w',z⟩:=I.cell x c hc
  refine wpAny_storeName_cell I.ok.kind hk hc z (fun h' hc' hs=>?_)
  obtain⟨oc,hoc,Vn⟩:=id z
  refine h {s with heap:=h'} ⟨I.ok,I.os,I.bare,⟨fun b o e n hb hx=>?_,fun b o e n hb hx=>?_,I.base.free,fun b o e hx=>?_,I.base.tups,I.base.jU,I.base.kW⟩,⟨m,hn.sameBut hs (bM (mO x c hc)),fun j y v' e1 e2 e3=>?_⟩,fun y c' e=>?_,I.free,I.i8,fun p hp=>?_,tracked ⟨oc,hoc,I.i8 x c hc⟩ hs,by simpa using I.len⟩ ⟨c,hs, .inr hc⟩
  ·exact(hs.2 b (cV (eE (bC e) (I.ok.qf x c hfn hc)))).trans (I.base.keep b o e n hb hx)
  ·obtain⟨sl,e1⟩:=I.base.slot b o e n hb hx
   exact⟨sl,(hs.2 b (cV (eE (bC e) (I.ok.qf x c hfn hc)))).trans e1⟩
  ·obtain⟨o',e1⟩:=I.base.there b o e hx
   exact⟨o',(hs.2 b (cV (eE (bC e) (I.ok.qf x c hfn hc)))).trans e1⟩
  ·by_cases hj:j=i
   ·subst hj
    rw[hi] at e1;cases e1
    rw[dH Jw] at e2
    cases e2
    exact⟨u,r, .inr ⟨.inl hk,c,hc,hc'⟩⟩
   ·rw[ck (bM hj)] at e2
    obtain⟨u',r',q⟩:=hl j y v' e1 e2 e3
    refine⟨u',r',?_⟩
    rcases q with q|⟨k,c',e,z'⟩
    ·exact .inl q
    ·refine .inr ⟨k,c',e,z'.sameBut hs ?_⟩
     rintro rfl
     exact hj (Il hN e1 (I.ok.inj _ _ _ e hc▸hi))
  ·by_cases hcc:c'=c
   ·subst hcc;exact⟨_,hc'⟩
   ·obtain⟨w2,z2⟩:=I.cell y c' e
    exact⟨w2,z2.sameBut hs hcc⟩
  ·obtain⟨e,n,ne,nf,d⟩:=I.pin p hp
   refine⟨(hs.2 p.1 ?_).trans e,n,ne,nf,d⟩
   intro q
   rw[q,hoc] at e
   have q':oc=p.2:=gn e
   exact d w' (by rw[<-q'];exact Vn)
theorem Ju{M:Model}{A:Around}{E:Value->Shared->Prop}{i:Nat}{x:Str}{v:V}{u:Value}{Q:Unit->Shared->Prop}(I:Inv X pins σ H s)(hN:X.N.Nodup)(hi:X.N[i]?=some x)(hx:Loc X.env.scope x)(r:RelV v u)
  (h:∀s',Inv X pins (σ.set i (some v)) H s'->Q () s') (hf:X.fn x=true\/X.env.scope.names.lookup x=some .local:=by first|exact .inl rfl|exact .inr rfl|assumption):wpAny M A (storeName X.env x u) Q E s:=
 HA I hN hi hx r (fun s' I' _=>h s' I') hf
theorem Inv.JO{s':Shared}{ch:List Addr}(I:Inv X pins σ H s)(ho:s'.os=s.os)(u:Un (frs X.stack) ch H H' s.heap s'.heap)(hok:c8 X.prog X.w H' s'.heap)(hg:AllBare s'.gens)
  (hch:∀b∈ch,(b∈X.ex\/X.s₀.heap.objs.size<=b)/\b≠X.env.locals/\(∀x c,X.env.cells.lookup x=some c->c≠b)/\∀p∈X.pn++pins,p.1≠b):Inv X pins σ H' s':=by
 obtain⟨h',g',d',t',o'⟩:=s'
 have e:o'=s.os:=ho
 subst e
 exact I.call (g':=g') (t':=t') (d':=d') u hok hg hch
end
abbrev XK:=Value->Option Addr->Hp->Prop
abbrev St:=List (Option V)
abbrev VK:=V->Hp->Prop
abbrev TE:=St->Hp->VK->Prop
abbrev TT:=St->Hp->(Bool->Hp->Prop)->Prop
abbrev TA:=St->Hp->(List V->Hp->Prop)->Prop
structure Ends where
 nx:St->Hp->Prop
 rt:VK
 bk:St->Hp->Prop:=fun _ _=>False
 ct:St->Hp->Prop:=fun _ _=>False
abbrev TS:=Ends->St->Hp->Prop
def EP(X:Cx)(pins:List (Addr×Obj))(σ:St)(Q:VK)(u:Value)(s':Shared):Prop:=∃v H',Inv X pins σ H' s'/\RelV v u/\Q v H'
def TP(X:Cx)(pins:List (Addr×Obj))(σ:St)(Q:Bool->Hp->Prop)(b:Bool)(s':Shared):Prop:=∃H',Inv X pins σ H' s'/\Q b H'
def AP(X:Cx)(pins:List (Addr×Obj))(σ:St)(Q:List V->Hp->Prop)(us:List Value)(s':Shared):Prop:=∃vs H',Inv X pins σ H' s'/\Vals vs us/\Q vs H'
def SP(X:Cx)(pins:List (Addr×Obj))(D:Ends)(f:Flow)(s':Shared):Prop:=
 match f with
 | .next=>∃σ' H',Inv X pins σ' H' s'/\D.nx σ' H'
 | .brk=>∃σ' H',Inv X pins σ' H' s'/\D.bk σ' H'
 | .cont=>∃σ' H',Inv X pins σ' H' s'/\D.ct σ' H'
 | .ret u=>∃v σ' H',Inv X pins σ' H' s'/\RelV v u/\D.rt v H'
def PE(X:Cx)(e:Expr)(t:TE):Prop:=
 ∀(pins:List (Addr×Obj)) (s:Shared) (σ:St) (H:Hp) (Q:VK),Inv X pins σ H s->t σ H Q->wpAny (model X.prog X.w) X.A (eval e X.env) (EP X pins σ Q) X.xe s
def PT(X:Cx)(e:Expr)(t:TT):Prop:=
 ∀(pins:List (Addr×Obj)) (s:Shared) (σ:St) (H:Hp) (Q:Bool->Hp->Prop),Inv X pins σ H s->t σ H Q->wpAny (model X.prog X.w) X.A (isTrue e X.env (eval e X.env)) (TP X pins σ Q) X.xe s
def PW(X:Cx)(e:Expr)(t:TT):Prop:=
 ∀(whole:Sem Value) (pins:List (Addr×Obj)) (s:Shared) (σ:St) (H:Hp) (Q:Bool->Hp->Prop),Inv X pins σ H s->t σ H Q->wpAny (model X.prog X.w) X.A (isTrue e X.env whole) (TP X pins σ Q) X.xe s
theorem PW.pt{X:Cx}{e:Expr}{t:TT}(h:PW X e t):PT X e t:=h _
def PA(X:Cx)(es:List Expr)(t:TA):Prop:=
 ∀(pos:Pos) (pins:List (Addr×Obj)) (s:Shared) (σ:St) (H:Hp) (Q:List V->Hp->Prop),Inv X pins σ H s->t σ H Q->wpAny (model X.prog X.w) X.A (spliced (backTo pos (starEach es X.env))) (AP X pins σ Q) X.xe s
def PS(X:Cx)(st:Stmt)(t:TS):Prop:=
 ∀(pins:List (Addr×Obj)) (s:Shared) (σ:St) (H:Hp) (D:Ends),Inv X pins σ H s->t D σ H->wpAny (model X.prog X.w) X.A (exec st X.env) (SP X pins D) X.xe s
def i7(X:Cx)(st:List Stmt)(t:TS):Prop:=
 ∀(pins:List (Addr×Obj)) (s:Shared) (σ:St) (H:Hp) (D:Ends),Inv X pins σ H s->t D σ H->wpAny (model X.prog X.w) X.A (execs st X.env) (SP X pins D) X.xe s
theorem aT{α:Type}{t:Sem α}{Q Q':α->Shared->Prop}{M:Model}{A:Around}{E:Value->Shared->Prop}{s:Shared}(h:wpAny M A t Q E s)(hQ:∀a s,Q a s->Q' a s):wpAny M A t Q' E s:=wpAny_mono h hQ fun _ _ x=>x
section
variable{X:Cx}
theorem bin{a b:Expr}{ta tb:TE}(ha:PE X a ta)(hb:PE X b tb){pins:List (Addr×Obj)}{s:Shared}{σ:St}{H:Hp}{R:V->V->Hp->Prop}(I:Inv X pins σ H s)(h:ta σ H fun x H1=>tb σ H1 fun y H2=>R x y H2)
  {α:Type} {Q:α->Shared->Prop} {f:Value->Value->Sem α}
  (hf:∀v u s2 x y H2,Inv X pins σ H2 s2->RelV x v->RelV y u->R x y H2->wpAny (model X.prog X.w) X.A (f v u) Q X.xe s2):
  wpAny (model X.prog X.w) X.A (eval a X.env) (fun v s₁=>wpAny (model X.prog X.w) X.A (eval b X.env) (fun u s₂=>wpAny (model X.prog X.w) X.A (f v u) Q X.xe s₂) X.xe s₁) X.xe s:=by
 refine aT (ha pins s σ H _ I h) fun v s1 ⟨x,H1,I1,r1,q1⟩=>?_
 refine aT (hb pins s1 σ H1 _ I1 q1) fun u s2 ⟨y,H2,I2,r2,q2⟩=>?_
 exact hf v u s2 x y H2 I2 r1 r2 q2
def fR(i:Nat):TE:=fun σ H Q=>∃v,σ[i]?=some (some v)/\Q v H
def tC(v:V):TE:=fun _ H Q=>Q v H
theorem Uz{i:Nat}{x:Str}{pos:Pos}(hN:X.N[i]?=some x)(hv:xq X.env.scope x)(hd:(x==("__debug__":Str))=false:=by decide)(hcd:(x==("__classdict__":Str))=false:=by decide):PE X (.Name x pos) (fR i):=by
 intro pins s σ H Q I h
 obtain⟨v,e,h⟩:=h
 obtain⟨m,hn,hl⟩:=I.loc
 obtain⟨u,r,l⟩:=hl i x v hN e hv
 have fin:EP X pins σ Q u s:=⟨v,H,I,r,h⟩
 rcases l with ⟨hk,hm⟩|⟨hk,c,hc,hcell⟩
 ·exact wpAny_Name (wpAny_loadName_local I.ok.kind hk hn hm fin) hd
 ·rcases hk with hk|hk
  ·exact wpAny_Name (wpAny_loadName_cell I.ok.kind hk hc hcell fin) hd
  ·exact wpAny_Name (wpAny_loadName_free I.ok.kind hk hc hcell fin hcd) hd
theorem ai{i j pos}:PE X (.Constant (.int i) j pos) (tC (.int i)):=fun _ _ _ H _ I h=>wpAny_Constant_int ⟨.int i,H,I.tok _,⟨_,rfl⟩,h⟩
theorem jG{b j pos}:PE X (.Constant (.bool b) j pos) (tC (.bl b)):=fun _ _ _ H _ I h=>Constant_bool ⟨.bl b,H,I,rfl,h⟩
theorem lQ{j pos}:PE X (.Constant .none j pos) (tC .aM):=fun _ _ _ H _ I h=>Constant_none ⟨.aM,H,I,rfl,h⟩
theorem lY{x j pos}:PE X (.Constant (.str x) j pos) (tC (.str x)):=fun _ _ _ H _ I h=>Calls.Constant_str ⟨.str x,H,I.tok _,⟨_,rfl⟩,h⟩
def Gl(X:Cx)(x:Str):Prop:=X.env.kindOf x=some .globalImplicit
theorem OM{E:Value->Shared->Prop}{pins:List (Addr×Obj)}{s:Shared}{σ:St}{H:Hp}{x:Str}{u:Value}{pos:Pos}{Q:Value->Shared->Prop}(I:Inv X pins σ H s)(hg:Gl X x)(hm:X.mg x=some u)(h:Q u s)
  (hd:(x==("__debug__":Str))=false:=by decide):wpAny (model X.prog X.w) X.A (eval (.Name x pos) X.env) Q E s:=
 C9 I.ok.kind hg (Calls.loadGlobal_global (by rw[I.ok.glob];exact I.mod.glob.keeps I.bk) hm h) hd
theorem oM{E:Value->Shared->Prop}{pins:List (Addr×Obj)}{s:Shared}{σ:St}{H:Hp}{x:Str}{u:Value}{pos:Pos}{Q:Value->Shared->Prop}(I:Inv X pins σ H s)(hg:Gl X x)(hm:X.mg x=none)(hv:bootBuiltins x=some u)(h:Q u s)
  (hn:x≠"__name__":=by decide) (hd:(x==("__debug__":Str))=false:=by decide):wpAny (model X.prog X.w) X.A (eval (.Name x pos) X.env) Q E s:=by
 obtain⟨mb,h1,h2⟩:=I.mod.blt
 exact C9 I.ok.kind hg (Calls.loadGlobal_builtin (by rw[I.ok.glob];exact I.mod.glob.keeps I.bk) hm (by rw[I.ok.blt];exact h1.keeps I.bk) ((h2 x hn).trans hv) h) hd
theorem jl{x:Str}{v:V}{u:Value}{pos:Pos}(hg:Gl X x)(hm:X.mg x=none)(hv:bootBuiltins x=some u)(r:RelV v u)(hn:x≠"__name__":=by decide)(hd:(x==("__debug__":Str))=false:=by decide):PE X (.Name x pos) (tC v):=
 fun _ _ _ H _ I h=>oM I hg hm hv ⟨v,H,I,r,h⟩ hn hd
variable{a b:Expr}{ta tb:TE}{pos:Pos}
def PC(X:Cx)(op:CmpOp)(a b:Expr)(t:TE):Prop:=
 ∀(pins:List (Addr×Obj)) (s:Shared) (σ:St) (H:Hp) (Q:VK),Inv X pins σ H s->t σ H Q->
  wpAny (model X.prog X.w) X.A (eval a X.env) (fun v s₁=>wpAny (model X.prog X.w) X.A (eval b X.env) (fun u s₂=>wpAny (model X.prog X.w) X.A (compareOp op v u) (EP X pins σ Q) X.xe s₂) X.xe s₁) X.xe s
variable{tA tP:TT}{rest:List Expr}
def Cd(t u:TT):TT:=fun σ H Q=>t σ H fun c H1=>if c=true then u σ H1 Q else Q false H1
def Iz(t u:TT):TT:=fun σ H Q=>t σ H fun c H1=>if c=true then Q true H1 else u σ H1 Q
def HV(t:TT):TT:=fun σ H Q=>t σ H fun c H1=>Q (!c) H1
theorem mJ(ha:PT X a tA):PW X (.BoolOp .And [a] pos) tA:=by
 intro wh pins s σ H Q I h
 refine isTrue_and (aT (ha pins s σ H Q I h) fun c s1 e=>?_)
 cases c with
 |true=>exact isTrue_and_nil e
 |false=>exact e
theorem wO(ha:PT X a tA):PW X (.BoolOp .Or [a] pos) tA:=by
 intro wh pins s σ H Q I h
 refine isTrue_or (aT (ha pins s σ H Q I h) fun c s1 e=>?_)
 cases c with
 |false=>exact isTrue_or_nil e
 |true=>exact e
theorem mK(ha:PT X a tA)(hb:PW X (.BoolOp .And (b::rest) pos) tP):PW X (.BoolOp .And (a::b::rest) pos) (Cd tA tP):=by
 intro wh pins s σ H Q I h
 refine isTrue_and (aT (ha pins s σ H _ I h) fun c s1 ⟨H1,I1,q1⟩=>?_)
 cases c with
 |true=>exact hb wh pins s1 σ H1 Q I1 q1
 |false=>exact⟨H1,I1,q1⟩
theorem BZ(ha:PT X a tA)(hb:PW X (.BoolOp .Or (b::rest) pos) tP):PW X (.BoolOp .Or (a::b::rest) pos) (Iz tA tP):=by
 intro wh pins s σ H Q I h
 refine isTrue_or (aT (ha pins s σ H _ I h) fun c s1 ⟨H1,I1,q1⟩=>?_)
 cases c with
 |true=>exact⟨H1,I1,q1⟩
 |false=>exact hb wh pins s1 σ H1 Q I1 q1
theorem nk(ha:PT X a tA):PT X (.UnaryOp .Not a pos) (HV tA):=by
 intro pins s σ H Q I h
 exact isTrue_not (ha pins s σ H (fun c H1=>Q (!c) H1) I h)
def CY(ta tb:TE):TE:=fun σ H Q=>ta σ H fun x H1=>∃c,x= .bl c/\if c=true then tb σ H1 Q else Q (.bl false) H1
theorem Tn{op}{t:TE}(h:PE X a t):PE X (.BoolOp op [a] pos) t:=fun pins s σ H Q I hw=>BoolOp_one (h pins s σ H Q I hw)
theorem Lz(ha:PE X a ta)(hb:PE X (.BoolOp .And (b::rest) pos) tb):PE X (.BoolOp .And (a::b::rest) pos) (CY ta tb):=by
 intro pins s σ H Q I h
 refine BoolOp_and (aT (ha pins s σ H _ I h) fun v s1 ⟨x,H1,I1,r1,q1⟩=>?_)
 obtain⟨c,rfl,q1⟩:=q1
 cases r1
 refine wpAny_truthy_bool ?_
 cases c with
 |true=>exact hb pins s1 σ H1 Q I1 q1
 |false=>exact⟨.bl false,H1,I1,rfl,q1⟩
def DG(t:TT)(ta tb:TE):TE:=fun σ H Q=>t σ H fun c H1=>if c=true then ta σ H1 Q else tb σ H1 Q
theorem oN{c:Expr}(hc:PT X c tA)(ha:PE X a ta)(hb:PE X b tb):PE X (.IfExp c a b pos) (DG tA ta tb):=by
 intro pins s σ H Q I h
 refine wpAny_IfExp (aT (hc pins s σ H _ I h) fun d s1 ⟨H1,I1,q1⟩=>?_)
 cases d with
 |true=>exact ha pins s1 σ H1 Q I1 q1
 |false=>exact hb pins s1 σ H1 Q I1 q1
end
def aW(K:PySem.W.Frag)(H:Hp)(a:Addr)(xs:List V):Prop:=
 Rd H a (.lst xs)\/
  ∃(o:Obj) (its:Array Value) (n:Nat),K.lookup a=some o/\o.cls= .type "list" /\o.dict=none/\o.data= .seq its n/\its.size<=sizeLine/\Vals xs its.toList
def fY(K:PySem.W.Frag)(H:Hp)(a:Addr)(xs:List V):Prop:=
 Rd H a (.tup xs)\/
  ∃(o:Obj) (its:Array Value) (n:Nat),K.lookup a=some o/\o.cls= .type "tuple" /\o.data= .seq its n/\its.size<=sizeLine/\Vals xs its.toList
def Of:Value->Option V
 | .none=>some .aM
 | .bool b=>some (.bl b)
 | .int i _=>some (.int i)
 | .str x _=>some (.str x)
 | .bytes b _=>some (.iZ b)
 | .float b _=>some (.lH b)
 | .ref a=>some (.ref a)
 | .type n=>some (.ty n)
 |_=>none
theorem RelV.abs{x:V}{u:Value}(r:RelV x u):Of u=some x:=by
 cases x with
 |aM=>cases r;rfl
 |bl _=>cases r;rfl
 |int _=>obtain⟨t,rfl⟩:=r;rfl
 |str _=>obtain⟨t,rfl⟩:=r;rfl
 |iZ _=>obtain⟨t,rfl⟩:=r;rfl
 |lH _=>obtain⟨t,rfl⟩:=r;rfl
 |ref _=>cases r;rfl
 |ty _=>cases r;rfl
theorem RelV.inj{x y:V}{u:Value}(r:RelV x u)(q:RelV y u):x=y:=gn (r.abs.symm.trans q.abs)
theorem Vals.inj{xs ys:List V}{us:List Value}(h:Vals xs us)(k:Vals ys us):xs=ys:=by
 induction h generalizing ys with
 |nil=>cases k;rfl
 |cons r t ih=>cases k with|cons r' t'=>rw[r.inj r',ih t']
section
variable{X:Cx}{pins:List (Addr×Obj)}{σ:St}{H:Hp}{s:Shared}{a:Addr}{xs ys:List V}
theorem aW.of{K:PySem.W.Frag}(h:H a=some (.lst xs)):aW K H a xs:= .inl (.inl h)
theorem fY.of{K:PySem.W.Frag}(h:H a=some (.tup xs)):fY K H a xs:= .inl (.inl h)
theorem Inv.list(I:Inv X pins σ H s)(h:aW X.K H a xs):∃its:List Value,Vals xs its/\PlainL s.heap a its.toArray/\xs.length<=sizeLine:=by
 rcases h with h|⟨o,its,n,hk,hc,hd,hs,hz,r⟩
 ·obtain⟨z,its,n,r,e⟩:=h.ok I.hok
  exact⟨its,r,⟨_,n,e,rfl,rfl,rfl⟩,z⟩
 ·refine⟨its.toList,r,⟨o,n,I.eB a o hk,hc,hd,by simpa using hs⟩,?_⟩
  have e:=r.length
  simp only[jZ] at e
  omega
theorem Inv.tuple(I:Inv X pins σ H s)(h:fY X.K H a xs):∃its:List Value,Vals xs its/\IsTup s.heap a its.toArray/\xs.length<=sizeLine:=by
 rcases h with h|⟨o,its,n,hk,hc,hs,hz,r⟩
 ·obtain⟨z,its,r,p⟩:=h.ok I.hok
  exact⟨its,r,p,z⟩
 ·refine⟨its.toList,r,⟨o,I.eB a o hk,hc,n,by simpa using hs⟩,?_⟩
  have e:=r.length
  simp only[jZ] at e
  omega
theorem Inv.Hr(I:Inv X pins σ H s)(h:aW X.K H a xs)(h':aW X.K H a ys):xs=ys:=by
 obtain⟨its,r,⟨o,n,e,_,_,d⟩,_⟩:=I.list h
 obtain⟨its',r',⟨o',n',e',_,_,d'⟩,_⟩:=I.list h'
 rw[e] at e';cases e'
 rw[d] at d'
 injection d' with d1 _
 have:its=its':=by simpa using congrArg Array.toList d1
 subst this
 exact r.inj r'
end
abbrev Cx.kr(X:Cx)(E:Value->Shared->Prop):Cx:={X with xe:=E}
abbrev Cx.tF(X:Cx):Cx:=X.kr fun _ _=>False
theorem Cx.Ok.kr{X:Cx}(ok:X.Ok)(E:Value->Shared->Prop):(X.kr E).Ok:=
 ⟨ok.mod,ok.kind,ok.glob,ok.blt,ok.above,ok.inj,ok.has,ok.qf,ok.hd,ok.frames,ok.stk,ok.uE,ok.bs,ok.nj,ok.rC,ok.qU,ok.jW,ok.oE⟩
theorem Cx.Ok.lR{X:Cx}{E:Value->Shared->Prop}(ok:(X.kr E).Ok):X.Ok:=
 ⟨ok.mod,ok.kind,ok.glob,ok.blt,ok.above,ok.inj,ok.has,ok.qf,ok.hd,ok.frames,ok.stk,ok.uE,ok.bs,ok.nj,ok.rC,ok.qU,ok.jW,ok.oE⟩
section
variable{X:Cx}{pins:List (Addr×Obj)}{σ:St}{H:Hp}{s:Shared}{E:Value->Shared->Prop}
theorem Inv.kr(I:Inv X pins σ H s)(E:Value->Shared->Prop):Inv (X.kr E) pins σ H s:=⟨I.ok.kr E,I.os,I.bare,I.base,I.loc,I.cell,I.free,I.i8,I.pin,I.hok,I.len⟩
theorem Inv.lR(I:Inv (X.kr E) pins σ H s):Inv X pins σ H s:=⟨I.ok.lR,I.os,I.bare,I.base,I.loc,I.cell,I.free,I.i8,I.pin,I.hok,I.len⟩
theorem SP.lR{D:Ends}{f:Flow}{s':Shared}(h:SP (X.kr E) pins D f s'):SP X pins D f s':=by
 cases f with
 |next=>obtain⟨σ',H',I,q⟩:=h;exact⟨σ',H',I.lR,q⟩
 |brk=>obtain⟨σ',H',I,q⟩:=h;exact⟨σ',H',I.lR,q⟩
 |cont=>obtain⟨σ',H',I,q⟩:=h;exact⟨σ',H',I.lR,q⟩
 |ret u=>obtain⟨v,σ',H',I,r,q⟩:=h;exact⟨v,σ',H',I.lR,r,q⟩
theorem i7.tF{st:List Stmt}{t:TS}(h:i7 X.tF st t):i7 X st t:=fun pins s σ H D I hw=>
 wpAny_mono (h pins s σ H D (I.kr _) hw) (fun _ _ q=>q.lR) fun _ _ z=>False.elim z
end
section
variable{X:Cx}{st:Stmt}{rest:List Stmt}{t u:TS}{e:Expr}{te:TE}{pos:Pos}
def ya:TS:=fun D σ H=>D.nx σ H
def rD(t u:TS):TS:=fun D σ H=>t {D with nx:=u D} σ H
theorem dX:i7 X [] ya:=fun _ _ σ H _ I h=>wpAny_execs_nil ⟨σ,H,I,h⟩
theorem ao(h1:PS X st t)(h2:i7 X rest u):i7 X (st::rest) (rD t u):=by
  intro pins s σ H D I h
  refine wpAny_execs_cons (aT (h1 pins s σ H {D with nx:=u D} I h) fun f s1 q=>?_)
  cases f with
  | next =>
    obtain⟨σ',H',I',q⟩:=q
    exact h2 pins s1 σ' H' D I' q
  |ret v=>exact q
  |brk=>exact q
  |cont=>exact q
theorem aE(h1:PS X st t):i7 X [st] t:=by
 intro pins s σ H D I h
 refine wpAny_execs_cons (aT (h1 pins s σ H D I h) fun f s1 q=>?_)
 cases f with
 |next=>exact wpAny_execs_nil q
 |ret v=>exact q
 |brk=>exact q
 |cont=>exact q
def M0:TS:=fun D σ H=>D.ct σ H
theorem Inv.quiet{pins:List (Addr×Obj)}{σ:St}{H:Hp}{s:Shared}(I:Inv X pins σ H s):interactive X.env=false:=by simp[interactive,I.ok.kind]
def tR(te:TE):TS:=fun D σ H=>te σ H fun _ H1=>D.nx σ H1
theorem jY(he:PE X e te)(hs:swapsWith e none pos.line X.env=pure false:=by rfl):PS X (.Expr e pos) (tR te):=by
 intro pins s σ H D I h
 exact wpAny_Expr_any (aT (he pins s σ H _ I h) fun v s1 ⟨x,H1,I1,r1,q1⟩=>⟨σ,H1,I1,q1⟩) I.quiet hs
def sG(te:TE):TS:=fun D σ H=>te σ H D.rt
theorem aZ(he:PE X e te):PS X (.Return (some e) pos) (sG te):=by
 intro pins s σ H D I h
 exact wpAny_Return_some (aT (he pins s σ H _ I h) fun v s1 ⟨x,H1,I1,r1,q1⟩=>⟨x,σ,H1,I1,r1,q1⟩)
def AW(c:TT)(t u:TS):TS:=fun D σ H=>c σ H fun b H1=>if b=true then t D σ H1 else u D σ H1
theorem dj{c:Expr}{a b:List Stmt}{tc:TT}(hc:PT X c tc)(ha:i7 X a t)(hb:i7 X b u):PS X (.If c a b pos) (AW tc t u):=by
 intro pins s σ H D I h
 refine wpAny_If (aT (hc pins s σ H _ I h) fun d s1 ⟨H1,I1,q1⟩=>?_)
 cases d with
 |true=>exact ha pins s1 σ H1 D I1 q1
 |false=>exact hb pins s1 σ H1 D I1 q1
end
abbrev TG:=V->St->Hp->(St->Hp->Prop)->Prop
abbrev ic:=List V->St->Hp->(St->Hp->Prop)->Prop
def PG(X:Cx)(target:Expr)(t:TG):Prop:=
 ∀(pins:List (Addr×Obj)) (s:Shared) (σ:St) (H:Hp) (v:V) (u:Value) (Q:St->Hp->Prop),Inv X pins σ H s->RelV v u->t v σ H Q->
  wpAny (model X.prog X.w) X.A (assign target X.env u) (fun _ s'=>∃σ' H',Inv X pins σ' H' s'/\Q σ' H') X.xe s
def rq(X:Cx)(ts:List Expr)(t:ic):Prop:=
 ∀(pins:List (Addr×Obj)) (s:Shared) (σ:St) (H:Hp) (vs:List V) (us:List Value) (Q:St->Hp->Prop),Inv X pins σ H s->Vals vs us->t vs σ H Q->
  wpAny (model X.prog X.w) X.A (assignInOrder ((assignEach ts X.env).map (·.2)) us) (fun _ s'=>∃σ' H',Inv X pins σ' H' s'/\Q σ' H') X.xe s
abbrev sY:=V->V->V->Hp->(Hp->Prop)->Prop
def BS(X:Cx)(t:sY):Prop:=
 ∀(pins:List (Addr×Obj)) (s:Shared) (σ:St) (H:Hp) (o i v:V) (ov iv u:Value) (Q:Hp->Prop),Inv X pins σ H s->RelV o ov->RelV i iv->RelV v u->t o i v H Q->
  wpAny (model X.prog X.w) X.A (setItem ov iv u) (fun _ s'=>∃H',Inv X pins σ H' s'/\Q H') X.xe s
section
variable{X:Cx}{pos:Pos}
def fG(i:Nat):TG:=fun v σ H Q=>Q (σ.set i (some v)) H
theorem aR{i:Nat}{x:Str}(hN:X.N.Nodup)(hi:X.N[i]?=some x)(hx:Loc X.env.scope x)(hf:X.fn x=true\/X.env.scope.names.lookup x=some .local:=by first|exact .inl rfl|exact .inr rfl|assumption):PG X (.Name x pos) (fG i):=by
 intro pins s σ H v u Q I r h
 exact wpAny_assign_Name (Ju I hN hi hx r (fun s' I'=>⟨_,H,I',h⟩) hf)
def yO:ic:=fun vs σ H Q=>vs=[]/\Q σ H
def xY(t:TG)(u:ic):ic:=fun vs σ H Q=>∃v r,vs=v::r/\t v σ H fun σ' H'=>u r σ' H' Q
theorem iC:rq X [] yO:=by
 intro pins s σ H vs us Q I r h
 obtain⟨e,h⟩:=h
 subst e
 cases r
 exact assignInOrder_nil ⟨σ,H,I,h⟩
theorem cG{e:Expr}{es:List Expr}{t:TG}{u:ic}(h1:PG X e t)(h2:rq X es u)
    (hs:(assignEach (e::es) X.env).map (·.2)=assign e X.env::(assignEach es X.env).map (·.2):=by rfl):rq X (e::es) (xY t u):=by
  intro pins s σ H vs us Q I r h
  obtain⟨v,vr,e1,h⟩:=h
  subst e1
  cases r with
  | cons r rr =>
    rw[hs]
    refine assignInOrder_cons (aT (h1 pins s σ H _ _ _ I r h) fun _ s1 ⟨σ1,H1,I1,q1⟩=>?_)
    exact h2 pins s1 σ1 H1 _ _ Q I1 rr q1
def sW(K:PySem.W.Frag)(n:Nat)(t:ic):TG:=fun v σ H Q=>∃a xs,v= .ref a/\fY K H a xs/\xs.length=n/\t xs σ H Q
theorem Jc{es:List Expr}{k:Nat}{t:ic}{n:Nat}(hc:X.calm=true)(h:rq X es t)
  (hn:(assignEach es X.env).length=n:=by rfl) (hst:(assignEach es X.env).findIdx? (·.1)=none:=by rfl):PG X (.Tuple es k pos) (sW X.K n t):=by
 intro pins s σ H v u Q I r hw
 obtain⟨a,xs,e1,hq,hl,hw⟩:=hw
 subst e1
 cases r
 obtain⟨its,rv,ht,hz⟩:=I.tuple hq
 refine assign_Tuple_tuple (I.ok.hd hc) ht (by simp[hn,<-hl,rv.length]) hst fun h' hx=>?_
 have I1:Inv X pins σ H {s with heap:=h'}:=I.kept (t':=s.toks) fun b o e=>hx b o (cV (bC e)) e
 exact h pins _ σ H xs _ Q I1 (by simpa using rv) hw
def qN(to ti:TE)(t:sY):TG:=fun v σ H Q=>to σ H fun o H1=>ti σ H1 fun i H2=>t o i v H2 fun H3=>Q σ H3
theorem lT{o i:Expr}{to ti:TE}{t:sY}(ho:PE X o to)(hi:PE X i ti)(hs:BS X t)
  (ha : ∀ v, assign (.Subscript o i pos) X.env v = (do
   let ov<-holding [v] (eval o X.env)
   let iv<-holding [v,ov] (eval i X.env)
   standAt pos
   holding [v,ov,iv] (setItem ov iv v)
   release [v,ov,iv] []):=by intro _;rfl):PG X (.Subscript o i pos) (qN to ti t):=by
 intro pins s σ H v u Q I r h
 rw[ha]
 refine wpAny_bind (wpAny_holding (aT (ho pins s σ H _ I h) fun ov s1 ⟨x,H1,I1,r1,q1⟩=>?_))
 refine wpAny_bind (wpAny_holding (aT (hi pins s1 σ H1 _ I1 q1) fun iv s2 ⟨y,H2,I2,r2,q2⟩=>?_))
 refine wpAny_bind (wpAny_standAt (wpAny_bind (wpAny_holding (aT (hs pins s2 σ H2 x y v ov iv u _ I2 r1 r2 r q2) fun _ s3 ⟨H3,I3,q3⟩=>?_))))
 exact wpAny_release ⟨σ,H3,I3,q3⟩
def iJ(te:TE)(g:TG):TS:=fun D σ H=>te σ H fun x H1=>g x σ H1 D.nx
theorem jx{tg e:Expr}{te:TE}{g:TG}(he:PE X e te)(hg:PG X tg g)(hs:swapsWithSole [tg] e pos.line X.env=pure false:=by rfl)(hw:swappedStores [tg] e X.env=pure none:=by rfl)
  (h1:(assignEach [tg] X.env).map (·.2)=[assign tg X.env]:=by rfl):PS X (.Assign [tg] e pos) (iJ te g):=by
 intro pins s σ H D I h
 refine wpAny_Assign_stores (aT (he pins s σ H _ I h) fun v s1 ⟨x,H1,I1,r1,q1⟩=>?_) hs hw
 rw[h1]
 exact aT (hg pins s1 σ H1 x v _ I1 r1 q1) fun _ s2 q=>q
theorem aC{i:Nat}{x:Str}{e:Expr}{te:TE}{pos':Pos}(hN:X.N.Nodup)(hi:X.N[i]?=some x)(hx:Loc X.env.scope x)(he:PE X e te)(hs:swapsWith e (some (.Name x pos')) pos.line X.env=pure false:=by rfl)(hf:X.fn x=true\/X.env.scope.names.lookup x=some .local:=by first|exact .inl rfl|exact .inr rfl|assumption):
  PS X (.Assign [.Name x pos'] e pos) (iJ te (fG i)):=by
 intro pins s σ H D I h
 refine wpAny_Assign_Name (aT (he pins s σ H _ I h) fun v s1 ⟨y,H1,I1,r1,q1⟩=>?_) hs
 exact Ju I1 hN hi hx r1 (fun s2 I2=>⟨_,H1,I2,q1⟩) hf
end
section
variable{X:Cx}{pos:Pos}
def xM(c:TT)(tb:TS):TS:=fun D σ H=>∃W:Nat->St->Hp->Prop,(∃m,W m σ H)/\∀m σ H,W m σ H->
 c σ H fun b H1=>if b=true then∃N:St->Hp->Prop,(∀σ' H',N σ' H'->∃m',m'<m/\W m' σ' H')/\tb {D with nx:=N,ct:=N,bk:=D.nx} σ H1 else D.nx σ H1
theorem uB{c:Expr}{body:List Stmt}{tc:TT}{tb:TS}(hp:PassesOwn (model X.prog X.w) X.A X.env X.xe)(hc:PT X c tc)(hb:i7 X body tb):PS X (.While c body [] pos) (xM tc tb):=by
  intro pins s σ H D I h
  obtain⟨W,⟨m0,w0⟩,turn⟩:=h
  refine wpAny_While (codeAny_whileLoop (fun n s'=>∃σ' H',Inv X pins σ' H' s'/\W n σ' H') ?_ m0 ⟨σ,H,I,w0⟩)
  rintro n s1 ⟨σ1,H1,I1,w1⟩
  refine wpAny_passesOwn hp (aT (hc pins s1 σ1 H1 _ I1 (turn n σ1 H1 w1)) fun b s2 ⟨H2,I2,q2⟩=>?_)
  cases b with
  | true =>
    obtain⟨N,hN,q2⟩:=q2
    rw[if_pos rfl]
    refine wpAny_passesOwn hp (aT (hb pins s2 σ1 H2 _ I2 q2) fun f s3 q3=>?_)
    cases f with
    | next =>
      obtain⟨σ3,H3,I3,n3⟩:=q3
      obtain⟨m',hm,w3⟩:=hN σ3 H3 n3
      exact⟨m',hm,σ3,H3,I3,w3⟩
    | cont =>
      obtain⟨σ3,H3,I3,n3⟩:=q3
      obtain⟨m',hm,w3⟩:=hN σ3 H3 n3
      exact⟨m',hm,σ3,H3,I3,w3⟩
    |brk=>exact q3
    |ret v=>exact q3
  | false =>
    rw[if_neg dh]
    exact wpAny_execs_nil ⟨σ1,H2,I2,q2⟩
end
structure It where
 go:Nat->Hp->Prop
 mF:Nat->Hp->V->Hp->Prop
 stop:Nat->Hp->Prop
def iS(X:Cx)(pins:List (Addr×Obj))(H:Hp)(b:Addr):Prop:=
 H b=none/\b≠X.env.locals/\b∉X.fs/\(b∈X.ex\/X.s₀.heap.objs.size<=b)/\(∀x c,X.env.cells.lookup x=some c->c≠b)/\∀p∈X.pn++pins,p.1≠b
theorem Inv.pY{X:Cx}{pins:List (Addr×Obj)}{σ:St}{H H':Hp}{s:Shared}{b:Addr}(I:Inv X pins σ H s)(hb:s.heap.objs.size<=b)(hn:H' b=none):iS X pins H' b:=by
 refine⟨hn,mR (eE I.lt hb),I.VI hb, .inr (ez I.sz hb),fun x c e z=>?_,fun p hp z=>?_⟩
 ·obtain⟨v,q⟩:=I.cell x c e
  exact absurd (eE q.lt (by rw[z];exact hb)) (jo _)
 ·exact absurd (eE (bC (I.pin p hp).1) (by rw[z];exact hb)) (jo _)
structure Turn(P:Program)(w:World)(K:PySem.W.Frag)(tg:Expr)(J:It)(fp:List Addr)(it:Addr)(tn:Nat->Heap->Prop):Prop where
 mem:it∈fp
 obj:∀i h,tn i h->∀b∈fp,∃o,h.get? b=some o/\∀v,o.data≠ .cell v
 keep:∀i h h',tn i h->(∀b∈fp,∀o,h.get? b=some o->h'.get? b=some o)->tn i h'
 item:∀(X:Cx),X.prog=P->X.w=w->X.K=K->X.calm=true->∀(i:Nat) (pins:List (Addr×Obj)) (s:Shared) (σ:St) (H:Hp) (E:Value->Shared->Prop),Inv X pins σ H s->(∀b∈fp,iS X pins H b)->tn i s.heap->J.go i H->
  wpAny (model P w) X.A (pyNext (.ref it)) (fun r s1=>∃u,r=some u/\
   wpAny (model P w) X.A (letOwnedTupleGo tg (.ref it) u) (fun _ s2=>∃x H',Inv X pins σ H' s2/\RelV x u/\J.mF i H x H'/\tn (i+1) s2.heap/\∀b∈fp,H' b=none) E s1) E s
 done:∀(X:Cx),X.prog=P->X.w=w->X.K=K->X.calm=true->∀(i:Nat) (pins:List (Addr×Obj)) (s:Shared) (σ:St) (H:Hp) (E:Value->Shared->Prop),Inv X pins σ H s->(∀b∈fp,iS X pins H b)->tn i s.heap->J.stop i H->
  wpAny (model P w) X.A (pyNext (.ref it)) (fun r s1=>r=none/\Inv X pins σ H s1) E s
 self:∀(A:Around) (i:Nat) (s:Shared) (Q:Value->Shared->Prop) (E:Value->Shared->Prop),tn i s.heap->Q (.ref it) s->wpAny (model P w) A (pyIter (.ref it)) Q E s
abbrev TI:=St->Hp->(It->Hp->Prop)->Prop
def Je(X:Cx)(pins:List (Addr×Obj))(σ:St)(tg:Expr)(R:It->Hp->Prop)(itv:Value)(s2:Shared):Prop:=
 ∃(it:Addr) (fp:List Addr) (tn:Nat->Heap->Prop) (J:It) (H':Hp),itv= .ref it/\Inv X pins σ H' s2/\Turn X.prog X.w X.K tg J fp it tn/\tn 0 s2.heap/\(∀b∈fp,iS X pins H' b)/\R J H'
def PI(X:Cx)(tg iter:Expr)(wi:TI):Prop:=
 ∀(pins:List (Addr×Obj)) (s:Shared) (σ:St) (H:Hp) (R:It->Hp->Prop),Inv X pins σ H s->wi σ H R->
  wpAny (model X.prog X.w) X.A (eval iter X.env) (fun v s1=>wpAny (model X.prog X.w) X.A (pyIter v) (Je X pins σ tg R) X.xe s1) X.xe s
theorem Aa{M:Model}{A:Around}{E:Value->Shared->Prop}{s:Shared}{tg:Expr}{it:Addr}{u:Value}{o:Obj}{n:String}{vs:Array Value}{Q:Unit->Shared->Prop}(ho:s.heap.get? it=some o)(hc:o.cls= .type n)(hd:o.data= .fields vs)
    (hn:["enumerate","zip","dict_itemiterator","dict_reverseitemiterator","odict_iterator","itertools.zip_longest","itertools.pairwise"].contains n=false) (hQ:Q () s):wpAny M A (letOwnedTupleGo tg (.ref it) u) Q E s:=by
  unfold letOwnedTupleGo
  cases tg<;>first
    |exact wpAny_pure hQ
    |(cases u<;>first
        |exact wpAny_pure hQ
        | (refine wpAny_bind (wpAny_load ho ?_)
           rw[hc,hd]
           show wpAny M A (if(["enumerate","zip","dict_itemiterator","dict_reverseitemiterator","odict_iterator","itertools.zip_longest","itertools.pairwise"].contains n && vs[0]?==some (rawInt _))=true then _ else _) Q E s
           rw[if_neg (by intro h;rw[hn,Bool.false_and] at h;cases h)]
           exact wpAny_pure hQ))
def nN(K:PySem.W.Frag)(a:Addr):It:=
 ⟨fun i H=>∃xs x,aW K H a xs/\xs[i]?=some x,fun i H x H'=>H'=H/\∀xs,aW K H a xs->xs[i]?=some x,fun i H=>∃xs,aW K H a xs/\xs.length<=i⟩
def iE(lo:Int)(n:Nat):It:=⟨fun i _=>i<n,fun i H x H'=>H'=H/\x= .int (lo+i),fun i _=>n<=i⟩
theorem NK{P:Program}{w:World}{K:PySem.W.Frag}{tg:Expr}(a it:Addr):Turn P w K tg (nN K a) [it] it (fun i h=>h.IsListIter it a i) where
 mem:=by simp
 obj:=fun i h st b hb=>by
  have e:b=it:=by simpa using hb
  subst e
  obtain⟨o,e,c,d⟩:=st
  exact⟨o,e,fun v z=>by rw[d] at z;cases z⟩
 keep:=fun i h h' st k=>st.at fun o e=>k it (by simp) o e
 item:=by
  intro X hP hw hK hc i pins s σ H E I hf st hg
  subst hP hw hK
  obtain⟨xs,x,hq,hx⟩:=hg
  obtain⟨its,rv,p,hz⟩:=I.list hq
  obtain⟨u,hu,ru⟩:=rv.get hx
  obtain⟨f0,f1,f2,f3,f4,f5⟩:=hf it (by simp)
  refine wpAny_pyNext_list_item st p.isList (x:=u) (by simpa using hu) fun h' st' sb=>?_
  have I1:Inv X pins σ H {s with heap:=h'}:=I.turned (t':=s.toks) (fun b o hb e=>(sb.2 b hb).trans e) f0 f1 f3 f4 f5
  obtain⟨o,e,c,d⟩:=id st'
  exact⟨u,rfl,Aa (s:={s with heap:=h'}) e c d (by decide) ⟨x,H,I1,ru,⟨rfl,fun ys hy=>by rw[I.Hr hy hq];exact hx⟩,st',fun b hb=>(hf b hb).1⟩⟩
 done:=by
  intro X hP hw hK hc i pins s σ H E I hf st hg
  subst hP hw hK
  obtain⟨xs,hq,hx⟩:=hg
  obtain⟨its,rv,p,hz⟩:=I.list hq
  obtain⟨f0,f1,f2,f3,f4,f5⟩:=hf it (by simp)
  have hl:=rv.length
  exact wpAny_pyNext_list_end (I.ok.hd hc) st p.isList (by simp;omega) fun h' eb=>⟨rfl,I.turned (t':=s.toks) (fun b o hb e=>eb b o hb e) f0 f1 f3 f4 f5⟩
 self:=fun _ _ _ _ _ st h=>wpAny_pyIter_listiter st h
theorem P5{P:Program}{w:World}{K:PySem.W.Frag}{tg:Expr}(it:Addr)(lo:Int)(n:Nat):Turn P w K tg (iE lo n) [it] it (fun i h=>IsRangeIter h it (lo+(i:Nat)*1) ((n:Int)-(i:Nat)) 1) where
 mem:=by simp
 obj:=fun i h st b hb=>by
  have e:b=it:=by simpa using hb
  subst e
  exact⟨_,st,fun v z=>by
   have z':Data.fields _=Data.cell v:=z
   cases z'⟩
 keep:=fun i h h' st k=>k it (by simp) _ st
 item:=by
  intro X hP hw hK hc i pins s σ H E I hf st hg
  subst hP hw hK
  obtain⟨f0,f1,f2,f3,f4,f5⟩:=hf it (by simp)
  have W:=Walks.range (prog:=X.prog) (w:=X.w) (I.ok.hd hc) it lo 1 n
  refine W.item i s _ _ hg st fun v h' tk hv st' kk=>?_
  obtain⟨t,rfl⟩:=hv
  have I1:Inv X pins σ H {s with heap:=h',toks:=tk}:=I.turned (fun b o hb e=>kk b o (by simpa using hb) e) f0 f1 f3 f4 f5
  refine⟨_,rfl,Aa (s:={s with heap:=h',toks:=tk}) (n:="range_iterator") st' rfl rfl (by decide) ⟨.int (lo+i),H,I1,⟨t,?_⟩,⟨rfl,rfl⟩,st',fun b hb=>(hf b hb).1⟩⟩
  rw[Int.mul_one]
 done:=by
  intro X hP hw hK hc i pins s σ H E I hf st hg
  subst hP hw hK
  obtain⟨f0,f1,f2,f3,f4,f5⟩:=hf it (by simp)
  exact wpAny_pyNext_range_end (I.ok.hd hc) st (by have:n<=i:=hg;omega) fun h' eb=>⟨rfl,I.turned (t':=s.toks) (fun b o hb e=>eb b o hb e) f0 f1 f3 f4 f5⟩
 self:=fun _ _ _ _ _ st h=>wpAny_pyIter_rangeiter st h
section
variable{X:Cx}{tg:Expr}
def qa(K:PySem.W.Frag)(tl:TE):TI:=fun σ H R=>tl σ H fun x H1=>∃a,x= .ref a/\(∃xs,aW K H1 a xs)/\R (nN K a) H1
theorem fy{l:Expr}{tl:TE}(hl:PE X l tl):PI X tg l (qa X.K tl):=by
 intro pins s σ H R I h
 refine aT (hl pins s σ H _ I h) fun v s1 ⟨x,H1,I1,r1,q1⟩=>?_
 obtain⟨a,e,⟨xs,hq⟩,q⟩:=q1
 subst e
 cases r1
 obtain⟨its,rv,p,hz⟩:=I1.list hq
 refine wpAny_pyIter_list p.isList ?_
 refine⟨s1.heap.objs.size,[s1.heap.objs.size],_,_,H1,rfl,I1.kept (t':=s1.toks) fun b o e=>bV _ e,NK a _,⟨_,fN _ rfl,rfl,rfl⟩,fun b hb=>?_,q⟩
 have e:b=s1.heap.objs.size:=by simpa using hb
 subst e
 exact I1.pY (aI _) (I1.hok.fresh (aI _))
theorem Hq{pins:List (Addr×Obj)}{σ:St}{H:Hp}{s:Shared}{R:It->Hp->Prop}{E:Value->Shared->Prop}{lo hi:Int}{t u v:Tok}{tk:Nat}(I:Inv X pins σ H s)(h1: -(2^62)<=lo)(h2:lo<2^62)(h3: -(2^62)<=hi)(h4:hi<2^62)
  (q:R (iE lo (hi-lo).toNat) H):wpAny (model X.prog X.w) X.A (pyIter (.ref s.heap.objs.size)) (Je X pins σ tg R) E {s with heap:=s.heap.push {cls:= .type "range",data:= .fields #[.int lo t, .int hi u, .int 1 v]},toks:=tk}:=by
 refine wpAny_pyIter_range (IsRange.new ..) (small_one h1 h2 h3 h4) ?_
 have I1:Inv X pins σ H {s with heap:=s.heap.push {cls:= .type "range",data:= .fields #[.int lo t, .int hi u, .int 1 v]},toks:=tk}:=I.kept fun b o e=>bV _ e
 refine⟨(s.heap.push {cls:= .type "range",data:= .fields #[.int lo t, .int hi u, .int 1 v]}).objs.size,[(s.heap.push {cls:= .type "range",data:= .fields #[.int lo t, .int hi u, .int 1 v]}).objs.size],_,_,H,rfl,
  I1.kept (t':=tk) fun b o e=>bV _ e,P5 _ lo (hi-lo).toNat,?_,fun b hb=>?_,q⟩
 ·have e1:lo+((0:Nat):Int)*1=lo:=by simp
  have e2:(((hi-lo).toNat:Nat):Int)-((0:Nat):Int)=Builtin.Range.rangeSize lo hi 1:=by rw[rangeSize_one];split<;>omega
  show IsRangeIter _ _ (lo+((0:Nat):Int)*1) ((((hi-lo).toNat:Nat):Int)-((0:Nat):Int)) 1
  rw[e1,e2]
  exact fN _ rfl
 ·have e:b=(s.heap.push {cls:= .type "range",data:= .fields #[.int lo t, .int hi u, .int 1 v]}).objs.size:=by simpa using hb
  subst e
  exact I1.pY (aI _) (I1.hok.fresh (aI _))
def vp(ta:TA):TI:=fun σ H R=>ta σ H fun vs H1=>∃j:Int,vs=[.int j]/\ -(2^62)<=j/\j<2^62/\R (iE 0 j.toNat) H1
def HH(ta:TA):TI:=fun σ H R=>ta σ H fun vs H1=>∃i j:Int,vs=[.int i, .int j]/\(-(2^62)<=i/\i<2^62/\ -(2^62)<=j/\j<2^62)/\R (iE i (j-i).toNat) H1
theorem jc{a:Expr}{ta:TA}{p pos:Pos}(hg:Gl X "range")(hm:X.mg "range"=none)(ha:PA X [a] ta)(hs:starEach [a] X.env=[(false,eval a X.env)]:=by rfl):PI X tg (.Call (.Name "range" p) [a] [] pos) (vp ta):=by
  intro pins s σ H R I h
  refine Call_ (oM I hg hm boot_range (vE (aT (ha pos pins s σ H _ I h) fun us s1 ⟨vs,H1,I1,r1,q1⟩=>?_) hs rfl))
  obtain⟨j,e,q1,q2,q⟩:=q1
  subst e
  cases r1 with
  | cons r rr =>
    cases rr
    obtain⟨t,rfl⟩:=r
    exact call_range_1 (Hq I1 (by omega) (by omega) q1 q2 (by simpa using q))
theorem GV{a b:Expr}{ta:TA}{p pos:Pos}(hg:Gl X "range")(hm:X.mg "range"=none)(ha:PA X [a,b] ta)(hs:starEach [a,b] X.env=[(false,eval a X.env),(false,eval b X.env)]:=by rfl)(hs2:starEach [b] X.env=[(false,eval b X.env)]:=by rfl):
    PI X tg (.Call (.Name "range" p) [a,b] [] pos) (HH ta):=by
  intro pins s σ H R I h
  refine Call_ (oM I hg hm boot_range (vE (aT (ha pos pins s σ H _ I h) fun us s1 ⟨vs,H1,I1,r1,q1⟩=>?_) (by rw[hs,hs2]) (by rw[hs2];rfl)))
  obtain⟨i,j,e,⟨q1,q2,q3,q4⟩,q⟩:=q1
  subst e
  cases r1 with
  | cons r rr =>
    cases rr with
    | cons r' rr =>
      cases rr
      obtain⟨t,rfl⟩:=r
      obtain⟨t',rfl⟩:=r'
      exact call_range_2 (Hq I1 q1 q2 q3 q4 q)
def pP(wi:TI)(g:TG)(tb:TS):TS:=fun D σ H=>wi σ H fun J H1=>∃W:Nat->Nat->St->Hp->Prop,(∃m,W 0 m σ H1)/\∀i m σ H,W i m σ H->
 (J.stop i H/\D.nx σ H)\/(J.go i H/\∃N:St->Hp->Prop,(∀σ' H',N σ' H'->∃m',m'<m/\W (i+1) m' σ' H')/\∀x H',J.mF i H x H'->g x σ H' fun σ2 H2=>tb {D with nx:=N,ct:=N,bk:=D.nx} σ2 H2)
def qk(fp:List Addr)(h:Heap):List (Addr×Obj):=fp.filterMap fun b=>(h.get? b).map fun o=>(b,o)
theorem uC{fp:List Addr}{h:Heap}{b:Addr}{o:Obj}(hb:b∈fp)(e:h.get? b=some o):(b,o)∈qk fp h:=Ci.mpr ⟨b,hb,by rw[e];rfl⟩
theorem QS{fp:List Addr}{h:Heap}{p:Addr×Obj}(hp:p∈qk fp h):p.1∈fp/\h.get? p.1=some p.2:=by
  obtain⟨b,hb,e⟩:=Ci.mp hp
  cases q:h.get? b with
  |none=>rw[q] at e;cases e
  | some o =>
    rw[q] at e
    have e':(b,o)=p:=gn e
    subst e'
    exact⟨hb,q⟩
theorem Inv.pinned{pins:List (Addr×Obj)}{σ:St}{H:Hp}{s:Shared}{fp:List Addr}(I:Inv X pins σ H s)(hf:∀b∈fp,iS X pins H b)(ho:∀b∈fp,∃o,s.heap.get? b=some o/\∀v,o.data≠ .cell v):Inv X (pins++qk fp s.heap) σ H s:=
 I.II fun p hp=>(gP.mp hp).elim (fun z=>I.pin p (kj _ z)) fun z=>by
  obtain⟨hb,e⟩:=QS z
  obtain⟨f0,f1,f2,_⟩:=hf p.1 hb
  obtain⟨o,e',d⟩:=ho p.1 hb
  rw[e] at e';cases e'
  exact⟨e,f0,f1,f2,d⟩
theorem Inv.t9{pins pl:List (Addr×Obj)}{σ:St}{H:Hp}{s:Shared}(I:Inv X (pins++pl) σ H s):Inv X pins σ H s:=I.II fun p hp=>I.pin p (kj _ (CV _ hp))
theorem fW{iter:Expr}{body:List Stmt}{wi:TI}{g:TG}{tb:TS}{pos:Pos}(hp:PassesOwn (model X.prog X.w) X.A X.env X.xe)(hc:X.calm=true)(hi:PI X tg iter wi)(hg:PG X tg g)(hb:i7 X body tb)
  (hs:∀x,foldedSetIterable iter X.env x=pure x:=by intro _;rfl):PS X (.For tg iter body [] pos) (pP wi g tb):=by
 intro pins s σ H D I h
 refine wpAny_For (aT (hi pins s σ H _ I h) fun v s1 h1=>aT h1 fun itv s2 h2=>?_) hs
 obtain⟨it,fp,tn,J,H2,e,I2,T,st2,f2,W,⟨m0,w0⟩,turn⟩:=h2
 subst e
 have mw:∀{H':Hp},(∀b∈fp,H' b=none)->∀b∈fp,iS X pins H' b:=fun hn b hb=>⟨hn b hb,(f2 b hb).2⟩
 refine codeAny_forLoop_any (fun n s'=>∃i σ' H',Inv X pins σ' H' s'/\tn i s'.heap/\(∀b∈fp,H' b=none)/\W i n σ' H') ?_ m0 ⟨0,σ,H2,I2,st2,fun b hb=>(f2 b hb).1,w0⟩
 rintro n s3 ⟨i,σ3,H3,I3,st3,fr3,w3⟩
 rcases turn i n σ3 H3 w3 with ⟨stop,qn⟩|⟨go,N,hN,step⟩
 ·refine wpAny_passesOwn hp (aT (T.done X rfl rfl rfl hc i pins s3 σ3 H3 X.xe I3 (mw fr3) st3 stop) fun r s4 ⟨hr,I4⟩=>?_)
  subst hr
  exact wpAny_execs_nil ⟨σ3,H3,I4,qn⟩
 ·refine wpAny_passesOwn hp (aT (T.item X rfl rfl rfl hc i pins s3 σ3 H3 X.xe I3 (mw fr3) st3 go) fun r s4 ⟨u,hr,h4⟩=>?_)
  subst hr
  refine wpAny_passesOwn hp (aT h4 fun _ s5 ⟨x,H5,I5,r5,y5,nv,yR⟩=>?_)
  have Ad:=I5.pinned (mw yR) (T.obj _ _ nv)
  refine wpAny_passesOwn hp (aT (hg _ s5 σ3 H5 x u _ Ad r5 (step x H5 y5)) fun _ s6 ⟨ql,H6,I6,q6⟩=>?_)
  refine wpAny_passesOwn hp (aT (hb _ s6 ql H6 _ I6 q6) fun f s7 q7=>?_)
  have again:∀{fT:St} {H7:Hp},Inv X (pins++qk fp s5.heap) fT H7 s7->N fT H7->∃m,m<n/\∃i σ' H',Inv X pins σ' H' s7/\tn i s7.heap/\(∀b∈fp,H' b=none)/\W i m σ' H':=fun{fT H7} I7 n7=>by
   obtain⟨m',hm,w7⟩:=hN fT H7 n7
   refine⟨m',hm,i+1,fT,H7,I7.t9,T.keep _ _ _ nv fun b hb o e=>(I7.pin (b,o) (kj _ (kj _ (uC hb e)))).1,fun b hb=>?_,w7⟩
   obtain⟨o,e,d⟩:=T.obj _ _ nv b hb
   exact(I7.pin (b,o) (kj _ (kj _ (uC hb e)))).2.1
  cases f with
  |next=>obtain⟨fT,H7,I7,n7⟩:=q7;exact again I7 n7
  |cont=>obtain⟨fT,H7,I7,n7⟩:=q7;exact again I7 n7
  |brk=>obtain⟨fT,H7,I7,q7⟩:=q7;exact⟨fT,H7,I7.t9,q7⟩
  |ret v=>obtain⟨x7,fT,H7,I7,r7,q7⟩:=q7;exact⟨x7,fT,H7,I7.t9,r7,q7⟩
end
theorem E8{K:PySem.W.Frag}{a:Addr}{xs:List V}{g:TG}{tb:TS}{D:Ends}{σ:St}{H:Hp}(Pv:Nat->St->Hp->Prop)(h0:Pv 0 σ H)(hl:∀i σ H,i<=xs.length->Pv i σ H->aW K H a xs)
  (hs:∀i x σ H,xs[i]?=some x->Pv i σ H->g x σ H fun σ2 H2=>tb {D with nx:=Pv (i+1),ct:=Pv (i+1),bk:=D.nx} σ2 H2) (hd:∀σ H,Pv xs.length σ H->D.nx σ H):
  ∃W:Nat->Nat->St->Hp->Prop,(∃m,W 0 m σ H)/\∀i m σ H,W i m σ H->
   ((nN K a).stop i H/\D.nx σ H)\/((nN K a).go i H/\∃N:St->Hp->Prop,(∀σ' H',N σ' H'->∃m',m'<m/\W (i+1) m' σ' H')/\∀x H',(nN K a).mF i H x H'->g x σ H' fun σ2 H2=>tb {D with nx:=N,ct:=N,bk:=D.nx} σ2 H2):=by
 refine⟨fun i m σ H=>m=xs.length-i/\i<=xs.length/\Pv i σ H,⟨xs.length,by simp,dW _,h0⟩,?_⟩
 rintro i m σ H ⟨rfl,hi,p⟩
 have q:=hl i σ H hi p
 by_cases hlt:i<xs.length
 ·refine .inr ⟨⟨xs,xs[i],q,by simp[hlt]⟩,Pv (i+1),fun σ' H' p'=>⟨xs.length-(i+1),by omega,rfl,hlt,p'⟩,fun x H' y=>?_⟩
  obtain⟨e,y⟩:=y
  subst e
  exact hs i x σ _ (y xs q) p
 ·have e:i=xs.length:=by omega
  subst e
  exact .inl ⟨⟨xs,q,aI _⟩,hd σ H p⟩
theorem As{lo:Int}{n:Nat}{g:TG}{tb:TS}{D:Ends}{σ:St}{H:Hp}(Pv:Nat->St->Hp->Prop)(h0:Pv 0 σ H)
  (hs:∀i σ H,i<n->Pv i σ H->g (.int (lo+i)) σ H fun σ2 H2=>tb {D with nx:=Pv (i+1),ct:=Pv (i+1),bk:=D.nx} σ2 H2) (hd:∀σ H,Pv n σ H->D.nx σ H):
  ∃W:Nat->Nat->St->Hp->Prop,(∃m,W 0 m σ H)/\∀i m σ H,W i m σ H->
   ((iE lo n).stop i H/\D.nx σ H)\/((iE lo n).go i H/\∃N:St->Hp->Prop,(∀σ' H',N σ' H'->∃m',m'<m/\W (i+1) m' σ' H')/\∀x H',(iE lo n).mF i H x H'->g x σ H' fun σ2 H2=>tb {D with nx:=N,ct:=N,bk:=D.nx} σ2 H2):=by
 refine⟨fun i m σ H=>m=n-i/\i<=n/\Pv i σ H,⟨n,by simp,dW _,h0⟩,?_⟩
 rintro i m σ H ⟨rfl,hi,p⟩
 by_cases hlt:i<n
 ·refine .inr ⟨hlt,Pv (i+1),fun σ' H' p'=>⟨n-(i+1),by omega,rfl,hlt,p'⟩,fun x H' y=>?_⟩
  obtain⟨e,y⟩:=y
  subst e y
  exact hs i σ _ hlt p
 ·have e:i=n:=by omega
  subst e
  exact .inl ⟨aI _,hd σ H p⟩
theorem Nk{c:TT}{tb:TS}{D:Ends}{σ:St}{H:Hp}(Pv:St->Hp->Prop)(μ:St->Hp->Nat)(h0:Pv σ H)
  (hs:∀σ H,Pv σ H->c σ H fun b H1=>if b=true then tb {D with nx:=fun σ' H'=>Pv σ' H'/\μ σ' H'<μ σ H,ct:=fun σ' H'=>Pv σ' H'/\μ σ' H'<μ σ H,bk:=D.nx} σ H1 else D.nx σ H1)
  (mono:∀σ H Q Q',(∀b H1,Q b H1->Q' b H1)->c σ H Q->c σ H Q'):xM c tb D σ H:=by
 refine⟨fun m σ H=>m=μ σ H/\Pv σ H,⟨_,rfl,h0⟩,?_⟩
 rintro m σ H ⟨rfl,p⟩
 refine mono σ H _ _ (fun b H1 q=>?_) (hs σ H p)
 cases b with
 |true=>exact⟨_,fun σ' H' ⟨p',l⟩=>⟨_,l,rfl,p'⟩,q⟩
 |false=>exact q
abbrev R2:=V->V->Hp->VK->Prop
def dZ(X:Cx)(f:Value->Value->Sem Value)(r:R2):Prop:=
 ∀(pins:List (Addr×Obj)) (s:Shared) (σ:St) (H:Hp) (x y:V) (v u:Value) (Q:VK),Inv X pins σ H s->RelV x v->RelV y u->r x y H Q->
  wpAny (model X.prog X.w) X.A (f v u) (EP X pins σ Q) X.xe s
def vZ(X:Cx)(f:Value->Sem Value)(r:V->Hp->VK->Prop):Prop:=
 ∀(pins:List (Addr×Obj)) (s:Shared) (σ:St) (H:Hp) (x:V) (v:Value) (Q:VK),Inv X pins σ H s->RelV x v->r x H Q->
  wpAny (model X.prog X.w) X.A (f v) (EP X pins σ Q) X.xe s
def eV(X:Cx)(f:Value)(r:List V->Hp->VK->Prop):Prop:=
 ∀(pins:List (Addr×Obj)) (s:Shared) (σ:St) (H:Hp) (xs:List V) (us:List Value) (Q:VK),Inv X pins σ H s->Vals xs us->r xs H Q->
  wpAny (model X.prog X.w) X.A (call f us) (EP X pins σ Q) X.xe s
def O3(X:Cx)(r:V->Hp->(Bool->Hp->Prop)->Prop):Prop:=
 ∀(pins:List (Addr×Obj)) (s:Shared) (σ:St) (H:Hp) (x:V) (v:Value) (Q:Bool->Hp->Prop),Inv X pins σ H s->RelV x v->r x H Q->
  wpAny (model X.prog X.w) X.A (truthy v) (TP X pins σ Q) X.xe s
def dN(r:R2)(ta tb:TE):TE:=fun σ H Q=>ta σ H fun x H1=>tb σ H1 fun y H2=>r x y H2 Q
def A9(r:V->Hp->VK->Prop)(ta:TE):TE:=fun σ H Q=>ta σ H fun x H1=>r x H1 Q
def rI(C:Int->Int->Prop)(g:Int->Int->V):R2:=fun x y H Q=>∃i j,x= .int i/\y= .int j/\C i j/\Q (g i j) H
def ir(g:Int->Int->V):R2:=fun x y H Q=>∃i j,x= .int i/\y= .int j/\Q (g i j) H
def rU(g:Int->V):V->Hp->VK->Prop:=fun x H Q=>∃i,x= .int i/\Q (g i) H
section
variable{X:Cx}{a b c:Expr}{ta tb tc:TE}{pos:Pos}
theorem AH(ha:PE X a ta)(hb:PE X b tb){pins:List (Addr×Obj)}{s:Shared}{σ:St}{H:Hp}{R:V->V->Hp->Prop}(I:Inv X pins σ H s)
  (h:ta σ H fun x H1=>tb σ H1 fun y H2=>R x y H2) {Q:Value->Shared->Prop} {f:Value->Value->Sem Value}
  (hf:∀v u s2 x y H2,Inv X pins σ H2 s2->RelV x v->RelV y u->R x y H2->wpAny (model X.prog X.w) X.A (f v u) Q X.xe s2):
  wpAny (model X.prog X.w) X.A (eval a X.env) (fun v s₁=>wpAny (model X.prog X.w) X.A (eval b X.env) (fun u s₂=>wpAny (model X.prog X.w) X.A (f v u) Q X.xe s₂) X.xe s₁) X.xe s:=by
 refine aT (ha pins s σ H _ I h) fun v s1 ⟨x,H1,I1,r1,q1⟩=>?_
 refine aT (hb pins s1 σ H1 _ I1 q1) fun u s2 ⟨y,H2,I2,r2,q2⟩=>?_
 exact hf v u s2 x y H2 I2 r1 r2 q2
theorem aB{op:Operator}{r:R2}(ho:dZ X (binaryOp op) r)(ha:PE X a ta)(hb:PE X b tb):PE X (.BinOp a op b pos) (dN r ta tb):=by
 intro pins s σ H Q I h
 exact wpAny_BinOp (AH ha hb I h fun v u s2 x y H2 I2 rx ry q=>ho pins s2 σ H2 x y v u Q I2 rx ry q)
theorem vI{op:UnaryOp}{r:V->Hp->VK->Prop}(ho:vZ X (unaryOp op) r)(ha:PE X a ta):PE X (.UnaryOp op a pos) (A9 r ta):=by
 intro pins s σ H Q I h
 exact UnaryOp_ (aT (ha pins s σ H _ I h) fun v s1 ⟨x,H1,I1,r1,q1⟩=>ho pins s1 σ H1 x v Q I1 r1 q1)
theorem tV{f:Value->Value->Sem Value}{C:Int->Int->Prop}{g:Int->Int->Int}
  (rule:∀(i j:Int) (t u:Tok) (s:Shared) (Q:Value->Shared->Prop) (E:Value->Shared->Prop),C i j->Q (.int (g i j) s.toks) {s with toks:=s.toks+1}->wpAny (model X.prog X.w) X.A (f (.int i t) (.int j u)) Q E s):
  dZ X f (rI C fun i j=> .int (g i j)):=by
 intro pins s σ H x y v u Q I rx ry h
 obtain⟨i,j,rfl,rfl,hc,q⟩:=h
 obtain⟨t,rfl⟩:=rx
 obtain⟨t',rfl⟩:=ry
 exact rule i j t t' s _ _ hc ⟨.int (g i j),H,I.tok _,⟨_,rfl⟩,q⟩
theorem Dg{f:Value->Value->Sem Value}{g:Int->Int->Int}
  (rule:∀(i j:Int) (t u:Tok) (s:Shared) (Q:Value->Shared->Prop) (E:Value->Shared->Prop),Q (.int (g i j) s.toks) {s with toks:=s.toks+1}->wpAny (model X.prog X.w) X.A (f (.int i t) (.int j u)) Q E s):
  dZ X f (ir fun i j=> .int (g i j)):=by
 intro pins s σ H x y v u Q I rx ry h
 obtain⟨i,j,rfl,rfl,q⟩:=h
 obtain⟨t,rfl⟩:=rx
 obtain⟨t',rfl⟩:=ry
 exact rule i j t t' s _ _ ⟨.int (g i j),H,I.tok _,⟨_,rfl⟩,q⟩
theorem uA{f:Value->Value->Sem Value}{g:Int->Int->Bool}
  (rule:∀(i j:Int) (t u:Tok) (s:Shared) (Q:Value->Shared->Prop) (E:Value->Shared->Prop),Q (.bool (g i j)) s->wpAny (model X.prog X.w) X.A (f (.int i t) (.int j u)) Q E s):
  dZ X f (ir fun i j=> .bl (g i j)):=by
 intro pins s σ H x y v u Q I rx ry h
 obtain⟨i,j,rfl,rfl,q⟩:=h
 obtain⟨t,rfl⟩:=rx
 obtain⟨t',rfl⟩:=ry
 exact rule i j t t' s _ _ ⟨.bl (g i j),H,I,rfl,q⟩
def xH(i j:Int):Prop:=0<=j/\j<=1000000/\i.natAbs<2^64
def uN(i j:Int):Prop:=(-(2^64)<i/\i<2^64)\/(-(2^64)<j/\j<2^64)
theorem uN.ok{i j:Int}(h:uN i j):IntMulOk i j:=by
 rcases h with ⟨h1,h2⟩|⟨h1,h2⟩
 ·exact .of_left (intBits_le_64 h1 h2)
 ·exact .of_right (intBits_le_64 h1 h2)
theorem cS:dZ X (binaryOp .Add) (ir fun i j=> .int (i+j)):=Dg fun _ _ _ _ _ _ _ q=>add_int q
theorem gc:dZ X (binaryOp .Sub) (ir fun i j=> .int (i-j)):=Dg fun _ _ _ _ _ _ _ q=>sub_int q
theorem iT:dZ X (binaryOp .Mod) (rI (fun _ j=>0<j) fun i j=> .int (i%j)):=tV fun i j _ _ _ _ _ hc q=>by
 have h1:(0:Int)<j:=hc
 exact mod_int' (by omega) (by rw[Int.fmod_eq_emod_of_nonneg i (by omega)];exact q)
theorem E3:dZ X (binaryOp .Pow) (rI xH fun i j=> .int (i^j.toNat)):=tV fun _ _ _ _ _ _ _ hc q=>pow_int_small hc.1 hc.2.1 hc.2.2 q
theorem PV{f:Value->Sem Value}{g:Int->Int}
  (rule:∀(i:Int) (t:Tok) (s:Shared) (Q:Value->Shared->Prop) (E:Value->Shared->Prop),Q (.int (g i) s.toks) {s with toks:=s.toks+1}->wpAny (model X.prog X.w) X.A (f (.int i t)) Q E s):
  vZ X f (rU fun i=> .int (g i)):=by
 intro pins s σ H x v Q I rx h
 obtain⟨i,rfl,q⟩:=h
 obtain⟨t,rfl⟩:=rx
 exact rule i t s _ _ ⟨.int (g i),H,I.tok _,⟨_,rfl⟩,q⟩
theorem u5:vZ X (unaryOp .USub) (rU fun i=> .int (-i)):=PV fun _ _ _ _ _ q=>neg_int q
end
def wK:V->V->Bool
 | .aM, .aM=>true| .aM, .int _=>true| .int _, .aM=>true| .aM, .bl _=>true| .bl _, .aM=>true| .aM, .str _=>true| .str _, .aM=>true
 | .int _, .int _=>true| .bl _, .bl _=>true| .str _, .str _=>true| .iZ _, .iZ _=>true
 | .int _, .str _=>true| .str _, .int _=>true| .bl _, .str _=>true| .str _, .bl _=>true
 |_,_=>false
def Aj:R2:=fun x y H Q=>wK x y=true/\Q (.bl (decide (x=y))) H
def vU:R2:=fun x y H Q=>wK x y=true/\Q (.bl (!decide (x=y))) H
theorem Ew{i j:Int}:decide (V.int i=V.int j)=(i==j):=by
 rw[mh]
 simp
theorem Gd{i j:Bool}:decide (V.bl i=V.bl j)=(i==j):=by
 rw[mh]
 simp
theorem IL{i j:Str}:decide (V.str i=V.str j)=(i==j):=by
 rw[mh]
 simp
theorem Iw{i j:Array UInt8}:decide (V.iZ i=V.iZ j)=(i.toList==j.toList):=by
 rw[mh]
 cases i
 cases j
 simp
section
variable{X:Cx}{a b c:Expr}{ta tb tc:TE}{pos:Pos}
theorem cT{pins:List (Addr×Obj)}{σ:St}{H:Hp}{s:Shared}{Q:VK}{k k':Bool}(I:Inv X pins σ H s)(q:Q (.bl k) H)(e:k=k'):EP X pins σ Q (.bool k') s:=by
 subst e
 exact⟨.bl k,H,I,rfl,q⟩
theorem iG:dZ X (compareOp .Eq) Aj:=by
  intro pins s σ H x y v u Q I rx ry h
  obtain⟨hs,q⟩:=h
  cases x with
  | aM =>
    cases rx
    cases y with
    |aM=>cases ry;exact PySem.EqNone.eq_none_none (cT I q (by simp))
    |bl j=>cases ry;exact PySem.EqNone.eq_none_bool (cT I q (by simp))
    |int j=>obtain⟨t',rfl⟩:=ry;exact PySem.EqNone.eq_none_int (cT I q (by simp))
    |str j=>obtain⟨t',rfl⟩:=ry;exact PySem.EqNone.eq_none_str (cT I q (by simp))
    |_=>exact absurd (show false=true from hs) dh
  | bl i =>
    cases rx
    cases y with
    |aM=>cases ry;exact PySem.EqNone.eq_bool_none (cT I q (by simp))
    |bl j=>cases ry;exact eq_bool (cT I q Gd)
    |str j=>obtain⟨t',rfl⟩:=ry;exact PySem.EqMixed.eq_bool_str (cT I q (by simp))
    |_=>exact absurd (show false=true from hs) dh
  | int i =>
    obtain⟨t,rfl⟩:=rx
    cases y with
    |aM=>cases ry;exact PySem.EqNone.eq_int_none (cT I q (by simp))
    |int j=>obtain⟨t',rfl⟩:=ry;exact eq_int (cT I q Ew)
    |str j=>obtain⟨t',rfl⟩:=ry;exact PySem.EqMixed.eq_int_str (cT I q (by simp))
    |_=>exact absurd (show false=true from hs) dh
  | str i =>
    obtain⟨t,rfl⟩:=rx
    cases y with
    |aM=>cases ry;exact PySem.EqNone.eq_str_none (cT I q (by simp))
    |bl j=>cases ry;exact PySem.EqMixed.eq_str_bool (cT I q (by simp))
    |int j=>obtain⟨t',rfl⟩:=ry;exact PySem.EqMixed.eq_str_int (cT I q (by simp))
    |str j=>obtain⟨t',rfl⟩:=ry;exact eq_str (cT I q IL)
    |_=>exact absurd (show false=true from hs) dh
  | iZ i =>
    obtain⟨t,rfl⟩:=rx
    cases y with
    |iZ j=>obtain⟨t',rfl⟩:=ry;exact PySem.W.eq_bytes (cT I q Iw)
    |_=>exact absurd (show false=true from hs) dh
  |_=>cases y<;>exact absurd (show false=true from hs) dh
theorem jL:dZ X (compareOp .NotEq) vU:=by
  intro pins s σ H x y v u Q I rx ry h
  obtain⟨hs,q⟩:=h
  cases x with
  | aM =>
    cases rx
    cases y with
    |aM=>cases ry;exact PySem.EqNone.ne_none_none (cT I q (by simp))
    |bl j=>cases ry;exact PySem.EqNone.ne_none_bool (cT I q (by simp))
    |int j=>obtain⟨t',rfl⟩:=ry;exact PySem.EqNone.ne_none_int (cT I q (by simp))
    |str j=>obtain⟨t',rfl⟩:=ry;exact PySem.EqNone.ne_none_str (cT I q (by simp))
    |_=>exact absurd (show false=true from hs) dh
  | bl i =>
    cases rx
    cases y with
    |aM=>cases ry;exact PySem.EqNone.ne_bool_none (cT I q (by simp))
    |bl j=>cases ry;exact ne_bool (cT I q (congrArg not Gd))
    |str j=>obtain⟨t',rfl⟩:=ry;exact PySem.EqMixed.ne_bool_str (cT I q (by simp))
    |_=>exact absurd (show false=true from hs) dh
  | int i =>
    obtain⟨t,rfl⟩:=rx
    cases y with
    |aM=>cases ry;exact PySem.EqNone.ne_int_none (cT I q (by simp))
    |int j=>obtain⟨t',rfl⟩:=ry;exact ne_int (cT I q (congrArg not Ew))
    |str j=>obtain⟨t',rfl⟩:=ry;exact PySem.EqMixed.ne_int_str (cT I q (by simp))
    |_=>exact absurd (show false=true from hs) dh
  | str i =>
    obtain⟨t,rfl⟩:=rx
    cases y with
    |aM=>cases ry;exact PySem.EqNone.ne_str_none (cT I q (by simp))
    |bl j=>cases ry;exact PySem.EqMixed.ne_str_bool (cT I q (by simp))
    |int j=>obtain⟨t',rfl⟩:=ry;exact PySem.EqMixed.ne_str_int (cT I q (by simp))
    |str j=>obtain⟨t',rfl⟩:=ry;exact ne_str (cT I q (congrArg not IL))
    |_=>exact absurd (show false=true from hs) dh
  | iZ i =>
    obtain⟨t,rfl⟩:=rx
    cases y with
    |iZ j=>obtain⟨t',rfl⟩:=ry;exact PySem.W.ne_bytes (cT I q (congrArg not Iw))
    |_=>exact absurd (show false=true from hs) dh
  |_=>cases y<;>exact absurd (show false=true from hs) dh
theorem lA:dZ X (compareOp .Lt) (ir fun i j=> .bl (decide (i<j))):=uA fun _ _ _ _ _ _ _ q=>lt_int q
theorem NY:dZ X (compareOp .LtE) (ir fun i j=> .bl (decide (i<=j))):=uA fun _ _ _ _ _ _ _ q=>le_int q
theorem xP:dZ X (compareOp .Gt) (ir fun i j=> .bl (decide (j<i))):=uA fun _ _ _ _ _ _ _ q=>gt_int q
theorem Jg:dZ X (compareOp .GtE) (ir fun i j=> .bl (decide (j<=i))):=uA fun _ _ _ _ _ _ _ q=>ge_int q
theorem MD:dZ X (compareOp .Is) (fun x y H Q=>y= .aM/\Q (.bl (decide (x= .aM))) H):=by
 intro pins s σ H x y v u Q I rx ry h
 obtain⟨rfl,q⟩:=h
 cases ry
 refine is_none_gen (cT I q ?_)
 cases x<;>first
  |(cases rx;rfl)
  |(obtain⟨t,rfl⟩:=rx;rfl)
theorem KU:dZ X (compareOp .IsNot) (fun x y H Q=>y= .aM/\Q (.bl (!decide (x= .aM))) H):=by
 intro pins s σ H x y v u Q I rx ry h
 obtain⟨rfl,q⟩:=h
 cases ry
 refine isnot_none_gen (cT I q ?_)
 cases x<;>first
  |(cases rx;rfl)
  |(obtain⟨t,rfl⟩:=rx;rfl)
theorem br(b:Expr){op:CmpOp}(h:op≠ .In:=by decide)(h2:op≠ .NotIn:=by decide):behindInMarks op b=false:=by
 have e1:(op==CmpOp.In)=false:=by cases op<;>first|rfl|exact absurd rfl h
 have e2:(op==CmpOp.NotIn)=false:=by cases op<;>first|rfl|exact absurd rfl h2
 cases b<;>simp[behindInMarks,e1,e2]
theorem rO{op:CmpOp}{r:R2}(ho:dZ X (compareOp op) r)(ha:PE X a ta)(hb:PE X b tb)(hm:behindInMarks op b=false):PE X (.Compare a [op] [b] pos) (dN r ta tb):=by
 intro pins s σ H Q I h
 exact wpAny_Compare1 (AH ha hb I h fun v u s2 x y H2 I2 rx ry q=>ho pins s2 σ H2 x y v u Q I2 rx ry q) hm
def xJ(t:TE):TT:=fun σ H Q=>t σ H fun x H'=>∃k,x= .bl k/\Q k H'
theorem bF{op:CmpOp}{r:R2}(ho:dZ X (compareOp op) r)(ha:PE X a ta)(hb:PE X b tb)(hm:behindInMarks op b=false):PT X (.Compare a [op] [b] pos) (xJ (dN r ta tb)):=by
 intro pins s σ H Q I h
 refine wpAny_isTrue_Compare1 (aT (ha pins s σ H _ I h) fun v s1 ⟨x,H1,I1,r1,q1⟩=>aT (hb pins s1 σ H1 _ I1 q1) fun u s2 ⟨y,H2,I2,r2,q2⟩=>
  aT (ho pins s2 σ H2 x y v u _ I2 r1 r2 q2) fun c s3 ⟨z,H3,I3,r3,k,e,q3⟩=>?_) hm
 subst e
 cases r3
 exact wpAny_truthy_bool ⟨H3,I3,q3⟩
def AR(K:PySem.W.Frag)(x:V)(H:Hp)(k:Bool):Prop:=
 match x with
 | .aM=>k=false
 | .bl b=>k=b
 | .int i=>k=(i !=0)
 | .str y=>y.length<=sizeLine/\k=((y.length:Int) !=0)
 | .iZ y=>y.size<=sizeLine/\k=((y.size:Int) !=0)
 | .ref p=>(∃xs,aW K H p xs/\k=!xs.isEmpty)\/(∃xs,fY K H p xs/\k=!xs.isEmpty)\/∃kvs,H p=some (.dK kvs)/\k=!kvs.isEmpty
 |_=>False
theorem K8{κ:Type}{kvs:List (κ×V)}{vs:List (κ×Value)}(r:KV kvs vs):(!vs.isEmpty)=!kvs.isEmpty:=by
 cases r<;>rfl
theorem D5{xs:List V}{its:List Value}(r:Vals xs its):(!its.toArray.isEmpty)=!xs.isEmpty:=by
 cases r<;>simp
theorem pO:(sizeLine:Nat)<2^63:=by rw[sizeLine_eq];decide
theorem Ma:O3 X (fun x H Q=>∃k,AR X.K x H k/\Q k H):=by
  intro pins s σ H x v Q I rx h
  obtain⟨k,e,q⟩:=h
  have hl:=pO
  have hs:sizeLine=16777216:=sizeLine_eq
  cases x with
  | aM =>
    cases rx
    have e':k=false:=e
    subst e'
    exact truthy_none ⟨H,I,q⟩
  | bl b =>
    cases rx
    have e':k=b:=e
    subst e'
    exact wpAny_truthy_bool ⟨H,I,q⟩
  | int i =>
    obtain⟨t,rfl⟩:=rx
    have e':k=(i !=0):=e
    subst e'
    exact PySem.P.truthy_int ⟨H,I,q⟩
  | str y =>
    obtain⟨t,rfl⟩:=rx
    obtain⟨hy,e'⟩:y.length<=sizeLine/\k=((y.length:Int) !=0):=e
    subst e'
    exact PySem.P.truthy_str (by omega) ⟨H,I.tok _,q⟩
  | iZ y =>
    obtain⟨t,rfl⟩:=rx
    obtain⟨hy,e'⟩:y.size<=sizeLine/\k=((y.size:Int) !=0):=e
    subst e'
    exact PySem.W.truthy_bytes (by omega) ⟨H,I.tok _,q⟩
  | ref p =>
    cases rx
    have e':(∃xs,aW X.K H p xs/\k=!xs.isEmpty)\/(∃xs,fY X.K H p xs/\k=!xs.isEmpty)\/∃kvs,H p=some (.dK kvs)/\k=!kvs.isEmpty:=e
    rcases e' with ⟨xs,hx,e'⟩|⟨xs,hx,e'⟩|⟨kvs,hx,e'⟩
    · subst e'
      obtain⟨its,r,pl,hz⟩:=I.list hx
      have hlen:=r.length
      exact wpAny_truthy_list pl.isList (by simp only[dO];omega) ⟨H,I.tok _,by rw[D5 r];exact q⟩
    · subst e'
      obtain⟨its,r,pl,hz⟩:=I.tuple hx
      have hlen:=r.length
      exact truthy_tuple pl (by simp only[dO];omega) ⟨H,I.tok _,by rw[D5 r];exact q⟩
    · subst e'
      obtain⟨hz,hS,vs,r,m⟩:kvs.length<=sizeLine/\(p==sysModules)=false/\∃vs,KV kvs vs/\s.heap.DictOf (dJ X.prog X.w) p vs:=I.hok p _ hx
      have hlen:kvs.length=vs.length:=Paired.length r
      exact wpAny_truthy_dict hS m (by omega) ⟨H,I.tok _,by rw[K8 r];exact q⟩
  |_=>exact(show False from e).elim
theorem Qa(ha:PE X a ta)(he:∀whole,isTrue a X.env whole=(do let v<-whole;standAt a.pos;holding [v] (truthy v))):
  PT X a (fun σ H Q=>ta σ H fun x H'=>∃k,AR X.K x H' k/\Q k H'):=by
 intro pins s σ H Q I h
 exact isTrue_plain (aT (ha pins s σ H _ I h) fun v s1 ⟨x,H1,I1,r1,q1⟩=>Ma pins s1 σ H1 x v Q I1 r1 q1) (he _)
theorem vals1{x:V}{us:List Value}(r:Vals [x] us):∃u,us=[u]/\RelV x u:=by
 cases r with
 |cons r1 r2=>cases r2;exact⟨_,rfl,r1⟩
theorem vals2{x y:V}{us:List Value}(r:Vals [x,y] us):∃u w',us=[u,w']/\RelV x u/\RelV y w':=by
  cases r with
  | cons r1 r2 =>
    cases r2 with
    |cons r3 r4=>cases r4;exact⟨_,_,rfl,r1,r3⟩
theorem Uj:eV X (.builtin "abs") (fun xs H Q=>∃i,xs=[.int i]/\Q (.int (if i<0 then-i else i)) H):=by
 intro pins s σ H xs us Q I r h
 obtain⟨i,rfl,q⟩:=h
 obtain⟨u,rfl,t,rfl⟩:=vals1 r
 exact call_abs_int fun u tk=>⟨.int (if i<0 then-i else i),H,I.tok _,⟨_,rfl⟩,q⟩
theorem RA(hc:X.calm=true):eV X (.builtin "max") (fun xs H Q=>∃i j,xs=[.int i, .int j]/\Q (.int (if j>i then j else i)) H):=by
 intro pins s σ H xs us Q I r h
 obtain⟨i,j,rfl,q⟩:=h
 obtain⟨u,w',rfl,⟨t,rfl⟩,⟨t',rfl⟩⟩:=vals2 r
 refine max_two_ints (I.ok.hd hc) fun h' tk k=>⟨_,H,I.kept k,?_,q⟩
 by_cases hj:j>i
 ·rw[if_pos hj,if_pos hj];exact⟨_,rfl⟩
 ·rw[if_neg hj,if_neg hj];exact⟨_,rfl⟩
theorem Rg(hc:X.calm=true):eV X (.builtin "min") (fun xs H Q=>∃i j,xs=[.int i, .int j]/\Q (.int (if j<i then j else i)) H):=by
 intro pins s σ H xs us Q I r h
 obtain⟨i,j,rfl,q⟩:=h
 obtain⟨u,w',rfl,⟨t,rfl⟩,⟨t',rfl⟩⟩:=vals2 r
 refine min_two_ints (I.ok.hd hc) fun h' tk k=>⟨_,H,I.kept k,?_,q⟩
 by_cases hj:j<i
 ·rw[if_pos hj,if_pos hj];exact⟨_,rfl⟩
 ·rw[if_neg hj,if_neg hj];exact⟨_,rfl⟩
theorem JH:eV X (.type "int") (fun xs H Q=>(∃i,xs=[.int i]/\Q (.int i) H)\/∃k,xs=[.bl k]/\Q (.int (if k then 1 else 0)) H):=by
 intro pins s σ H xs us Q I r h
 rcases h with ⟨i,rfl,q⟩|⟨k,rfl,q⟩
 ·obtain⟨u,rfl,t,rfl⟩:=vals1 r
  exact call_int_int ⟨.int i,H,I,⟨_,rfl⟩,q⟩
 ·obtain⟨u,rfl,r1⟩:=vals1 r
  cases r1
  exact call_int_bool ⟨.int (if k then 1 else 0),H,I.tok _,⟨_,rfl⟩,q⟩
end
structure BP(h:Heap)(x dx C:Addr)(mA:Str->Option Value):Prop where
 obj:h.get? x=some (PySem.W.instObj C dx)
 ns:h.Ns1 dx mA
 ne:dx≠x
theorem Kn{h:Heap}{dx:Addr}{mA:Str->Option Value}(n:h.Ns1 dx mA):∃od,h.get? dx=some od/\∀name,PySem.W.lookIn name od=some (mA name):=by
 obtain⟨o,es,ep,ho,hd,hk,_,hm⟩:=n
 refine⟨o,ho,fun name=>?_⟩
 have e:=hm name
 unfold nsFind findBy at e
 rw[<-Array.find?_toList] at e
 unfold PySem.W.lookIn
 rw[hd]
 dsimp only
 split
 ·rename_i y q
  rw[q] at e
  exact congrArg some e
 ·rename_i q
  rw[q] at e
  have a:es.toList.any (·.refKey)=false:=by
   rw[List.any_eq_false]
   intro y hy
   obtain⟨z,t,hkey⟩:=hk y (Array.mem_toList_iff.mp hy)
   simp[DictEntry.refKey,hkey]
  have a':¬es.toList.any (·.refKey)=true:=by rw[a];exact dh
  rw[if_neg a']
  exact congrArg some e
theorem BP.look{h:Heap}{x dx C:Addr}{mA:Str->Option Value}(I:BP h x dx C mA):∃od,PySem.W.InstAt h x (PySem.W.instObj C dx) C (some od)/\∀name,PySem.W.lookIn name od=some (mA name):=
 let ⟨od,ho,hl⟩:=Kn I.ns
 ⟨od,⟨I.obj,rfl,rfl,ho⟩,hl⟩
theorem jC.some_of{v:V}{o:Option Value}(r:jC (some v) o):∃u,o=some u/\RelV v u:=by
 cases o with
 |none=>exact(show False from r).elim
 |some u=>exact⟨u,rfl,r⟩
section
variable{P:Program}{w:World}{H H':Hp}{h h':Heap}{a C dx:Addr}{fs fs':List (Str×V)}
theorem Vf(hok:c8 P w H h)(e:H a=some (.ins C dx fs)):∃mA,BP h a dx C mA/\(∀f,jC (fs.lookup f) (mA f))/\PySem.Within mA (fs.map (·.1))/\fs.length<=1000/\H dx=some (.own a):=by
 obtain⟨d,z,ne,ob,mA,n,r,q⟩:=(show bT P w H h a (.ins C dx fs) from hok a _ e)
 exact⟨mA,⟨ob,n,ne⟩,r,q,z,d⟩
end
structure w6(K:PySem.W.Frag)(C:Addr):Prop where
 pg:PySem.W.plainGet K C Str.empty=true
 hd:PySem.W.hasDictIn K C=true
 po:PySem.W.plainOver K C=true
 sa:PySem.W.findIn K (.ref C) "__setattr__"=some (some (.builtin "object.__setattr__"))
theorem w6.get{K:PySem.W.Frag}{C:Addr}(c:w6 K C)(f:Str):PySem.W.plainGet K C f=true:=c.pg
section
variable{X:Cx}{pins:List (Addr×Obj)}{σ:St}{H:Hp}{s:Shared}{A:Around}{E:Value->Shared->Prop}{Q:Value->Shared->Prop}{c:Value}{b:Bool}
inductive iz(K:PySem.W.Frag)(H:Hp):V->Value->Prop where
 |aM:iz K H .aM (.type "NoneType")
 |bl (x:Bool):iz K H (.bl x) (.type "bool")
 |int (i:Int):iz K H (.int i) (.type "int")
 |str (x:Str):iz K H (.str x) (.type "str")
 |lH (x:UInt64):iz K H (.lH x) (.type "float")
 |lst {a:Addr} {xs:List V} (e:H a=some (.lst xs)):iz K H (.ref a) (.type "list")
 |bY {a:Addr} {o:Obj} {xs:List V} (e:H a=some (.bY o (.lst xs))):iz K H (.ref a) (.type "list")
 |tup {a:Addr} {xs:List V} (e:H a=some (.tup xs)):iz K H (.ref a) (.type "tuple")
 |dK {a:Addr} {kvs:List (Key×V)} (e:H a=some (.dK kvs)):iz K H (.ref a) (.type "dict")
 |dT {a:Addr} {kvs:List (List Key×V)} (e:H a=some (.dT kvs)):iz K H (.ref a) (.type "dict")
 |Gk {a:Addr} {o:Obj} {kvs:List (Key×V)} (e:H a=some (.bY o (.dK kvs))):iz K H (.ref a) (.type "dict")
 | ins {a C dx : Addr} {fs : List (Str × V)} (e : H a = some (.ins C dx fs)) (cl : w6 K C) (ha : PySem.W.findIn K (.ref C) "__class__" = some (some (.builtin "object.__class__")))
   (hn:PySem.W.specialIn K (.builtin "object.__class__") "__get__"=some (some (.builtin "getset_descriptor.__get__"))) (htk:PySem.W.takesIn K (.builtin "object.__class__")=some true)
   (hm:PySem.W.mroIn K C (.type "object")=some true):iz K H (.ref a) (.ref C)
theorem Lr{x:V}{u t:Value}(I:Inv X pins σ H s)(rx:RelV x u)(ty:iz X.K H x t)(e:PySem.W.kitOne X.K t c=some b)(h:∀tk,Q (.bool b) {s with toks:=tk}):
    wpAny (model X.prog X.w) A (call (.builtin "isinstance") [u,c]) Q E s:=by
  cases ty with
  |aM=>cases (show u=Value.none from rx);exact jq PySem.W.kitx_none I.eB True.intro e (fun z=>nomatch z) h
  |bl y=>cases (show u=Value.bool y from rx);exact jq PySem.W.kitx_bool I.eB True.intro e (fun z=>nomatch z) h
  |int i=>obtain⟨t,q⟩:=(show∃t,u=Value.int i t from rx);cases q;exact jq PySem.W.kitx_int I.eB True.intro e (fun z=>nomatch z) h
  |str y=>obtain⟨t,q⟩:=(show∃t,u=Value.str y t from rx);cases q;exact jq PySem.W.kitx_str I.eB True.intro e (fun z=>nomatch z) h
  |lH y=>obtain⟨t,q⟩:=(show∃t,u=Value.float y t from rx);cases q;exact jq PySem.W.kitx_float I.eB True.intro e (fun z=>nomatch z) h
  | @lst a xs ea =>
    cases (show u=Value.ref a from rx)
    obtain⟨_,_,n,_,h1⟩:=(show bT X.prog X.w H s.heap a (.lst xs) from I.hok a _ ea)
    exact jq zF I.eB ⟨_,h1,rfl⟩ e (fun z=>nomatch z) h
  | @bY a ob xs ea =>
    cases (show u=Value.ref a from rx)
    obtain⟨_,_,_,n,_,h1⟩:=(show bT X.prog X.w H s.heap a (.bY ob (.lst xs)) from I.hok a _ ea)
    exact jq zF I.eB ⟨_,h1,rfl⟩ e (fun z=>nomatch z) h
  | @tup a xs ea =>
    cases (show u=Value.ref a from rx)
    obtain⟨_,_,_,p⟩:=(show bT X.prog X.w H s.heap a (.tup xs) from I.hok a _ ea)
    obtain⟨o,h1,h2,_⟩:=p
    exact jq PySem.W.kitx_tuple I.eB ⟨o,h1,h2⟩ e (fun z=>nomatch z) h
  | @dK a kvs ea =>
    cases (show u=Value.ref a from rx)
    obtain⟨_,_,vs,_,p⟩:=(show bT X.prog X.w H s.heap a (.dK kvs) from I.hok a _ ea)
    obtain⟨o,es,ep,h1,h2,_⟩:=p
    exact jq uF I.eB ⟨o,h1,h2.1⟩ e (fun z=>nomatch z) h
  | @dT a kvs ea =>
    cases (show u=Value.ref a from rx)
    obtain⟨_,_,xs,_,o,es,ep,h1,h2,_⟩:=(show bT X.prog X.w H s.heap a (.dT kvs) from I.hok a _ ea)
    exact jq uF I.eB ⟨o,h1,h2.1⟩ e (fun z=>nomatch z) h
  | @Gk a ob kvs ea =>
    cases (show u=Value.ref a from rx)
    obtain⟨_,_,_,vs,_,o,es,ep,h1,h2,_⟩:=I.hok a _ ea
    exact jq uF I.eB ⟨o,h1,h2.1⟩ e (fun z=>nomatch z) h
  | @ins a C dx fs ea cl ha hn htk hm =>
    cases (show u=Value.ref a from rx)
    obtain⟨mA,O,_⟩:=Vf I.hok ea
    obtain⟨od,J,_⟩:=O.look
    exact jq (PySem.W.kitx_own (cl.get _) cl.hd ha hn htk hm) I.eB J e (fun z=>nomatch z) h
end
structure gp(k:Nat)(A:Around):Prop where
 hd:A.handled=none
 dp:A.depth+3*k+5<recursionLimit
 un:A.units+16*k+200<cLine
theorem gp.mono{j k:Nat}{A:Around}(r:gp k A)(h:j<=k):gp j A:=⟨r.hd,by have:=r.dp;omega,by have:=r.un;omega⟩
theorem gp.deeper{k:Nat}{A:Around}(r:gp (k+1) A)(env:Env):gp k (A.deeper env):=
 ⟨r.hd,by have:=r.dp;show A.depth+1+3*k+5<_;omega,by have:=r.un;show A.units+3+16*k+200<_;omega⟩
theorem gp.depth{k:Nat}{A:Around}(r:gp k A):A.depth<recursionLimit:=by have:=r.dp;omega
theorem gp.units{k:Nat}{A:Around}(r:gp k A):A.units+64<cLine:=by have:=r.un;omega
def cF:TA:=fun _ H Q=>Q [] H
def bJ(ta:TE)(tr:TA):TA:=fun σ H Q=>ta σ H fun x H1=>tr σ H1 fun xs H2=>Q (x::xs) H2
section
variable{X:Cx}{e:Expr}{es:List Expr}{te:TE}{t:TA}{pos:Pos}
theorem af:PA X [] cF:=fun _ _ _ _ H Q I h=>Calls.spliced_nil ⟨[],H,I, .nil,h⟩
theorem aa(ha:PE X e te)(hr:PA X es t)(hs:starEach (e::es) X.env=(false,eval e X.env)::starEach es X.env:=by rfl):PA X (e::es) (bJ te t):=by
 intro pos pins s σ H Q I h
 rw[hs]
 show wpAny _ _ (spliced ((false,eval e X.env)::backTo pos (starEach es X.env))) _ _ s
 refine Calls.spliced_cons (aT (ha pins s σ H _ I h) fun u s1 ⟨x,H1,I1,r1,q1⟩=>?_)
 exact aT (hr pos pins s1 σ H1 _ I1 q1) fun us s2 ⟨xs,H2,I2,r2,q2⟩=>⟨x::xs,H2,I2, .cons r1 r2,q2⟩
def oF(t:TA):TE:=fun σ H Q=>t σ H fun xs H1=>xs.length<=sizeLine/\∀p,H1 p=none->Q (.ref p) (upd H1 p (.tup xs))
def mX(t:TA):TE:=fun σ H Q=>t σ H fun xs H1=>xs.length<=sizeLine/\∀p,H1 p=none->Q (.ref p) (upd H1 p (.lst xs))
theorem cy{x1}(h:PA X es t):PE X (.Tuple es x1 pos) (oF t):=by
 intro pins s σ H Q I hq
 refine wpAny_Tuple_spliced (aT (h pos pins s σ H _ I hq) fun us s1 ⟨xs,H1,I1,r,z,q⟩=>⟨by rw[<-r.length];exact z,?_⟩)
 have hf:H1 s1.heap.objs.size=none:=I1.hok.fresh (aI _)
 refine⟨.ref s1.heap.objs.size,upd H1 s1.heap.objs.size (.tup xs),I1.laid (t':=s1.toks) (fun b u e=>bV _ e) (aI _) ?_,rfl,q _ hf⟩
 exact⟨z,us,r,⟨_,fN _ rfl,rfl,_,rfl⟩⟩
theorem dM(h:PA X es t):PE X (.List es pos) (mX t):=by
 intro pins s σ H Q I hq
 refine wpAny_List_spliced (aT (h pos pins s σ H _ I hq) fun us s1 ⟨xs,H1,I1,r,z,q⟩=>⟨by rw[<-r.length];exact z,?_⟩)
 have hf:H1 s1.heap.objs.size=none:=I1.hok.fresh (aI _)
 refine⟨.ref s1.heap.objs.size,upd H1 s1.heap.objs.size (.lst xs),I1.laid (t':=s1.toks) (fun b u e=>bV _ e) (aI _) ?_,rfl,q _ hf⟩
 exact⟨z,us,0,r,fN _ rfl⟩
end
abbrev Sp:=List V->Hp->VK->XK->Prop
abbrev jX:=List Env->Hp->Shared->XK->Value->Shared->Prop
structure vh(P:Program)(w:World)(K:PySem.W.Frag)(mg:Str->Option Value)(base:Heap)(A:Around)(outer:List Env)(s:Shared)(H:Hp):Prop where
 frames:A.frames=some outer
 mod:Mod K mg base
 bs:∀b o,base.get? b=some o->s.heap.get? b=some o/\H b=none
 nj:base.objs.size<=s.heap.objs.size
 jW:s.heap.FunFrames base outer
 oE:∀b∈frs outer,H b=none
 hok:c8 P w H s.heap
 bare:AllBare s.gens
def CE(outer:List Env)(P:Program)(w:World)(H:Hp)(s:Shared)(Q:VK)(u:Value)(s':Shared):Prop:=
 ∃v H',s'.os=s.os/\AllBare s'.gens/\Un (frs outer) [] H H' s.heap s'.heap/\c8 P w H' s'.heap/\RelV v u/\Q v H'
def CR(CX:jX)(outer:List Env)(P:Program)(w:World)(H:Hp)(s:Shared)(Q:VK)(E:XK)(r:Result)(s':Shared):Prop:=
 match r with
 | .ok (.ret u)=>CE outer P w H s Q u s'
 | .ok _=>False
 | .error e=>CX outer H s E e s'
structure bG(P:Program)(w:World)(K:PySem.W.Frag)(mg:Str->Option Value)(base:Heap)(CX:jX)(k:Nat)(f:Addr)(fd:FuncData)(ps:List Str)(sp:Sp):Prop where
 len:∀vs H Q E,sp vs H Q E->vs.length=ps.length
 run:∀(A:Around) (outer:List Env) (s:Shared) (H:Hp) (args:Args) (us:List Value) (vs:List V) (Q:VK) (E:XK),gp k A->vh P w K mg base A outer s H->BindsTo s fd args (ps.zip us)->Vals vs us->sp vs H Q E->
  codeAny (model P w) A (.call (.ref f) args) (CR CX outer P w H s Q E) s
section
variable{X:Cx}{pins:List (Addr×Obj)}{σ:St}{H:Hp}{s s':Shared}
theorem Inv.Uo(I:Inv X pins σ H s):vh X.prog X.w X.K X.mg X.base X.A X.stack s H:=
 ⟨I.ok.frames,I.ok.mod,I.bs,ez I.ok.nj I.sz,I.stack,I.Hx,I.hok,I.bare⟩
theorem Inv.after{Q:VK}{u:Value}(I:Inv X pins σ H s)(h:CE X.stack X.prog X.w H s Q u s'):EP X pins σ Q u s':=by
 obtain⟨v,H',os,bare,un,hok,r,q⟩:=h
 obtain⟨hh,g,d,t,os'⟩:=s'
 obtain rfl:os'=s.os:=os
 exact⟨v,H',I.call (h':=hh) (g':=g) (d':=d) (t':=t) (ch:=[]) un hok bare (fun b z=>absurd z (by simp)),r,q⟩
end
def i9(sp:Sp)(lZ:List V)(E:XK)(t:TA):TE:=fun σ H Q=>t σ H fun vs H1=>sp (vs++lZ) H1 Q E
def Binds(K:PySem.W.Frag)(fd:FuncData)(ps:List Str)(ds:List Value):Prop:=
 ∀(s:Shared) (us:List Value),K.In s.heap->(us++ds).length=ps.length->BindsTo s fd ⟨us,[]⟩ (ps.zip (us++ds))
theorem Binds.all{K:PySem.W.Frag}{fd:FuncData}{ps:List Str}(h:∀us:List Value,us.length=ps.length->bindArgs fd ⟨us,[]⟩=pure (ps.zip us)):Binds K fd ps []:=fun s us _ hl=>by
 rw[ig] at hl⊢
 exact .of_eq (h us hl)
def Passes(CX:jX)(X:Cx)(E:XK):Prop:=∀(pins:List (Addr×Obj)) (σ:St) (H:Hp) (s:Shared) (e:Value) (s':Shared),Inv X pins σ H s->CX X.stack H s E e s'->X.xe e s'
section
variable{X:Cx}{CX:jX}{k:Nat}{f C:Addr}{fd:FuncData}{ps:List Str}{sp:Sp}{lZ:List V}{ds:List Value}{E:XK}{x m:Str}{p pos apos:Pos}{e o:Expr}{es:List Expr}{ta:TE}{t:TA}
theorem L5{pins:List (Addr×Obj)}{σ:St}{H:Hp}{s:Shared}{Q:VK}{us:List Value}{vs:List V}(F:bG X.prog X.w X.K X.mg X.base CX k f fd ps sp)(hr:gp k X.A)(hb:Binds X.K fd ps ds)(hd:Vals lZ ds)(hx:Passes CX X E)
    (I:Inv X pins σ H s) (r:Vals vs us) (h:sp (vs++lZ) H Q E):wpAny (model X.prog X.w) X.A (call (.ref f) us) (EP X pins σ Q) X.xe s:=by
  have r2:Vals (vs++lZ) (us++ds):=r.append hd
  have hl:(us++ds).length=ps.length:=by rw[<-r2.length];exact F.len _ _ _ _ h
  refine wpAny_call (codeAny_mono (F.run X.A X.stack s H ⟨us,[]⟩ (us++ds) (vs++lZ) Q E hr I.Uo (hb s us I.eB hl) r2 h) fun r s' hq=>?_)
  cases r with
  |error e=>exact hx pins σ H s e s' I hq
  | ok fl =>
    cases fl with
    |ret u=>exact I.after hq
    |next=>exact False.elim hq
    |brk=>exact False.elim hq
    |cont=>exact False.elim hq
theorem R9(F:bG X.prog X.w X.K X.mg X.base CX k f fd ps sp)(hr:gp k X.A)(hg:Gl X x)(hm:X.mg x=some (.ref f))(hk:PySem.W.keepIn X.K (.ref f)=true)(hb:Binds X.K fd ps ds)(hd:Vals lZ ds)(hx:Passes CX X E)
  (ha:PA X (e::es) t) (hdb:(x==("__debug__":Str))=false:=by decide) (he:starEach (e::es) X.env=(false,eval e X.env)::starEach es X.env:=by rfl) (hpl:(backTo pos (starEach es X.env)).any (·.1)=false:=by rfl):
  PE X (.Call (.Name x p) (e::es) [] pos) (i9 sp lZ E t):=by
 intro pins s σ H Q I h
 refine wpAny_Call_Name_kw (OM I hg hm ?_ hdb)
 refine PySem.W.callWith_K (h₀:=X.base) I.ok.mod.Bf hk (aT (ha pos pins s σ H _ I h) fun us s1 ⟨vs,H1,I1,r,q⟩=>⟨I1.eB,?_⟩) he hpl
 exact L5 F hr hb hd hx I1 r q
end
structure cz(N P:List Str)(sc:Scope):Prop where
 kind:sc.kind= .function
 co:sc.isCoroutine=false
 gen:sc.isGenerator=false
 nd:N.Nodup
 pre:N.take P.length=P
 par:∀x∈P,sc.names.lookup x=some .local\/sc.names.lookup x=some .cell
 JM:∀y∈sc.names,y.2≠ .free
theorem Hg{kindOf:Str->Option NameKind}{x:Str}:∀{binds:List (Str×Value)} {m:Str->Option Value},(∀v,(x,v)∉binds)->bindL kindOf binds m x=m x
  |[],_,_=>rfl
  | (n, v) :: r, m, h => by
    unfold bindL
    rw[Hg fun w hw=>h w (cK _ hw)]
    split
    · have:x≠n:=by rintro rfl;exact h v bA
      simp[this]
    · rfl
theorem Iu{kindOf:Str->Option NameKind}{x:Str}:∀{binds:List (Str×Value)} {m:Str->Option Value},(∀v,(x,v)∉binds)->bindC kindOf binds m x=m x
  |[],_,_=>rfl
  | (n, v) :: r, m, h => by
    unfold bindC
    rw[Iu fun w hw=>h w (cK _ hw)]
    split
    · rfl
    · have:x≠n:=by rintro rfl;exact h v bA
      simp[this]
theorem Ic{kindOf:Str->Option NameKind}{x:Str}{v:Value}:∀{P:List Str} {vs:List Value} {i:Nat} {m:Str->Option Value},P.Nodup->P[i]?=some x->vs[i]?=some v->kindOf x=some .local->
    bindL kindOf (P.zip vs) m x=some v
  |[],_,_,_,_,h,_,_=>by simp at h
  |_::_,[],_,_,_,_,h,_=>by simp at h
  | p :: P, w :: vs, 0, m, nd, h1, h2, hk => by
    simp at h1 h2;subst h1;subst h2
    show bindL kindOf ((p,w)::P.zip vs) m p=_
    unfold bindL
    rw[Hg fun v hv=>(iK.mp nd).1 (vW hv).1,if_pos hk]
    simp
  | p :: P, w :: vs, i + 1, m, nd, h1, h2, hk => by
    show bindL kindOf ((p,w)::P.zip vs) m x=_
    unfold bindL
    exact Ic (i:=i) (iK.mp nd).2 (by simpa using h1) (by simpa using h2) hk
theorem Ds{kindOf:Str->Option NameKind}{x:Str}{v:Value}:∀{P:List Str} {vs:List Value} {i:Nat} {m:Str->Option Value},P.Nodup->P[i]?=some x->vs[i]?=some v->kindOf x≠some .local->
    bindC kindOf (P.zip vs) m x=some v
  |[],_,_,_,_,h,_,_=>by simp at h
  |_::_,[],_,_,_,_,h,_=>by simp at h
  | p :: P, w :: vs, 0, m, nd, h1, h2, hk => by
    simp at h1 h2;subst h1;subst h2
    show bindC kindOf ((p,w)::P.zip vs) m p=_
    unfold bindC
    rw[Iu fun v hv=>(iK.mp nd).1 (vW hv).1,if_neg hk]
    simp
  | p :: P, w :: vs, i + 1, m, nd, h1, h2, hk => by
    show bindC kindOf ((p,w)::P.zip vs) m x=_
    unfold bindC
    exact Ds (i:=i) (iK.mp nd).2 (by simpa using h1) (by simpa using h2) hk
def start(N:List Str)(vs:List V):St:=vs.map some++List.replicate (N.length-vs.length) none
def pU(CX:jX)(P:Program)(w:World)(K:PySem.W.Frag)(mg:Str->Option Value)(base:Heap)(N:List Str)(qual:Str)(scope:Scope)(f:Addr)(cd:Value)(A:Around)(outer:List Env)(s:Shared)(H:Hp)(E:XK):Cx where
 prog:=P
 w:=w
 K:=K
 mg:=mg
 base:=base
 A:=A.deeper (envOfC qual scope s.heap.objs.size f cd)
 N:=N
 s₀:=s
 H₀:=H
 env:=envOfC qual scope s.heap.objs.size f cd
 outer:=outer
 stack:=envOfC qual scope s.heap.objs.size f cd::outer
 ex:=[]
 calm:=true
 fn:=fun _=>true
 pn:=[]
 xe:=fun e s'=>wpAny (model P w) (A.deeper (envOfC qual scope s.heap.objs.size f cd)) (leaving (envOfC qual scope s.heap.objs.size f cd) e) (fun _ s''=>CX outer H s E e s'') (fun e' s''=>CX outer H s E e' s'') s'
theorem Ia{sc:Scope}{n:Nat}{x:Str}(h:sc.names.lookup x=some .cell):∃c,(cellsFrom n sc.names []).lookup x=some c:=by
 have q:=FG sc.names n [] (.inl h)
 exact EX.mp q
theorem Pw{CX:jX}{P:Program}{w:World}{K:PySem.W.Frag}{mg:Str->Option Value}{base:Heap}{N ps:List Str}{qual:Str}{scope:Scope}{f:Addr}{cd:Value}{A:Around}{outer:List Env}{s s1:Shared}{H:Hp}{E:XK}{us:List Value}{vs:List V}
  (S:cz N ps scope) (hd:A.handled=none) (e0:vh P w K mg base A outer s H) (hl:vs.length=ps.length) (r:Vals vs us)
  (x:InCallC s s.heap.objs.size (bindL (envOfC qual scope s.heap.objs.size f cd).kindOf (ps.zip us) fun _=>none) (cellsFrom (s.heap.objs.size+1) scope.names []) (bindC (envOfC qual scope s.heap.objs.size f cd).kindOf (ps.zip us) fun _=>none) s1):
  Inv (pU CX P w K mg base N qual scope f cd A outer s H E) [] (start N vs) H s1:=by
 have hpl:ps.length<=N.length:=by have:=congrArg List.length S.pre;rw[iQ] at this;omega
 obtain⟨h1,tk,rfl,hk⟩:=x.done
 have qC:∀b:Addr,b∉(pU CX P w K mg base N qual scope f cd A outer s H E).ex:=fun b z=>absurd (show b∈([]:List Addr) from z) (by simp)
 refine⟨⟨e0.mod,S.kind,rfl,rfl,aI _,fun y z c h1 h2=>?_,fun y hy=>?_,fun y c _ h=>?_,fun _=>hd,Around.frames_deeper e0.frames, .inr ⟨rfl,rfl⟩,fun b z=>absurd z (qC b),e0.bs,e0.nj,fun b _ _=>qC b,fun b z=>absurd z (qC b),e0.jW,e0.oE⟩,
  rfl,e0.bare,Un.kept hk,⟨_,x.toInCall.ns,fun i y v h1 h2 h3=>?_⟩,fun y c h=>⟨_,x.cell y c h⟩,e0.hok.fresh (aI _),fun y c h=>?_,fun p hp=>absurd (show p∈([]:List (Addr×Obj)) from hp) (by simp),e0.hok.kept hk,?_⟩
 ·exact name_of_addr x.apart (nQ h1) (nQ h2)
 ·have hy:scope.names.lookup y=some .cell\/scope.names.lookup y=some .free:=hy
  rcases hy with hy|hy
  ·exact Ia hy
  ·exact absurd rfl (S.JM _ (nQ hy))
 ·exact jk (x.above y c (nQ h))
 ·have hi:i<vs.length:=by
   unfold start at h2
   by_cases hi:i<vs.length
   ·exact hi
   ·rw[iy (by simpa using hi)] at h2
    rw[iD] at h2
    split at h2<;>cases h2
  have ha:vs[i]?=some v:=by
   unfold start at h2
   rw[iB (by simpa using hi),aX] at h2
   cases e:vs[i]? with
   |none=>rw[e] at h2;cases h2
   |some a=>rw[e] at h2;cases h2;rfl
  obtain⟨u,hu,rv⟩:=r.get ha
  have hp:ps[i]?=some y:=by
   rw[<-S.pre,G2 (by omega)];exact h1
  have Jr:ps.Nodup:=by rw[<-S.pre];exact S.nd.sublist (List.take_sublist _ _)
  refine⟨u,rv,?_⟩
  rcases S.par y (eK hp) with k|k
  ·exact .inl ⟨k,Ic Jr hp hu k⟩
  ·obtain⟨c,e⟩:=Ia (n:=s.heap.objs.size+1) k
   refine .inr ⟨.inl k,c,e,?_⟩
   have q:=x.cell y c e
   rw[Ds Jr hp hu (by show scope.names.lookup y≠_;rw[k];decide)] at q
   exact q
 ·exact e0.hok.fresh (jk (x.above y c (nQ h)))
 ·unfold start
  show _=N.length
  rw[bP,ak,List.length_replicate]
  omega
theorem Su{CX:jX}{P:Program}{w:World}{K:PySem.W.Frag}{mg:Str->Option Value}{base:Heap}{k:Nat}{f:Addr}{name qual:Str}{params:Arguments}{body:List Stmt}{scope:Scope}{dV kV doc pm cdv ct oc:Value}{an od:Option Addr}
    {osl:Array (Option Value)} {N ps:List Str} {sp:Sp} (lk:K.lookup f=some ⟨oc,od, .func (PySem.W.fnOf name qual params body scope dV kV doc pm an cdv ct),osl⟩) (hcd:PySem.W.codeIn K cdv qual=true) (S:cz N ps scope)
    (len:∀vs H Q E,sp vs H Q E->vs.length=ps.length)
    (hbody:∀(A:Around) (outer:List Env) (s:Shared) (H:Hp) (vs:List V) (Q:VK) (E:XK),gp k (A.deeper (envOfC qual scope s.heap.objs.size f cdv))->sp vs H Q E->
      ∃t,i7 (pU CX P w K mg base N qual scope f cdv A outer s H E) body t/\t {nx:=fun _ H'=>Q .aM H',rt:=Q} (start N vs) H):
    bG P w K mg base CX (k+1) f (PySem.W.fnOf name qual params body scope dV kV doc pm an cdv ct) ps sp:=by
  refine⟨len,fun A outer s H args us vs Q E hr e0 hb r lK=>?_⟩
  have hl:=len _ _ _ _ lK
  have KX:K.In s.heap:=e0.mod.Bf.keeps fun b o e=>(e0.bs b o e).1
  have lim:s.heap.NoLimit:=e0.mod.nolimit.keeps fun b o e=>(e0.bs b o e).1
  have hkind:∀y∈ps.zip us,scope.names.lookup y.1=some .local\/(scope.names.lookup y.1=some .cell/\((cellsFrom (s.heap.objs.size+1) scope.names []).lookup y.1).isSome=true):=fun⟨n,v⟩ hy=>by
    rcases S.par n (vW hy).1 with q|q
    · exact .inl q
    · exact .inr ⟨q,FG _ _ _ (.inl q)⟩
  refine codeAny_call_function hr.depth (KX _ _ lk) rfl S.co S.gen rfl (PySem.W.codeRec_of KX hcd) (hb _ _ _ _ ?_)
  refine wpAny_newFunctionEnv_cells S.kind hkind fun env he s1 x=>?_
  subst he
  refine⟨lim.keeps x.toInCall.keep,codeAny_func ?_⟩
  obtain⟨t,ht,hq⟩:=hbody A outer s H vs Q E (hr.deeper _) lK
  have I:Inv (pU CX P w K mg base N qual scope f cdv A outer s H E) [] (start N vs) H s1:=Pw S hr.hd e0 hl r x
  refine wpAny_mono (ht [] s1 (start N vs) H _ I hq) (fun fl s' hs=>?_) fun e s' hs=>hs
  have fin:∀{σ':St} {H':Hp} {v:V} {u:Value},Inv (pU CX P w K mg base N qual scope f cdv A outer s H E) [] σ' H' s'->RelV v u->Q v H'->CE outer P w H s Q u s':=
    fun{σ' H' v u} J rv q=>⟨v,H',J.os,J.bare,J.base,J.hok,rv,q⟩
  cases fl with
  | ret u =>
    obtain⟨v,σ',H',J,rv,q⟩:=hs
    exact fin J rv q
  | next =>
    obtain⟨σ',H',J,q⟩:=hs
    exact fin (v:=V.aM) (u:=Value.none) J rfl q
  | brk =>
    obtain⟨_,_,_,q⟩:=hs
    exact False.elim q
  | cont =>
    obtain⟨_,_,_,q⟩:=hs
    exact False.elim q
section
variable{X:Cx}{x:Str}{p pos:Pos}{e:Expr}{es:List Expr}{t:TA}{id T:String}{r:List V->Hp->VK->Prop}
def e7(r:List V->Hp->VK->Prop)(t:TA):TE:=fun σ H Q=>t σ H fun vs H1=>r vs H1 Q
theorem bE(hc:eV X (.builtin id) r)(hg:Gl X x)(hm:X.mg x=none)(hv:bootBuiltins x=some (.builtin id))(ha:PA X (e::es) t)(hn:x≠"__name__":=by decide)(hdb:(x==("__debug__":Str))=false:=by decide)
  (he:starEach (e::es) X.env=(false,eval e X.env)::starEach es X.env:=by rfl) (hpl:(backTo pos (starEach es X.env)).any (·.1)=false:=by rfl):PE X (.Call (.Name x p) (e::es) [] pos) (e7 r t):=by
 intro pins s σ H Q I h
 refine wpAny_Call_Name_kw (oM I hg hm hv ?_ hn hdb)
 exact PyProof.Rows.callWith_builtin1 (aT (ha pos pins s σ H _ I h) fun us s1 ⟨vs,H1,I1,r1,q1⟩=>hc pins s1 σ H1 vs us Q I1 r1 q1) he hpl
theorem fS(hc:eV X (.type T) r)(hg:Gl X x)(hm:X.mg x=none)(hv:bootBuiltins x=some (.type T))(ha:PA X (e::es) t)(hn:x≠"__name__":=by decide)(hdb:(x==("__debug__":Str))=false:=by decide)
  (he:starEach (e::es) X.env=(false,eval e X.env)::starEach es X.env:=by rfl) (hpl:(backTo pos (starEach es X.env)).any (·.1)=false:=by rfl):PE X (.Call (.Name x p) (e::es) [] pos) (e7 r t):=by
 intro pins s σ H Q I h
 refine wpAny_Call_Name_kw (oM I hg hm hv ?_ hn hdb)
 exact vE (aT (ha pos pins s σ H _ I h) fun us s1 ⟨vs,H1,I1,r1,q1⟩=>hc pins s1 σ H1 vs us Q I1 r1 q1) he hpl
end
end L2
namespace HT
open PySem PyProof.Rows
section
open PySem.SeqAt
open PySem.AutoSeq1 (wpAny_loadPart')
open PySem.MeetsSeq PySem.MeetsSeq2 PySem.MeetsSeq3
end
section
variable{prog:Program}{w:World}{A:Around}{E:Value->Shared->Prop}{s:Shared}
def dS(n d:Nat):Option Int->Nat
 |none=>d
 |some v=>if v<0 then(v+(n:Int)).toNat else min v.toNat n
theorem S0(n d:Nat):dS n d none=d:=rfl
end
end HT
namespace L2
open PySem PySem.Spec PyProof.Rows
abbrev TO:=St->Hp->(Option Int->Hp->Prop)->Prop
def PO(X:Cx)(e:Option Expr)(t:TO):Prop:=
 ∀(pins:List (Addr×Obj)) (s:Shared) (σ:St) (H:Hp) (Q:Option Int->Hp->Prop),Inv X pins σ H s->t σ H Q->
  wpAny (model X.prog X.w) X.A (evalPart e X.env) (fun u s'=>∃o H',Inv X pins σ H' s'/\IsPart u o/\Q o H') X.xe s
def wc:TO:=fun _ H Q=>Q none H
def Bx(t:TE):TO:=fun σ H Q=>t σ H fun x H1=>∃i,x= .int i/\Q (some i) H1
section
variable{X:Cx}{e:Expr}{te:TE}{lo hi:Option Expr}{tl th:TO}{pos p2:Pos}
theorem n9:PO X none wc:=by
 intro pins s σ H Q I h
 rw[evalPart_none]
 exact wpAny_pure ⟨none,H,I, .none,h⟩
theorem m8(h:PE X e te):PO X (some e) (Bx te):=by
 intro pins s σ H Q I hw
 rw[evalPart_some]
 refine aT (h pins s σ H _ I hw) fun u s1 ⟨x,H1,I1,r1,q1⟩=>?_
 obtain⟨i,rfl,q⟩:=q1
 obtain⟨t,rfl⟩:=r1
 exact⟨some i,H1,I1, .int i t,q⟩
def IS(X:Cx)(r:V->Option Int->Option Int->Hp->VK->Prop):Prop:=
 ∀(pins:List (Addr×Obj)) (s:Shared) (σ:St) (H:Hp) (x:V) (v vl vu:Value) (lo hi:Option Int) (sl:Addr) (Q:VK),Inv X pins σ H s->RelV x v->s.heap.IsSliceOf sl vl vu .none->IsPart vl lo->IsPart vu hi->r x lo hi H Q->
  ∃T id,typeLookup (.type T) "__getitem__"=pure (some (.builtin id))/\s.TypeIs v T/\wpAny (model X.prog X.w) X.A (getItem v (.ref sl)) (EP X pins σ Q) X.xe s
def rE(r:V->Option Int->Option Int->Hp->VK->Prop)(te:TE)(tl th:TO):TE:=fun σ H Q=>te σ H fun x H1=>tl σ H1 fun l H2=>th σ H2 fun u H3=>r x l u H3 Q
theorem nI{r:V->Option Int->Option Int->Hp->VK->Prop}(hr:IS X r)(he:PE X e te)(hl:PO X lo tl)(hu:PO X hi th):PE X (.Subscript e (.Slice lo hi none p2) pos) (rE r te tl th):=by
 intro pins s σ H Q I h
 refine Subscript_ (aT (he pins s σ H _ I h) fun v s1 ⟨x,H1,I1,r1,q1⟩=>?_)
 refine wpAny_Slice (aT (hl pins s1 σ H1 _ I1 q1) fun vl s2 ⟨l,H2,I2,pl,q2⟩=>aT (hu pins s2 σ H2 _ I2 q2) fun vu s3 ⟨u,H3,I3,pu,q3⟩=>?_)
 rw[evalPart_none]
 refine wpAny_pure ?_
 have I4:Inv X pins σ H3 {s3 with heap:=s3.heap.push {cls:= .type "slice",data:= .fields #[vl,vu, .none]}}:=I3.kept (t':=s3.toks) fun b ob q=>bV _ q
 obtain⟨T,id,hT,ht,hg⟩:=hr pins {s3 with heap:=s3.heap.push {cls:= .type "slice",data:= .fields #[vl,vu, .none]}} σ H3 x v vl vu l u s3.heap.objs.size Q I4 r1 (Heap.IsSliceOf.new ..) pl pu q3
 show wpAny (model X.prog X.w) X.A (subscriptTail e (.Slice lo hi none p2) v (.ref s3.heap.objs.size)) (EP X pins σ Q) X.xe {s3 with heap:=s3.heap.push {cls:= .type "slice",data:= .fields #[vl,vu, .none]}}
 exact tail_any (ops:=[.ref s3.heap.objs.size,v]) ht hT hg (by with_unfolding_all rfl)
def kQ(xs:List V)(lo hi:Option Int):List V:=(xs.drop (HT.dS xs.length 0 lo)).take (HT.dS xs.length xs.length hi-HT.dS xs.length 0 lo)
theorem MO(xs:List V)(lo hi:Option Int):(kQ xs lo hi).length<=xs.length:=by
 unfold kQ
 rw[iQ,Ct]
 omega
def M9(K:PySem.W.Frag):V->Option Int->Option Int->Hp->VK->Prop:=fun x lo hi H Q=>∃a xs,x= .ref a/\fY K H a xs/\
 ¬(HT.dS xs.length 0 lo=0/\HT.dS xs.length xs.length hi=xs.length)/\∀p,H p=none->Q (.ref p) (upd H p (.tup (kQ xs lo hi)))
def Ux(K:PySem.W.Frag):R2:=fun x y H Q=>∃a b xs ys,x= .ref a/\y= .ref b/\fY K H a xs/\fY K H b ys/\xs≠[]/\xs.length+ys.length<=sizeLine/\
 (ys=[]->Q (.ref a) H)/\(ys≠[]->∀p,H p=none->Q (.ref p) (upd H p (.tup (xs++ys))))
end
def gV(n:Nat)(i:Int):Option Nat:=if 0<=i then(if i<n then some i.toNat else none) else if-(n:Int)<=i then some (i+n).toNat else none
def bx{α:Type}(xs:List α)(i:Int):Option α:=(gV xs.length i).bind fun j=>xs[j]?
theorem Dt{n:Nat}{i:Int}{j:Nat}(h:gV n i=some j):seqIndex? i n=some j/\j<n/\ -(n:Int)<=i/\i<n:=by
 unfold gV at h
 by_cases h0:0<=i
 ·rw[if_pos h0] at h
  by_cases h1:i<n
  ·rw[if_pos h1] at h
   have e:i.toNat=j:=gn h
   exact⟨by rw[seqIndex_of h0 h1,e],by omega,by omega,h1⟩
  ·rw[if_neg h1] at h;cases h
 ·rw[if_neg h0] at h
  by_cases h1: -(n:Int)<=i
  ·rw[if_pos h1] at h
   have e:(i+n).toNat=j:=gn h
   exact⟨by rw[seqIndex_neg (by omega) h1,e],by omega,h1,by omega⟩
  ·rw[if_neg h1] at h;cases h
theorem xB{α:Type}{xs:List α}{i:Int}{v:α}(h:bx xs i=some v):∃j,seqIndex? i xs.length=some j/\xs[j]?=some v/\j<xs.length/\ -(xs.length:Int)<=i/\i<xs.length:=by
  unfold bx at h
  cases e:gV xs.length i with
  |none=>rw[e] at h;cases h
  | some j =>
    rw[e] at h
    obtain⟨h1,h2,h3,h4⟩:=Dt e
    exact⟨j,h1,h,h2,h3,h4⟩
theorem Kd{α:Type}{xs:List α}{j:Nat}{v:α}(h:xs[j]?=some v):bx xs (j:Int)=some v:=by
 have hj:j<xs.length:=(bQ.mp h).1
 have e:gV xs.length (j:Int)=some j:=by
  unfold gV
  rw[if_pos (by omega),if_pos (by omega)];simp
 unfold bx;rw[e];exact h
def Sy(b:Expr):Prop:=∀o i,subscripted b false o i=operate [o,i] (getItem o i)
def kD(X:Cx)(r:R2):Prop:=
 ∀(value slice:Expr) (pins:List (Addr×Obj)) (s:Shared) (σ:St) (H:Hp) (x y:V) (v u:Value) (Q:VK),Inv X pins σ H s->RelV x v->RelV y u->r x y H Q->
  subscripted slice false v u=operate [v,u] (getItem v u)->wpAny (model X.prog X.w) X.A (subscriptTail value slice v u) (EP X pins σ Q) X.xe s
def qc(X:Cx)(id:String)(r:V->List V->Hp->VK->Prop):Prop:=
 ∀(pins:List (Addr×Obj)) (s:Shared) (σ:St) (H:Hp) (x:V) (xs:List V) (v:Value) (us:List Value) (Q:VK),Inv X pins σ H s->RelV x v->Vals xs us->r x xs H Q->
  wpAny (model X.prog X.w) X.A (call (.builtin id) (v::us)) (EP X pins σ Q) X.xe s
section
variable{X:Cx}{a b:Expr}{ta tb:TE}{pos:Pos}
theorem kD.or{r r':R2}(h:kD X r)(h':kD X r'):kD X (fun x y H Q=>r x y H Q\/r' x y H Q):=by
 intro value slice pins s σ H x y v u Q I rx ry q hs
 rcases q with q|q
 ·exact h value slice pins s σ H x y v u Q I rx ry q hs
 ·exact h' value slice pins s σ H x y v u Q I rx ry q hs
theorem au{r:R2}(hr:kD X r)(ha:PE X a ta)(hb:PE X b tb)(hs:Sy b):PE X (.Subscript a b pos) (dN r ta tb):=by
 intro pins s σ H Q I h
 exact Subscript_ (AH ha hb I h fun v u s2 x y H2 I2 rx ry q=>hr a b pins s2 σ H2 x y v u Q I2 rx ry q (hs _ _))
def cJ(K:PySem.W.Frag):R2:=fun x y H Q=>∃p xs i v,x= .ref p/\y= .int i/\aW K H p xs/\bx xs i=some v/\Q v H
def aL(K:PySem.W.Frag):R2:=fun x y H Q=>∃p xs i v,x= .ref p/\y= .int i/\fY K H p xs/\bx xs i=some v/\Q v H
def CC:R2:=fun x y H Q=>∃z i c,x= .str z/\y= .int i/\z.length<=sizeLine/\bx z.cps.toList i=some c/\Q (.str ⟨#[c]⟩) H
theorem bz:kD X (cJ X.K):=by
 intro value slice pins s σ H x y v u Q I rx ry h hs
 obtain⟨p,xs,i,z,rfl,rfl,hq,he,q⟩:=h
 cases rx
 obtain⟨t,rfl⟩:=ry
 obtain⟨its,r,pl,hz⟩:=I.list hq
 obtain⟨j,h1,h2,h3,h4,h5⟩:=xB he
 obtain⟨w,ew,rw'⟩:=r.get h2
 have hl:=r.length
 have hn:=pO
 have fin:EP X pins σ Q w s:=⟨z,H,I,rw',q⟩
 by_cases h0:0<=i
 ·have hj:i.toNat=j:=by
   rw[seqIndex_of h0 h5] at h1
   exact gn h1
  exact item_listR pl.isList h0 (by omega) (by rw[hj];simpa using ew) fin hs
 ·have hj:(i+(its.toArray.size:Int)).toNat=j:=by
   rw[seqIndex_neg (by omega) h4] at h1
   rw[dO,<-hl]
   exact gn h1
  exact subscriptTail_builtinR (x:=w) pl.isList.typeIs slot_list_getitem.lookup
   (wpAny_getItem_list_neg (Q:=fun r s'=>r=w/\EP X pins σ Q r s') pl.isList (by omega) (by rw[dO]<;>omega) (by omega) (by rw[hj];simpa using ew) ⟨rfl,fin⟩) hs
theorem aO:kD X (aL X.K):=by
 intro value slice pins s σ H x y v u Q I rx ry h hs
 obtain⟨p,xs,i,z,rfl,rfl,hq,he,q⟩:=h
 cases rx
 obtain⟨t,rfl⟩:=ry
 obtain⟨its,r,pl,hz⟩:=I.tuple hq
 obtain⟨j,h1,h2,h3,h4,h5⟩:=xB he
 obtain⟨w,ew,rw'⟩:=r.get h2
 have hl:=r.length
 have hn:=pO
 have fin:EP X pins σ Q w s:=⟨z,H,I,rw',q⟩
 exact subscriptTail_builtinR (x:=w) pl.typeIs slot_tuple_getitem.lookup
  (getItem_tuple (j:=j) (Q:=fun r s'=>r=w/\EP X pins σ Q r s') pl (by omega) (by omega) (by rw[dO,<-hl];exact h1) (by simpa using ew) ⟨rfl,fin⟩) hs
theorem TM:kD X CC:=by
 intro value slice pins s σ H x y v u Q I rx ry h hs
 obtain⟨z,i,c,rfl,rfl,hz,he,q⟩:=h
 obtain⟨t,rfl⟩:=rx
 obtain⟨t',rfl⟩:=ry
 obtain⟨j,h1,h2,h3,h4,h5⟩:=xB he
 have hl:z.cps.toList.length=z.length:=by simp[Str.length]
 rw[hl] at h1 h4 h5
 have hn:=pO
 exact tail_any (typeIs_str s z t) slot_str_getitem.lookup (getItem_str (c:=c) (by
  have e1:decide (i< -(2^63:Int))=false:=decide_eq_false (by omega)
  have e2:decide (i≥2^63)=false:=decide_eq_false (by omega)
  rw[e1,e2,nL]) (by rw[h1];simpa using h2) ⟨.str ⟨#[c]⟩,H,I.tok _,⟨_,rfl⟩,q⟩) hs
def sJ(K:PySem.W.Frag):R2:=fun x y H Q=>cJ K x y H Q\/aL K x y H Q\/CC x y H Q
theorem Ja:kD X (sJ X.K):=bz.or (aO.or TM)
theorem Tj(its:List Value)(n j:Nat)(u:Value):Obj.mapSeq (·.setIfInBounds j u) {cls:= .type "list",data:= .seq its.toArray n}={cls:= .type "list",data:= .seq (its.set j u).toArray n}:=by
 simp[Obj.mapSeq]
theorem Inv.lst{pins:List (Addr×Obj)}{σ:St}{H:Hp}{s:Shared}{p:Addr}{xs:List V}(I:Inv X pins σ H s)(h:H p=some (.lst xs)):
  ∃(its:List Value) (n:Nat),Vals xs its/\s.heap.get? p=some {cls:= .type "list",data:= .seq its.toArray n}/\xs.length<=sizeLine:=by
 obtain⟨z,its,n,r,e⟩:=I.hok p _ h
 exact⟨its,n,r,e,z⟩
theorem Inv.JB{pins:List (Addr×Obj)}{σ:St}{H:Hp}{s:Shared}{p:Addr}{xs ys:List V}{its its':List Value}{n n':Nat}{f:Obj->Obj}(I:Inv X pins σ H s)(h:H p=some (.lst xs))
  (ho:s.heap.get? p=some {cls:= .type "list",data:= .seq its.toArray n}) (hf:f {cls:= .type "list",data:= .seq its.toArray n}={cls:= .type "list",data:= .seq its'.toArray n'}) (r:Vals ys its') (hz:ys.length<=sizeLine) (t:Nat):
  Inv X pins σ (upd H p (.lst ys)) {s with heap:=s.heap.update p f,toks:=t}:=by
 have e:(s.heap.update p f).get? p=some {cls:= .type "list",data:= .seq its'.toArray n'}:=by
  rw[tU f ho (by rw[hf]<;>rfl),hf]
 refine I.write (x:=p) (e:=p) (by rw[h];trivial) (.inl rfl) (fun b u hb q=>(j7 _ _ (bM hb)).trans q) ⟨_,e⟩ ?_
 exact⟨hz,its',n',r,e⟩
def u9:V->V->V->Hp->(Hp->Prop)->Prop:=fun o i v H Q=>∃p xs k j,o= .ref p/\i= .int k/\H p=some (.lst xs)/\gV xs.length k=some j/\Q (upd H p (.lst (xs.set j v)))
theorem set_list:BS X u9:=by
 intro pins s σ H o i v ov iv u Q I ro ri rv h
 obtain⟨p,xs,k,j,rfl,rfl,hp,hj,q⟩:=h
 cases ro
 obtain⟨t,rfl⟩:=ri
 obtain⟨its,n,r,ho,hz⟩:=I.lst hp
 obtain⟨h1,h2,h3,h4⟩:=Dt hj
 have hl:=r.length
 have hn:=pO
 have I':Inv X pins σ (upd H p (.lst (xs.set j v))) {s with heap:=s.heap.update p (Obj.mapSeq (·.setIfInBounds j u))}:=
  I.JB hp ho (Tj its n j u) (r.set rv j) (by rw[fh];exact hz) s.toks
 by_cases h0:0<=k
 ·have hk:k.toNat=j:=by
   rw[seqIndex_of h0 h4] at h1
   exact gn h1
  exact PySem.W.ki_setAt ho h0 (by omega) (by rw[dO,<-hl];exact h4) (by rw[hk];exact⟨_,I',q⟩)
 ·have hk:(k+(its.toArray.size:Int)).toNat=j:=by
   rw[seqIndex_neg (by omega) h3] at h1
   rw[dO,<-hl]
   exact gn h1
  exact PySem.W.ki_setBack ho (by omega) (by rw[dO,<-hl];exact h3) (by omega) (by rw[hk];exact⟨_,I',q⟩)
theorem Us(lo hi:Option Int)(n:Nat):(sliceBounds lo hi none n).1=((HT.dS n 0 lo:Nat):Int)/\(sliceBounds lo hi none n).2.1=((HT.dS n n hi:Nat):Int)/\(sliceBounds lo hi none n).2.2=1:=by
  refine⟨?_,?_,rfl⟩
  · cases lo with
    |none=>simp[sliceBounds,HT.dS]
    | some i =>
      simp only[sliceBounds,HT.dS,Option.getD_none,show(1:Int)>0 by decide,if_true]
      by_cases h:i<0
      · simp only[h,if_true]<;>omega
      · simp only[h,if_false]<;>omega
  · cases hi with
    |none=>simp[sliceBounds,HT.dS]
    | some i =>
      simp only[sliceBounds,HT.dS,Option.getD_none,show(1:Int)>0 by decide,if_true]
      by_cases h:i<0
      · simp only[h,if_true]<;>omega
      · simp only[h,if_false]<;>omega
theorem Qh(its:List Value)(lo hi:Option Int):slicePick its.toArray lo hi none=((its.drop (HT.dS its.length 0 lo)).take (HT.dS its.length its.length hi-HT.dS its.length 0 lo)).toArray:=by
 obtain⟨h1,h2,h3⟩:=Us lo hi its.toArray.size
 unfold slicePick
 rw[h1,h2,h3]
 simp only[sliceRange_one,pick_run,dO]<;>rfl
def kX(K:PySem.W.Frag):V->Option Int->Option Int->Hp->VK->Prop:=fun x lo hi H Q=>∃a xs,x= .ref a/\aW K H a xs/\∀p,H p=none->Q (.ref p) (upd H p (.lst (kQ xs lo hi)))
theorem m5:IS X (kX X.K):=by
 intro pins s σ H x v vl vu lo hi sl Q I rx hs pl pu h
 obtain⟨a,xs,rfl,hx,q⟩:=h
 cases rx
 obtain⟨its,r,ht,hz⟩:=I.list hx
 have hlen:=r.length
 refine⟨"list",_,slot_list_getitem.lookup,ht.isList.typeIs,?_⟩
 refine wpAny_getItem_list_slice ht.isList hs pl pu .none (by simp) ?_ (by rw[dO]<;>omega)
 rw[Qh,<-hlen]
 refine⟨.ref s.heap.objs.size,_,I.laid (t':=s.toks) (o:= .lst (kQ xs lo hi)) (fun b ob q=>bV _ q) (aI _) ?_,rfl,q _ (I.hok.fresh (aI _))⟩
 exact⟨ez (MO xs lo hi) hz,_,0,(r.drop (HT.dS xs.length 0 lo)).take (HT.dS xs.length xs.length hi-HT.dS xs.length 0 lo),fN _ rfl⟩
def HW:V->Bool
 | .aM=>true
 | .bl _=>true
 | .int _=>true
 | .str _=>true
 |_=>false
def S1:V->V->Bool
 | .aM, .aM=>true
 | .bl a, .bl b=>a==b
 | .bl a, .int b=>(if a then 1 else 0)==b
 | .int a, .bl b=>a==(if b then 1 else 0)
 | .int a, .int b=>a==b
 | .str a, .str b=>a==b
 |_,_=>false
def oJ(x:V)(xs:List V):Bool:=xs.any fun y=>S1 y x
def U8(K:PySem.W.Frag)(neg:Bool):R2:=fun x y H Q=>∃p xs,y= .ref p/\(aW K H p xs\/fY K H p xs)/\HW x=true/\xs.all HW=true/\Q (.bl (if neg then !oJ x xs else oJ x xs)) H
theorem DH:eV X (.builtin "len") (fun xs H Q=>∃p ys,xs=[.ref p]/\(aW X.K H p ys\/fY X.K H p ys)/\Q (.int ys.length) H):=by
 intro pins s σ H xs us Q I r h
 obtain⟨p,ys,rfl,hq,q⟩:=h
 obtain⟨u,rfl,rx⟩:=vals1 r
 cases rx
 have hn:=pO
 rcases hq with hq|hq
 ·obtain⟨its,r',pl,hz⟩:=I.list hq
  have hlen:=r'.length
  exact Calls.call_len_list pl.isList (by simp only[dO]<;>omega) ⟨.int ys.length,H,I.tok _,⟨s.toks+1,by rw[dO,hlen]⟩,q⟩
 ·obtain⟨its,r',pl,hz⟩:=I.tuple hq
  have hlen:=r'.length
  exact len_tuple pl (by simp only[dO]<;>omega) ⟨.int ys.length,H,I.tok _,⟨s.toks+1,by rw[dO,hlen]⟩,q⟩
theorem M8:eV X (.type "list") (fun xs H Q=>∃p ys,xs=[.ref p]/\(aW X.K H p ys\/fY X.K H p ys)/\∀l,H l=none->Q (.ref l) (upd H l (.lst ys))):=by
 intro pins s σ H xs us Q I r h
 obtain⟨p,ys,rfl,hq,q⟩:=h
 obtain⟨u,rfl,rx⟩:=vals1 r
 cases rx
 have fin:∀(its:List Value),Vals ys its->ys.length<=sizeLine->∀(h':Heap) (c':Nat),(∀b o',s.heap.get? b=some o'->h'.get? b=some o')->
   h'.get? s.heap.objs.size=some {cls:= .type "list",dict:=none,data:= .seq its.toArray c',slots:= #[]}->EP X pins σ Q (.ref s.heap.objs.size) {s with heap:=h'}:=fun its r' hz h' c' kp e=>
  ⟨.ref s.heap.objs.size,_,I.laid (t':=s.toks) kp (aI _) (show bT X.prog X.w _ h' _ (.lst ys) from⟨hz,its,c',r',e⟩),rfl,q _ (I.hok.fresh (aI _))⟩
 rcases hq with hq|hq
 ·obtain⟨its,r',pl,hz⟩:=I.list hq
  have hlen:=r'.length
  obtain⟨o,ho,hc,n,hd⟩:=pl.isList
  exact call_list_seq p (.inl rfl) ho hc hd (fun h' c' kp e=>fin its r' hz h' c' kp e) (by simp only[dO]<;>omega)
 ·obtain⟨its,r',pl,hz⟩:=I.tuple hq
  have hlen:=r'.length
  obtain⟨o,ho,hc,n,hd⟩:=pl
  exact call_list_seq p (.inr rfl) ho hc hd (fun h' c' kp e=>fin its r' hz h' c' kp e) (by simp only[dO]<;>omega)
def oO(K:PySem.W.Frag)(T:String)(x:V)(H:Hp):Prop:=match x with
 | .str _=>T="str"
 | .int _=>T="int"
 | .ref p => (T = "list" /\ ∃ xs, aW K H p xs) \/ (T = "tuple" /\ ∃ o, K.lookup p = some o /\ o.cls = .type "tuple" /\ o.dict = none) \/
   (T="dict" /\((∃kvs,H p=some (.dK kvs))\/(∃kvs,H p=some (.dT kvs))\/∃o kvs,H p=some (.bY o (.dK kvs))))\/(T="set" /\∃S n,H p=some (.set S n))
 |_=>False
theorem GU{pins:List (Addr×Obj)}{σ:St}{H:Hp}{s:Shared}{T:String}{x:V}{v:Value}(I:Inv X pins σ H s)(r:RelV x v)(ty:oO X.K T x H):
    s.TypeIs v T/\∀a,v= .ref a->∃ob,s.heap.get? a=some ob/\ob.dict=none:=by
  cases x with
  | str z =>
    obtain⟨t,rfl⟩:=r
    cases (show T="str" from ty)
    exact⟨typeIs_str s z t,fun _ e=>nomatch e⟩
  | int i =>
    obtain⟨t,rfl⟩:=r
    cases (show T="int" from ty)
    exact⟨typeIs_int s i t,fun _ e=>nomatch e⟩
  | ref p =>
    cases r
    rcases ty with ⟨rfl,xs,hq⟩|⟨rfl,o,hk,hc,hd⟩|⟨rfl,hk⟩|⟨rfl,S,n,hk⟩
    · obtain⟨its,_,pl,_⟩:=I.list hq
      refine⟨pl.isList.typeIs,fun a e=>?_⟩
      cases e
      obtain⟨o,n,e,c,hd,_⟩:=pl
      exact⟨o,e,hd⟩
    · refine⟨⟨o,I.eB p o hk,hc⟩,fun a e=>?_⟩
      cases e
      exact⟨o,I.eB _ o hk,hd⟩
    · have z:∃o,s.heap.get? p=some o/\o.ExactDict:=by
        rcases hk with ⟨kvs,hk⟩|⟨kvs,hk⟩|⟨ob,kvs,hk⟩
        · obtain⟨_,_,_,_,o,_,_,e,ex,_⟩:=I.hok p _ hk
          exact⟨o,e,ex⟩
        · obtain⟨_,_,_,_,o,_,_,e,ex,_⟩:=I.hok p _ hk
          exact⟨o,e,ex⟩
        · obtain⟨_,_,_,_,_,o,_,_,e,ex,_⟩:=I.hok p _ hk
          exact⟨o,e,ex⟩
      obtain⟨o,e,ex⟩:=z
      refine⟨⟨o,e,ex.1⟩,fun a e2=>?_⟩
      cases e2
      exact⟨o,e,ex.2.1⟩
    · obtain⟨o,_,_,_,e,ex,_⟩:=I.hok p _ hk
      refine⟨⟨o,e,ex.1⟩,fun a e2=>?_⟩
      cases e2
      exact⟨o,e,ex.2.1⟩
  |_=>exact False.elim ty
def Hz(K:PySem.W.Frag)(T:String)(r:V->List V->Hp->VK->Prop)(to:TE):TE:=fun σ H Q=>to σ H fun x H1=>oO K T x H1/\r x [] H1 Q
def qb(K:PySem.W.Frag)(T:String)(r:V->List V->Hp->VK->Prop)(to:TE)(t:TA):TE:=fun σ H Q=>to σ H fun x H1=>oO K T x H1/\t σ H1 fun xs H2=>r x xs H2 Q
variable{o e:Expr}{es:List Expr}{to:TE}{t:TA}{name:Str}{apos cpos:Pos}{T id:String}{r:V->List V->Hp->VK->Prop}
theorem RY(pa:PlainAttrs T)(slot:Slot T name id)(hty:typeOf (.builtin id)=pure (.type "method_descriptor"))(hm:qc X id r)(ho:PE X o to)
  (hbase:attributeBase o name X.env (eval o X.env)=eval o X.env:=by rfl) (hline:(apos.endLine==cpos.line)=true:=by rfl):PE X (.Call (.Attribute o name apos) [] [] cpos) (Hz X.K T r to):=by
 intro pins s σ H Q I h
 refine wpAny_Call_method0_late hbase hline (aT (ho pins s σ H _ I h) fun v s1 ⟨x,H1,I1,r1,ty,q1⟩=>?_)
 obtain⟨h1,h2⟩:=GU I1 r1 ty
 exact⟨T,id,pa,slot,hty,h1,h2,Calls.callWith_builtin rfl (PySem.evalArgs_none (hm pins s1 σ H1 x [] v [] Q I1 r1 .nil q1))⟩
theorem jm(pa:PlainAttrs T)(slot:Slot T name id)(hty:typeOf (.builtin id)=pure (.type "method_descriptor"))(hm:qc X id r)(ho:PE X o to)(ha:PA X (e::es) t)
  (hbase:attributeBase o name X.env (eval o X.env)=eval o X.env:=by rfl)
  (hfew : ((backTo cpos (starEach (e :: es) X.env)).all (fun x => !x.1) && (backToKw cpos (keywordEach [] X.env)).all (fun x => x.1.isSome)
   && decide ((e::es).length+([]:List Keyword).length+(if([]:List Keyword).isEmpty then 0 else 1)<30))=true:=by rfl)
  (hline:(apos.endLine==cpos.line)=true:=by rfl) (hs:starEach (e::es) X.env=(false,eval e X.env)::starEach es X.env:=by rfl) (hplain:(backTo cpos (starEach es X.env)).any (·.1)=false:=by rfl):
  PE X (.Call (.Attribute o name apos) (e::es) [] cpos) (qb X.K T r to t):=by
 intro pins s σ H Q I h
 refine wpAny_Call_method_late hbase hfew hline rfl (aT (ho pins s σ H _ I h) fun v s1 ⟨x,H1,I1,r1,ty,q1⟩=>?_)
 obtain⟨h1,h2⟩:=GU I1 r1 ty
 refine⟨T,id,pa,slot,hty,h1,h2,?_⟩
 have hA:=ha cpos pins s1 σ H1 _ I1 q1
 rw[hs] at hA⊢
 refine Calls.callWith_builtin (by show(false||(backTo cpos (starEach es X.env)).any (·.1))=false;rw[hplain]<;>rfl) (Calls.evalArgs_plain ?_)
 exact aT hA fun us s2 ⟨vs,H2,I2,r2,q2⟩=>hm pins s2 σ H2 x vs v us Q I2 r1 r2 q2
/-xs.append(e),list.index on a module's tuple .. are qc facts of 06m-/
end
def CI(X:Cx)(id:String)(r:V->List V->Hp->VK->Prop):Prop:=
 ∀(pins:List (Addr×Obj)) (s:Shared) (σ:St) (H:Hp) (x:V) (xs:List V) (v:Value) (us:List Value) (Q:VK),Inv X pins σ H s->RelV x v->Vals xs us->r x xs H Q->
  wpAny (model X.prog X.w) X.A (call (.builtin id) (v::us)) (EP X pins σ Q) X.xe s
theorem Vals.one{x:V}{us:List Value}(h:Vals [x] us):∃u,us=[u]/\RelV x u:=by
 cases h with
 |cons r t=>cases t;exact⟨_,rfl,r⟩
theorem Vals.two{x y:V}{us:List Value}(h:Vals [x,y] us):∃u v,us=[u,v]/\RelV x u/\RelV y v:=by
  cases h with
  | cons r t =>
    obtain⟨v,e,q⟩:=Vals.one t
    exact⟨_,v,by rw[e],r,q⟩
theorem Vals.dropLast{xs:List V}{us:List Value}(h:Vals xs us):Vals xs.dropLast us.dropLast:=by
  induction h with
  |nil=>exact .nil
  | cons r t ih =>
    cases t with
    |nil=>exact .nil
    |cons q t'=>exact .cons r ih
section
variable{X:Cx}{pins:List (Addr×Obj)}{σ:St}{H:Hp}{s:Shared}{l b:Addr}{xs ys zs:List V}
theorem Inv.HK{its its':List Value}{n:Nat}{f:Array Value->Array Value}{t':Nat}(I:Inv X pins σ H s)(hH:H l=some (.lst xs))
  (e:s.heap.get? l=some {cls:= .type "list",data:= .seq its.toArray n}) (hf:f its.toArray=its'.toArray) (hv:Vals ys its') (hz:ys.length<=sizeLine):
  Inv X pins σ (upd H l (.lst ys)) {s with heap:=s.heap.update l (Obj.mapSeq f),toks:=t'}:=by
 have q:=PySem.IsL.update e f
 rw[hf] at q
 refine I.write (x:=l) (e:=l) (by rw[hH];exact trivial) (.inl rfl) (fun b' u hb hu=>(j7 s.heap (Obj.mapSeq f) (bM hb)).trans hu) ⟨_,q⟩ ?_
 exact⟨hz,its',_,hv,q⟩
theorem Inv.Gi{its:List Value}{t':Nat}(I:Inv X pins σ H s)(hv:Vals ys its)(hz:ys.length<=sizeLine):
  Inv X pins σ (upd H s.heap.objs.size (.lst ys)) {s with heap:=s.heap.push {cls:= .type "list",data:= .seq its.toArray},toks:=t'}:=
 I.laid (fun _ _ q=>bV _ q) (aI _) ⟨hz,its,0,hv,fN _ rfl⟩
theorem Inv.fresh(I:Inv X pins σ H s):H s.heap.objs.size=none:=I.hok.fresh (aI _)
theorem Inv.qX(I:Inv X pins σ H s)(hH:H l=some (.lst xs)):xs.length<=sizeLine/\∃(its:List Value) (n:Nat),Vals xs its/\xs.length=its.length/\s.heap.get? l=some {cls:= .type "list",data:= .seq its.toArray n}:=by
 obtain⟨z,its,n,r,e⟩:=I.hok l _ hH
 exact⟨z,its,n,r,r.length,e⟩
theorem Q4{n:Nat}(h:n<=sizeLine):Builtin.List.listTooLong n=false:=by
 unfold Builtin.List.listTooLong
 exact decide_eq_false (by omega)
end
section
variable{X:Cx}
def Cj:V->List V->Hp->VK->Prop:=fun x vs H Q=>∃l xs y,x= .ref l/\vs=[y]/\H l=some (.lst xs)/\xs.length<sizeLine/\Q .aM (upd H l (.lst (xs++[y])))
theorem jO:CI X "list.append" Cj:=by
 intro pins s σ H x vs v us Q I rx rv h
 obtain⟨l,xs,y,rfl,rfl,hH,hz,q⟩:=h
 cases rx
 obtain⟨u,rfl,ru⟩:=rv.one
 obtain⟨z,its,n,r,hl,e⟩:=I.qX hH
 refine call_meets F.slot_list_append ⟨_,e,rfl⟩ F.entry_list_append (F.args_list_append_2 _ _) (PySem.list_append l its.toArray n u (by rw[dO];omega)) ⟨e,?_⟩
 refine⟨.aM,_,I.HK (its':=its++[u]) hH e (by simp) (r.append (.cons ru .nil)) ?_,rfl,q⟩
 rw[bP,fE]
 omega
def UW:V->List V->Hp->VK->Prop:=fun x vs H Q=>∃l b xs zs,x= .ref l/\vs=[.ref b]/\H l=some (.lst xs)/\H b=some (.lst zs)/\xs.length+zs.length<=sizeLine/\Q .aM (upd H l (.lst (xs++zs)))
theorem WJ:CI X "list.extend" UW:=by
 intro pins s σ H x vs v us Q I rx rv h
 obtain⟨l,b,xs,zs,rfl,rfl,hH,hB,hz,q⟩:=h
 cases rx
 obtain⟨u,rfl,ru⟩:=rv.one
 cases ru
 obtain⟨z,its,n,r,hl,e⟩:=I.qX hH
 obtain⟨z2,its2,n2,r2,hl2,e2⟩:=I.qX hB
 have hsz:its.toArray.size+its2.toArray.size<=sizeLine:=by rw[dO,dO];omega
 have J9:¬(!its.toArray.isEmpty && Builtin.List.listTooLong (its.toArray.size+its2.toArray.size))=true:=by
  rw[Q4 hsz,Bool.and_false]
  exact dh
 refine call_meets F.slot_list_extend ⟨_,e,rfl⟩ F.entry_list_extend (F.args_list_extend_2 _ _)
  (AutoSeq1.list_extend_list_list_0 l its.toArray n b its2.toArray n2 J9 (by rw[dO];omega) (by omega)) ⟨e,e2,?_⟩
 refine⟨.aM,_,I.HK (its':=its++its2) hH e (by simp) (r.append r2) ?_,rfl,q⟩
 rw[bP]
 omega
def yt:R2:=fun x y H Q=>∃l b xs zs,x= .ref l/\y= .ref b/\H l=some (.lst xs)/\H b=some (.lst zs)/\xs.length+zs.length<=sizeLine/\∀p,H p=none->Q (.ref p) (upd H p (.lst (xs++zs)))
theorem jt:dZ X (binaryOp .Add) yt:=by
 intro pins s σ H x y v u Q I rx ry h
 obtain⟨l,b,xs,zs,rfl,rfl,hH,hB,hz,q⟩:=h
 cases rx
 cases ry
 obtain⟨z,its,n,r,hl,e⟩:=I.qX hH
 obtain⟨z2,its2,n2,r2,hl2,e2⟩:=I.qX hB
 refine PySem.P.add_list e e2 ?_ (by rw[dO,dO];omega)
 have ea:its.toArray++its2.toArray=(its++its2).toArray:=by simp
 rw[ea]
 exact⟨.ref _,_,I.Gi (t':=s.toks) (r.append r2) (by rw[bP];omega),rfl,q _ I.fresh⟩
end
end L2
namespace Att
open PySem PySem.W PySem.Calls PyProof.Rows
theorem UU{P:Params}{h:Heap}:∀(ns:List Int) (vs:List Value),WellAll P h vs (ns.map WData.int)->IntsAre vs ns:=by
  intro ns
  induction ns with
  | nil =>
    intro vs w
    rw[pW] at w
    cases w
    exact .nil
  | cons n ns ih =>
    intro vs w
    rw[bR] at w
    cases w with
    | cons a b =>
      cases a
      exact .cons _ _ (ih _ b)
theorem M7{l:OpenLaw}{n:Nat}(hn:l.most=some n){P:Params}{h:Heap}{args:List WData}{vals:List Value}
    (hpre:l.row.toRowW.claim.pre args=true) (hwl:WellAll P h vals args):
    ∃a vs ns,vals=[Value.ref a]/\args=[WData.list (ns.map WData.int)]/\h.get? a=some {cls:= .type "list",data:= .seq vs.toArray}/\IntsAre vs ns/\ns.length<=n:=by
  have hsh:WShape.hasAll [] args [.list .int]=true:=(pre_splitW hpre).1
  have hc:l.pre.holds [] {args:=args}=true:=(pre_splitW hpre).2
  obtain⟨d,r,rfl,h1,h2⟩:=hasAllW_cons hsh
  obtain rfl:=hasAllW_nil h2
  obtain⟨xs,rfl,h3⟩:=hasW_list h1
  obtain⟨ns,rfl⟩:=items_int h3
  have hlen:ns.length<=n:=by
    unfold OpenLaw.pre at hc
    have h4:(WTm.not (.lt (.lit (.int (n:Int))) (.len (.arg 0)))).holds [] {args:=[.list (ns.map .int)]}=true:=by
      have h4:=(holds_andW hc).1
      rw[hn] at h4
      exact h4
    have h5:=condW_of h4 (w_not (w_lt w_lit (w_len_list (w_arg rfl))))
    rw[ak] at h5
    refine yF fun q=>?_
    have q':(n:Int)<((ns.length:Nat):Int):=by omega
    first
      |(rw[decide_eq_true q'] at h5;exact absurd h5 (by decide))
      |(simp at h5;omega)
  cases hwl with
  | cons w1 w2 =>
    cases w2
    cases w1 with
    |list ho hall=>exact⟨_,_,ns,rfl,rfl,ho,UU ns _ hall,hlen⟩
theorem Nz(l:OpenLaw)(args:List WData):l.row.toRowW.claim.post args (.bool true) args=true:=
 postW_of (r:=l.row.toRowW) (X:=(true==true))
  (show WShape.has [] (.bool true) .bool=true by first|rfl|decide|simp[WShape.has,WShape.arms,WShape.armsAll])
  (show(WTm.eq .res (.lit (.bool true))).value [] {args:=args,res:=some (.bool true),after:=args}=some (.bool (true==true)) from w_eq_bool (w_res rfl) w_lit) rfl
theorem T8{l:OpenLaw}{n:Nat}{q:Program}{loose:List Str}{XP:(Str->Option Value)->Heap->Prop}{YP:World->Heap->Prop}{d:DefRec}
  (hn:l.most=some n) (hdf:d.params.defaults=[])
  (call : ∀ (w : World) (s₀ s₁ : Shared) (mg mb : Str -> Option Value) (fa : Addr) (o : Obj) (pm cd doc : Value) (a : Addr) (vs : List Value) (ns : List Int),
   Ground q loose [] XP w s₀ mg mb s₁.heap->YP w s₁.heap->
   s₁.heap.get? fa=some o->o.data= .func (docDef d.name d.params d.body d.scope pm cd doc)->s₁.heap.CodeRec cd d.name->mg d.name=some (.ref fa)->
   s₁.heap.get? a=some {cls:= .type "list",data:= .seq vs.toArray}->IntsAre vs ns->ns.length<=n->s₁.gens= #[]->
   codeAny (model l.prog w) callerA (.call (.ref fa) ⟨[.ref a],[]⟩) (fun r s'=>r= .ok (.ret (.bool true))/\OldK s₁.heap s'.heap/\s'.os=s₁.os/\AllBare s'.gens) s₁):
  WalkO q loose XP YP l.row.toRowW d [] (fun f vs=>PySem.call f vs):=by
 intro w s₀ s₁ mg mb G Y fa o pm cd doc dV kV ho hd hcd hD hmg hg args vals as hpre hlay hrd hwl hlo
 obtain rfl:dV= .none:=Dflts.none hD hdf
 obtain rfl:kV= .none:=Dflts.noKw hD
 obtain⟨a,vs,ns,rfl,rfl,hobj,hints,hlen⟩:=M7 hn hpre hwl
 refine enter_call (codeAny_mono (call w s₀ s₁ mg mb fa o pm cd doc a vs ns G Y ho (fd_plain hd) hcd hmg hobj hints hlen hg) fun r s' hq=>?_)
 obtain⟨rfl,h2,h3,h4⟩:=hq
 exact⟨.inl ⟨.bool true, .bool true,[],rfl,fun _=>rfl, .bool true,Nz l _,fun _=>⟨List.Pairwise.nil,fun _ hm=>(nomatch hm)⟩⟩,h2,h3,h4⟩
section
variable{prog:Program}{w:World}{A:Around}{E:Value->Shared->Prop}{s:Shared}{K:Frag}
def ledger(h:Heap)(L d:Addr):List (Addr×Obj):=(List.range h.objs.size).filterMap fun a=>if a=L\/a=d then none else(h.get? a).map fun o=>(a,o)
end
end Att
namespace L2
open PySem PySem.Spec PyProof.Rows
theorem CH:∀{vs:List Value} {ns:List Int},IntsAre vs ns->Vals (ns.map V.int) vs
 |_,_, .nil=> .nil
 |_,_, .cons n t h=> .cons ⟨t,rfl⟩ (CH h)
def z0(H:Hp):Prop:=∀b,H b=none\/∃o xs,H b=some (.bY o (.lst xs))
theorem KW{P:Program}{w:World}{K:PySem.W.Frag}{mg mb:Str->Option Value}{CX:jX}{k:Nat}{fa a:Addr}{fd:FuncData}{x:Str}{sp:Sp}{s₁:Shared}{vs:List Value}{ns:List Int}
    (KX:K.In s₁.heap) (hns:s₁.heap.Ns mainGlobals mg) (hb:s₁.heap.Ns builtinsNs mb) (Dr:∀x:Str,x≠"__name__" ->mb x=bootBuiltins x) (hlim:s₁.heap.NoLimit) (hg:s₁.gens= #[])
    (ha:s₁.heap.get? a=some {cls:= .type "list",data:= .seq vs.toArray}) (hi:IntsAre vs ns) (hl:ns.length<=sizeLine) (hr:gp k callerA)
    (F:∀base:Heap,K.In base->base.Ns mainGlobals mg->bG P w K mg base CX k fa fd [x] sp) (hbind:∀(s:Shared) (u:Value),BindsTo s fd ⟨[u],[]⟩ [(x,u)])
    (lK:∀H:Hp,z0 H->aW K H a (ns.map V.int)->sp [.ref a] H (fun v _=>v= .bl true) fun _ _ _=>False)
    (vV:∀H e s',CX [] H s₁ (fun _ _ _=>False) e s'->False):
    codeAny (model P w) callerA (.call (.ref fa) ⟨[.ref a],[]⟩) (fun r s'=>r= .ok (.ret (.bool true))/\OldK s₁.heap s'.heap/\s'.os=s₁.os/\AllBare s'.gens) s₁:=by
  have rv:=CH hi
  have LW:=hi.length
  have core:∀H:Hp,z0 H->aW K H a (ns.map V.int)->c8 P w H s₁.heap->(∀b,H b≠none->b=a)->(H a≠none->K.lookup a=none)->
      codeAny (model P w) callerA (.call (.ref fa) ⟨[.ref a],[]⟩) (fun r s'=>r= .ok (.ret (.bool true))/\OldK s₁.heap s'.heap/\s'.os=s₁.os/\AllBare s'.gens) s₁:=by
    intro H hO hS hok hA hK
    have Gn:∀{b:Addr} {o:Obj},s₁.heap.get? b=some o->H b=none->(kO s₁.heap H).get? b=some o:=fun e n=>OJ e n
    have qC:∀{b:Addr} {o:Obj} {es:Array DictEntry} {ep:Nat},s₁.heap.get? b=some o->o.data= .dict es ep->H b=none:=fun{b o es ep} e d=>by
      cases q:H b with
      |none=>rfl
      | some u =>
        have e':b=a:=hA b (by rw[q];simp)
        subst e'
        rw[ha] at e;cases e
        have d':Data.seq vs.toArray _=Data.dict es ep:=d
        cases d'
    have uv:∀{b:Addr} {m:Str->Option Value},s₁.heap.Ns b m->(kO s₁.heap H).Ns b m:=fun{b m} ⟨o,es,ep,e,d,r⟩=>⟨o,es,ep,Gn e (qC e d),d,r⟩
    have Ho:K.In (kO s₁.heap H):=fun b o e=>Gn (KX b o e) (by
      cases q:H b with
      |none=>rfl
      | some u =>
        have e':b=a:=hA b (by rw[q];simp)
        subst e'
        rw[hK (by rw[q];simp)] at e;cases e)
    have hM:Mod K mg (kO s₁.heap H):=⟨Ho,uv hns,⟨mb,uv hb,Dr⟩,let ⟨mc,h1,h2⟩:=hlim;⟨mc,uv h1,h2⟩⟩
    have e0:vh P w K mg (kO s₁.heap H) callerA [] s₁ H:=⟨rfl,hM,fun b o e=>PL e,uG (Ua _ _),trivial,fun b hb=>absurd (show b∈([]:List Addr) from hb) (by simp),hok, .of_eq hg⟩
    refine codeAny_mono ((F _ Ho (uv hns)).run callerA [] s₁ H ⟨[.ref a],[]⟩ [.ref a] [.ref a] _ _ hr e0 (hbind s₁ (.ref a)) (.cons rfl .nil) (lK H hO hS)) fun r s' h=>?_
    cases r with
    |error e=>exact(vV H e s' h).elim
    | ok fl =>
      cases fl with
      |next=>exact False.elim h
      |brk=>exact False.elim h
      |cont=>exact False.elim h
      | ret u =>
        obtain⟨v,H',os,bare,un,LP,r',q⟩:=h
        have q':v= .bl true:=q
        subst q'
        obtain rfl:u=Value.bool true:=r'
        refine⟨rfl,OldK.of_keep fun b o e=>?_,os,bare⟩
        cases q:H b with
        |none=>exact un.keep b o e q (by intro z;exact absurd (show b∈([]:List Addr) from z) (by simp)) (by simp)
        | some u =>
          rcases hO b with z|⟨ob,xs,z⟩
          · rw[q] at z;cases z
          · have z2:=un.jU b ob _ z
            obtain⟨e1,_⟩:=hok b _ z
            obtain⟨e2,_⟩:=LP b _ z2
            rw[e] at e1;cases e1
            exact e2
  cases hk:K.lookup a with
  | some o =>
    have e:=KX a o hk
    rw[ha] at e
    cases e
    refine core (fun _=>none) (fun _=> .inl rfl) (.inr ⟨_,vs.toArray,_,hk,rfl,rfl,rfl,by rw[dO,LW];exact hl,by simpa using rv⟩) (fun b u z=>by have z':(none:Option HO)=some u:=z;cases z') (fun b z=>absurd rfl z) fun z=>absurd rfl z
  | none =>
    refine core (fun b=>if b=a then some (.bY {cls:= .type "list",data:= .seq vs.toArray} (.lst (ns.map V.int))) else none) (fun b=>?_) (.inl (.inr ⟨{cls:= .type "list",data:= .seq vs.toArray},if_pos rfl⟩)) (fun b u z=>?_) (fun b z=>?_) fun _=>hk
    · by_cases hb:b=a
      · exact .inr ⟨_,_,if_pos hb⟩
      · exact .inl (if_neg hb)
    · by_cases hb:b=a
      · have z':=(if_pos hb).symm.trans z
        cases z'
        subst hb
        exact⟨ha,by rw[ak];exact hl,vs,_,rv,ha⟩
      · have z':=(if_neg hb).symm.trans z
        cases z'
    · by_cases hb:b=a
      · exact hb
      · exact absurd (if_neg hb) z
theorem La{l:PySem.W.OpenLaw}{n k:Nat}{q:Program}{loose:List Str}{XP:(Str->Option Value)->Heap->Prop}{YP:World->Heap->Prop}{d:DefRec}{K:Params->PySem.W.Frag}{CX:World->jX}{sp:World->Sp}{x:Str}
  (hn:l.most=some n) (hn2:n<=sizeLine) (hdf:d.params.defaults=[]) (hr:gp k callerA)
  (hY:∀(w:World) (h:Heap),YP w h->(K w.params).In h)
  (F : ∀ (w : World) (mg : Str -> Option Value) (fa : Addr) (h : Heap), (K w.params).In h -> h.Ns mainGlobals mg -> mg d.name = some (.ref fa) ->
   ∃fd:FuncData,(∀(s:Shared) (u:Value),BindsTo s fd ⟨[u],[]⟩ [(x,u)])/\
    ∀base:Heap,(K w.params).In base->base.Ns mainGlobals mg->bG l.prog w (K w.params) mg base (CX w) k fa fd [x] (sp w))
  (lK:∀(w:World) (H:Hp) (a:Addr) (ns:List Int),ns.length<=n->z0 H->aW (K w.params) H a (ns.map V.int)->sp w [.ref a] H (fun v _=>v= .bl true) fun _ _ _=>False)
  (vV:∀(w:World) (H:Hp) (s:Shared) (e:Value) (s':Shared),CX w [] H s (fun _ _ _=>False) e s'->False):
  PySem.W.WalkO q loose XP YP l.row.toRowW d [] (fun f vs=>PySem.call f vs):=by
 refine Att.T8 hn hdf fun w s₀ s₁ mg mb fa o pm cd doc a vs ns G Y ho hd hcd hmg hobj hints hlen hg=>?_
 have KX:=hY w _ Y
 obtain⟨fd,hb,hF⟩:=F w mg fa _ KX G.T.g hmg
 exact KW KX G.T.g G.T.b G.T.builtins G.T.nolimit hg hobj hints (ez hlen hn2) hr hF hb (fun H hO hS=>lK w H a ns hlen hO hS) fun H e s'=>vV w H s₁ e s'
end L2
/-THE LAST THEOREM (shape;LID,My.*are yours):
   My.Adr:a structure of the addresses that your layer names (classes,functions);My.Txt K t:a structure (Prop) of the equations over K;
   My.txt_mk:{K} {implicit addresses ..} (e1:nsIn K mainGlobals "law"=some (some (.ref f))) (e2:K.lookup f=some ⟨oc,od, .func (fnOf "law" "law" params body scope dV kV doc pm an cdv ct),sl⟩) (e3:codeIn K cdv "law"=true) .. :∃t,My.Txt K t
set_option maxRecDepth 100000 in
set_option maxHeartbeats 0 in
(the tactic k_is has no namespace:write k_is)-/
namespace L2
open PySem PySem.Spec PyProof.Rows
def mV(s:Stmt):Arguments:=match s with
 | .FunctionDef _ a _ _ _ _ _ _ _ _=>a
 |_=>{posonlyargs:=[],args:=[],vararg:=none,kwonlyargs:=[],kw_defaults:=[],kwarg:=none,defaults:=[]}
def mq(s:Stmt):List Stmt:=match s with
 | .FunctionDef _ _ b _ _ _ _ _ _ _=>b
 |_=>[]
def aN(s:Stmt):Scope:=match s with
 | .FunctionDef _ _ _ _ _ _ sc _ _ _=>sc
 |_=>{kind:= .function,names:=[],isGenerator:=false,isCoroutine:=false}
abbrev bN:jX:=fun _ _ _ _ _ _=>False
abbrev E0:XK:=fun _ _ _=>False
theorem Mr{X:Cx}:Passes bN X E0:=fun _ _ _ _ _ _ _ h=>h.elim
structure bL(K:PySem.W.Frag)(x qual:Str)(st:Stmt)(f:Addr)(fd:FuncData):Prop where
 ex:∃(oc:Value) (od:Option Addr) (kV doc pm:Value) (an:Option Addr) (cdv ct:Value) (osl:Array (Option Value)),
  fd=PySem.W.fnOf x qual (mV st) (mq st) (aN st) .none kV doc pm an cdv ct/\K.lookup f=some ⟨oc,od, .func fd,osl⟩/\PySem.W.codeIn K cdv qual=true
 kp:PySem.W.keepIn K (.ref f)=true
section
variable{P:Program}{w:World}{K:PySem.W.Frag}{mg:Str->Option Value}{base:Heap}
theorem bL.ok{x qual:Str}{st:Stmt}{f:Addr}{fd:FuncData}{N ps:List Str}{k:Nat}{sp:Sp}(F:bL K x qual st f fd)(S:cz N ps (aN st))(len:∀vs H Q E,sp vs H Q E->vs.length=ps.length)
  (hbody : ∀ (cdv : Value) (A : Around) (outer : List Env) (s : Shared) (H : Hp) (vs : List V) (Q : VK) (E : XK), gp k (A.deeper (envOfC qual (aN st) s.heap.objs.size f cdv)) -> sp vs H Q E ->
   ∃t,i7 (pU bN P w K mg base N qual (aN st) f cdv A outer s H E).tF (mq st) t/\t {nx:=fun _ H'=>Q .aM H',rt:=Q} (start N vs) H):bG P w K mg base bN (k+1) f fd ps sp:=by
 obtain⟨oc,od,kV,doc,pm,an,cdv,ct,osl,rfl,lk,hcd⟩:=F.ex
 refine Su lk hcd S len fun A outer s H vs Q E hr lK=>?_
 obtain⟨t,h,q⟩:=hbody cdv A outer s H vs Q E hr lK
 exact⟨t,h.tF,q⟩
theorem bL.binds{x qual:Str}{st:Stmt}{f:Addr}{fd:FuncData}{ps:List Str}(F:bL K x qual st f fd)
  (h:∀(kV doc pm:Value) (an:Option Addr) (cdv ct:Value) (us:List Value),us.length=ps.length->bindArgs (PySem.W.fnOf x qual (mV st) (mq st) (aN st) .none kV doc pm an cdv ct) ⟨us,[]⟩=pure (ps.zip us)):Binds K fd ps []:=by
 obtain⟨oc,od,kV,doc,pm,an,cdv,ct,osl,rfl,lk,hcd⟩:=F.ex
 exact .all (h kV doc pm an cdv ct)
theorem Hj{x qual:Str}{st:Stmt}{f:Addr}{oc:Value}{od an:Option Addr}{osl:Array (Option Value)}{kV doc pm cdv ct:Value}(l:K.lookup f=some ⟨oc,od, .func (PySem.W.fnOf x qual (mV st) (mq st) (aN st) .none kV doc pm an cdv ct),osl⟩)
  (c:PySem.W.codeIn K cdv qual=true) (k:PySem.W.keepIn K (.ref f)=true):bL K x qual st f (PySem.W.fnOf x qual (mV st) (mq st) (aN st) .none kV doc pm an cdv ct):=⟨⟨oc,od,kV,doc,pm,an,cdv,ct,osl,rfl,l,c⟩,k⟩
end
theorem Ge{n:Nat}(h:n<=1000):n<sizeLine:=B6 h (by decide)
section
variable{X:Cx}
theorem pv(i:Nat){x:Str}{pos:Pos}(hN:X.N[i]?=some x:=by rfl)(hv:xq X.env.scope x:=by first|exact Or.inl rfl|exact Or.inr (Or.inl rfl)|exact Or.inr (Or.inr rfl))(hd:(x==("__debug__":Str))=false:=by decide)
  (hcd:(x==("__classdict__":Str))=false:=by decide):PE X (.Name x pos) (fR i):=Uz hN hv hd hcd
end
theorem GN{A B:Prop}(h:B):if false=true then A else B:=by
 rw[if_neg dh]
 exact h
theorem uQ{A B:Prop}(h:A):if true=true then A else B:=by
 rw[if_pos rfl]
 exact h
theorem ow{c A B:Prop}[Decidable c](h1:c->A)(h2:¬c->B):if c then A else B:=by
 by_cases h:c
 ·rw[if_pos h]
  exact h1 h
 ·rw[if_neg h]
  exact h2 h
def dD(H H':Hp):Prop:=∀b o,H b=some o->H' b=some o
theorem dD.refl(H:Hp):dD H H:=fun _ _ h=>h
theorem dD.trans{H H1 H2:Hp}(a:dD H H1)(b:dD H1 H2):dD H H2:=fun c o h=>b c o (a c o h)
theorem dD.free{H H':Hp}(e:dD H H'){l:Addr}(h:H' l=Option.none):H l=Option.none:=by
  cases q:H l with
  |none=>rfl
  | some o =>
    rw[e l o q] at h
    cases h
theorem dD.seq{K:PySem.W.Frag}{H H':Hp}{a:Addr}{xs:List V}(e:dD H H')(h:aW K H a xs):aW K H' a xs:=by
 rcases h with (h|⟨o,h⟩)|h
 ·exact .inl (.inl (e _ _ h))
 ·exact .inl (.inr ⟨o,e _ _ h⟩)
 ·exact .inr h
end L2
set_option maxHeartbeats 1000000
namespace L2
open PySem PySem.Spec PyProof.Rows
def i6(cells:List (Str×Addr)):List (Str×NameKind)->List (Str×Addr)->List (Str×Addr)
 |[],acc=>acc
 |(n,k)::r,acc=>i6 cells r (if k==NameKind.free then(match cells.lookup n with|some a=>(n,a)::acc|none=>acc) else acc)
theorem zQ{env:Env}{f:Str×NameKind->List (Str×Addr)->Sem (ForInStep (List (Str×Addr)))}
    (hf:∀x acc,f x acc=if(x.2==NameKind.free)=true then(do let a<-cellOf env x.1;pure (ForInStep.yield ((x.1,a)::acc))) else pure (ForInStep.yield acc)):
    ∀(l:List (Str×NameKind)) (acc:List (Str×Addr)),(∀x∈l,x.2= .free->∃a,env.cells.lookup x.1=some a)->(forIn l acc f:Sem (List (Str×Addr)))=pure (i6 env.cells l acc)
  |[],acc,_=>by rw[List.forIn_nil];rfl
  | (n, k) :: r, acc, h => by
    have hr:=fun x hx=>h x (cK _ hx)
    rw[List.forIn_cons,hf]
    by_cases hk:(k==NameKind.free)=true
    · have hk':k=NameKind.free:=by simpa using hk
      obtain⟨a,ha⟩:=h (n,k) bA hk'
      have hc:cellOf env n=pure a:=by unfold cellOf;rw[ha]
      rw[if_pos hk,hc]
      show(forIn r ((n,a)::acc) f:Sem (List (Str×Addr)))=pure (i6 env.cells r _)
      rw[zQ hf r _ hr,if_pos hk,ha]
    · rw[if_neg hk]
      show(forIn r acc f:Sem (List (Str×Addr)))=pure (i6 env.cells r _)
      rw[zQ hf r _ hr,if_neg hk]
theorem KH{scope:Scope}{env:Env}(h:∀x∈scope.names,x.2= .free->∃a,env.cells.lookup x.1=some a):closureFor scope env=pure (i6 env.cells scope.names []):=by
 simp only[closureFor]
 rw[zQ (env:=env) (fun⟨n,k⟩ acc=>by dsimp only) scope.names [] h]
 rfl
theorem AZ{cells:List (Str×Addr)}:∀{l:List (Str×NameKind)} {acc:List (Str×Addr)} {x:Str} {c:Addr},(∀y d,acc.lookup y=some d->cells.lookup y=some d)->(i6 cells l acc).lookup x=some c->cells.lookup x=some c
  |[],_,_,_,ha,h=>ha _ _ h
  | (n, k) :: r, acc, x, c, ha, h => by
    refine AZ (l:=r) ?_ h
    intro y d hd
    by_cases hk:(k==NameKind.free)=true
    · rw[if_pos hk] at hd
      cases q:cells.lookup n with
      |none=>rw[q] at hd;exact ha _ _ hd
      | some a =>
        rw[q] at hd
        by_cases hy:(y==n)=true
        · have hy':y=n:=by simpa using hy
          subst hy'
          simp[fZ] at hd
          rw[q,hd]
        · have hy':(y==n)=false:=by simpa using hy
          simp only[fZ,hy'] at hd
          exact ha _ _ hd
    · rw[if_neg hk] at hd;exact ha _ _ hd
theorem IT{cells:List (Str×Addr)}:∀{l:List (Str×NameKind)} {acc:List (Str×Addr)} {x:Str},(acc.lookup x).isSome=true->((i6 cells l acc).lookup x).isSome=true
  |[],_,_,h=>h
  | (n, k) :: r, acc, x, h => by
    refine IT (l:=r) ?_
    by_cases hk:(k==NameKind.free)=true
    · rw[if_pos hk]
      cases q:cells.lookup n with
      |none=>exact h
      | some a =>
        by_cases hy:(x==n)=true
        · simp[fZ,hy]
        · have hy':(x==n)=false:=by simpa using hy
          simp only[fZ,hy']
          exact h
    · rw[if_neg hk];exact h
theorem CU{cells:List (Str×Addr)}:∀{l:List (Str×NameKind)} {acc:List (Str×Addr)} {x:Str} {a:Addr},(x,NameKind.free)∈l->cells.lookup x=some a->((i6 cells l acc).lookup x).isSome=true
  |[],_,_,_,h,_=>nomatch h
  | (n, k) :: r, acc, x, a, h, hc => by
    rcases aK.mp h with e|h
    · obtain⟨rfl,rfl⟩:=Prod.mk.inj e
      refine IT (l:=r) ?_
      rw[if_pos (by decide),hc]
      simp[fZ]
    · exact CU (l:=r) h hc
theorem FO{cells:List (Str×Addr)}{l:List (Str×NameKind)}{x:Str}{a:Addr}(h:(x,NameKind.free)∈l)(hc:cells.lookup x=some a):(i6 cells l []).lookup x=some a:=by
 obtain⟨c,e⟩:=EX.mp (CU (acc:=[]) h hc)
 have:=AZ (fun y d (q:([]:List (Str×Addr)).lookup y=some d)=>by simp at q) e
 rw[hc] at this;cases this
 exact e
theorem BH{env:Env}:∀{l:List (Str×NameKind)} {x:Str} {k:NameKind},(∀y∈l,y.2≠ .cell)->
    (l.map fun(n,k)=>if(k==NameKind.free && env.scope.kind== .function && env.kindOf n==some .cell) then(n,NameKind.cell) else(n,k)).lookup x=some k->k= .cell\/k= .free->l.lookup x=some .free
  |[],_,_,_,h,_=>by simp at h
  | (n, q) :: r, x, k, hc, h, hk => by
    have hr:=fun y hy=>hc y (cK _ hy)
    have ih:=BH (env:=env) (l:=r) (x:=x) (k:=k) hr
    rw[bR] at h
    dsimp only at h
    by_cases hx:(x==n)=true
    · simp only[fZ,hx]
      by_cases hq:(q==NameKind.free && env.scope.kind== .function && env.kindOf n==some .cell)=true
      · have:q= .free:=by
          simp only[cP] at hq
          simpa using hq.1.1
        rw[this]
      · rw[if_neg hq] at h
        simp only[fZ,hx] at h
        have ED:q=k:=gn h
        rcases hk with e|e
        · exact absurd (ED.trans e) (hc (n,q) bA)
        · rw[ED,e]
    · have hx':(x==n)=false:=by simpa using hx
      simp only[fZ,hx']
      refine ih ?_ hk
      by_cases hq:(q==NameKind.free && env.scope.kind== .function && env.kindOf n==some .cell)=true
      · rw[if_pos hq] at h
        simp only[fZ,hx'] at h
        exact h
      · rw[if_neg hq] at h
        simp only[fZ,hx'] at h
        exact h
theorem EK{env:Env}:∀{l:List (Str×NameKind)} {x:Str},l.lookup x=some .free->
    (l.map fun(n,k)=>if(k==NameKind.free && env.scope.kind== .function && env.kindOf n==some .cell) then(n,NameKind.cell) else(n,k)).lookup x=some .cell\/
    (l.map fun(n,k)=>if(k==NameKind.free && env.scope.kind== .function && env.kindOf n==some .cell) then(n,NameKind.cell) else(n,k)).lookup x=some .free
  |[],_,h=>by simp at h
  | (n, q) :: r, x, h => by
    have ih:=EK (env:=env) (l:=r) (x:=x)
    rw[bR]
    dsimp only
    by_cases hx:(x==n)=true
    · simp only[fZ,hx] at h
      by_cases hq:(q==NameKind.free && env.scope.kind== .function && env.kindOf n==some .cell)=true
      · rw[if_pos hq]
        left
        simp only[fZ,hx]
      · rw[if_neg hq]
        right
        simp only[fZ,hx]
        exact h
    · have hx':(x==n)=false:=by simpa using hx
      simp only[fZ,hx'] at h
      have:=ih h
      by_cases hq:(q==NameKind.free && env.scope.kind== .function && env.kindOf n==some .cell)=true
      · rw[if_pos hq]
        simp only[fZ,hx']
        exact this
      · rw[if_neg hq]
        simp only[fZ,hx']
        exact this
def eS(sx:Scope)(NX:List Str)(scope:Scope)(N:List Str)(mp:List (Option Nat)):Bool:=
 (scope.kind== .function) && scope.names.all (fun y=>y.2 != .cell) && scope.names.all (fun y=>y.2 != .local||scope.names.lookup y.1==some .local) &&
 scope.names.all (fun y=>y.2 != .free||sx.names.lookup y.1==some .cell||sx.names.lookup y.1==some .free) &&(mp.length==N.length) &&
 ((N.zip mp).all fun p=>match p.2 with|none=>true|some j=>NX[j]?==some p.1 && scope.names.lookup p.1==some .free)
structure cQ(sx:Scope)(NX:List Str)(scope:Scope)(N:List Str)(mp:List (Option Nat)):Prop where
 kind:scope.kind= .function
 cell:∀y∈scope.names,y.2≠ .cell
 names:∀y∈scope.names,y.2= .local->scope.names.lookup y.1=some .local
 free:∀y∈scope.names,y.2= .free->sx.names.lookup y.1=some .cell\/sx.names.lookup y.1=some .free
 len:mp.length=N.length
 look:∀(i j:Nat) (x:Str),mp[i]?=some (some j)->N[i]?=some x->NX[j]?=some x/\scope.names.lookup x=some .free
theorem cQ.of{sx:Scope}{NX:List Str}{scope:Scope}{N:List Str}{mp:List (Option Nat)}(h:eS sx NX scope N mp=true):cQ sx NX scope N mp:=by
 unfold eS at h
 simp only[cP,uw] at h
 obtain⟨⟨⟨⟨⟨h1,h2⟩,h3⟩,h4⟩,h5⟩,h6⟩:=h
 refine⟨by simpa using h1,fun y hy=>by simpa using h2 y hy,fun y hy e=>?_,fun y hy e=>?_,by simpa using h5,fun i j x e1 e2=>?_⟩
 ·have:=h3 y hy
  simpa[e] using this
 ·have:=h4 y hy
  simpa[e] using this
 ·have hm:(x,some j)∈N.zip mp:=by
   have:(N.zip mp)[i]?=some (x,some j):=by
    rw[List.getElem?_zip_eq_some];exact⟨e2,e1⟩
   exact eK this
  have:=h6 _ hm
  simpa using this
def gU(mp:List (Option Nat))(σ:St):St:=mp.map fun o=>match o with|none=>none|some j=>match σ[j]? with|some v=>v|none=>none
def eX(X:Cx)(scope:Scope)(C:Addr)(N:List Str)(s₀:Shared)(H₀:Hp)(fp:List Addr):Cx:=
 {X with N:=N,s₀:=s₀,H₀:=H₀,env:=compEnvC scope (i6 X.env.cells scope.names []) C X.env,outer:=X.stack,ex:=fp,fn:=fun _=>false,pn:=[],xe:=fun _ _=>False}
def pF(X:Cx)(ifs:List Expr)(t:TT):Prop:=
 ∀(pins:List (Addr×Obj)) (s:Shared) (σ:St) (H:Hp) (Q:Bool->Hp->Prop),Inv X pins σ H s->t σ H Q->
  wpAny (model X.prog X.w) X.A (forIn ifs true fun c r=>if r=true then do let ok<-isTrue c X.env (eval c X.env);pure (ForInStep.yield ok) else pure (ForInStep.yield r)) (TP X pins σ Q) X.xe s
def oH:TT:=fun _ H Q=>Q true H
theorem gK{X:Cx}:pF X [] oH:=fun pins s σ H Q I h=>wpAny_tests_nil ⟨H,I,h⟩
theorem pZ{X:Cx}{c:Expr}{t:TT}(h:PT X c t):pF X [c] t:=fun pins s σ H Q I q=>wpAny_tests_one (h pins s σ H Q I q)
def qQ(J:It)(g:TG)(tc:TT)(te:TE)(acc:Addr)(Qe:Hp->Prop)(σ:St)(H:Hp):Prop:=∃W:Nat->Nat->St->Hp->Prop,(∃m,W 0 m σ H)/\∀i m σ H,W i m σ H->
 (J.stop i H /\ Qe H) \/ (J.go i H /\ ∃ Nx : St -> Hp -> Prop, (∀ σ' H', Nx σ' H' -> ∃ m', m' < m /\ W (i + 1) m' σ' H') /\ ∀ x H', J.mF i H x H' -> g x σ H' fun σ2 H2 => tc σ2 H2 fun b H3 =>
  if b=true then te σ2 H3 fun v H4=>∃ys,H4 acc=some (.lst ys)/\ys.length<sizeLine/\Nx σ2 (upd H4 acc (.lst (ys++[v]))) else Nx σ2 H3)
def lO(wi:TI)(g:TG)(tc:TT)(te:TE)(mp:List (Option Nat)):TE:=fun σ H Q=>wi σ H fun J H1=>∀acc,H1 acc=none->qQ J g tc te acc (fun H'=>Q (.ref acc) H') (gU mp σ) (upd H1 acc (.lst []))
section
variable{prog:Program}{w:World}{A:Around}{R:Result->Shared->Prop}{s:Shared}
theorem M1{elt target iter:Expr}{ifs:List Expr}{scope:Scope}{pos:Pos}{it acc:Value}{env:Env}(I:Nat->Shared->Prop)
    (turn:∀n s,I n s->wpAny (model prog w) A (pyNext it) (fun r s₁=>match r with
      |none=>R (.ok .next) s₁
      |some v=>wpAny (model prog w) A (letOwnedTupleGo target it v) (fun _ s₀=>wpAny (model prog w) A (assign target env v) (fun _ s₂=>
          wpAny (model prog w) A (forIn ifs true fun c r=>if r=true then do let ok<-isTrue c env (eval c env);pure (ForInStep.yield ok) else pure (ForInStep.yield r)) (fun ok s₃=>
            if ok=true then wpAny (model prog w) A (eval elt env) (fun x s₄=>
              wpAny (model prog w) A (call (.builtin "list.append") [acc,x]) (fun _ s₅=>∃m,m<n/\I m s₅) (fun _ _=>False) s₄) (fun _ _=>False) s₃
            else∃m,m<n/\I m s₃) (fun _ _=>False) s₂) (fun _ _=>False) s₀) (fun _ _=>False) s₁) (fun _ _=>False) s)
    (n:Nat) (h:I n s):
    codeAny (model prog w) A (.compLoop (.ListComp elt [⟨target,iter,ifs,0⟩] scope pos) 0 it acc env) R s:=by
  refine codeAny_loop rfl I (fun n s hI=>?_) n h
  show wpAny _ A ((compTurn (.ListComp elt [⟨target,iter,ifs,0⟩] scope pos) 0 it acc env).onRaise (fun x=>do noteFrame x env;theTreesLotGoes x)) _ _ s
  refine wpAny_noted ?_
  rw[compTurn_list]
  refine wpAny_bind (wpAny_standAt (wpAny_bind (wpAny_mono (turn n s hI) (fun r s₁ h₁=>?_) fun _ _ h'=>h'.elim)))
  cases r with
  |none=>exact wpAny_pure h₁
  | some v =>
    refine wpAny_bind (wpAny_mono h₁ (fun _ s₀ h₀=>?_) fun _ _ h'=>h'.elim)
    refine wpAny_bind (wpAny_mono h₀ (fun _ s₂ h₂=>wpAny_bind (wpAny_mono h₂ (fun ok s₃ h₃=>?_) fun _ _ h'=>h'.elim)) fun _ _ h'=>h'.elim)
    cases ok with
    |false=>exact wpAny_pure ⟨rfl,h₃⟩
    | true =>
      exact wpAny_bind (wpAny_bind (wpAny_mono h₃ (fun x s₄ h₄=>wpAny_bind (wpAny_mono h₄ (fun _ s₅ h₅=>wpAny_pure (wpAny_pure ⟨rfl,h₅⟩)) fun _ _ h'=>h'.elim)) fun _ _ h'=>h'.elim))
end
section
variable{X:Cx}
theorem EV{elt iter tg:Expr}{ifs:List Expr}{scope:Scope}{pos pos':Pos}{N:List Str}{mp:List (Option Nat)}{wi:TI}{g:TG}{tc:TT}{te:TE}{use:Option (Value->Sem Unit)}
    {pins:List (Addr×Obj)} {s:Shared} {σ:St} {H:Hp} {Q:VK} {QQ:Value->Shared->Prop}
    (ok:cQ X.env.scope X.N scope N mp) (hc:X.calm=true) (hi:PI X tg iter wi)
    (hb:∀C s₀ H₀ fp,PG (eX X scope C N s₀ H₀ fp) tg g/\pF (eX X scope C N s₀ H₀ fp) ifs tc/\PE (eX X scope C N s₀ H₀ fp) elt te)
    (hs:∀x,foldedSetIterable iter X.env x=pure x) (I:Inv X pins σ H s) (h:lO wi g tc te mp σ H Q)
    (fin:∀acc C H' s' m,Inv X pins σ H' s'->iS X pins H' C->s'.heap.Ns C m->Q (.ref acc) H'->compPost (model X.prog X.w) X.A X.xe use QQ (.ref acc) C (.ok .next) s'):
    wpAny (model X.prog X.w) X.A (comprehension (.ListComp elt [⟨tg,iter,ifs,0⟩] scope pos) scope X.env pos' (newList []) false (eval iter X.env) use) QQ X.xe s:=by
  have hfree:∀x∈scope.names,x.2= .free->∃a,X.env.cells.lookup x.1=some a:=fun x hx e=>I.ok.has x.1 (ok.free x hx e)
  refine wpAny_comprehension_free (use:=use) rfl hs (KH hfree) ok.kind ok.names (aT (hi pins s σ H _ I h) fun v s1 h1=>aT h1 fun itv s2 h2=>?_)
  obtain⟨it,fp,tn,J,H2,e,I2,T,st2,f2,hW⟩:=h2
  subst e
  refine wpAny_newObj_type (wpAny_newFunctionEnv ok.cell (by intro y hy;simp at hy) (fun h₁ zM yL=>?_) ok.kind)
  dsimp only at zM yL⊢
  have I3:=I2.Gi (its:=[]) (ys:=[]) (t':=s2.toks) .nil (dW _)
  have hW:=hW s2.heap.objs.size I2.fresh
  obtain⟨W,⟨m0,w0⟩,turn⟩:=hW
  generalize Bk:s2.heap.push {cls:= .type "list",dict:=none,data:= .seq ([]:List Value).toArray}=HP at zM yL⊢
  have I3:Inv X pins σ (upd H2 s2.heap.objs.size (.lst [])) {s2 with heap:=HP}:=by rw[<-Bk];exact I3
  generalize Lb:upd H2 s2.heap.objs.size (.lst [])=H3 at I3 w0
  have hC:HP.objs.size=s2.heap.objs.size+1:=by rw[<-Bk,mz]
  have old:∀b o,HP.get? b=some o->h₁.get? b=some o:=fun b o e=>yL.extBut b o (cV (bC e)) (bV _ e)
  have lH:∀b∈fp,b<s2.heap.objs.size:=fun b hb=>by
    obtain⟨o,e,_⟩:=T.obj 0 _ st2 b hb
    exact bC e
  have Q8:∀b∈fp,H3 b=none:=fun b hb=>by
    rw[<-Lb,az (cV (lH b hb))]
    exact(f2 b hb).1
  have qt:∀{x:Str} {c:Addr},(i6 X.env.cells scope.names []).lookup x=some c->X.env.cells.lookup x=some c:=fun{x c} e=>AZ (fun y d q=>by simp at q) e
  have uU:(eX X scope HP.objs.size N {s2 with heap:=HP} H3 fp).Ok:=by
    refine⟨I2.ok.mod,ok.kind,I2.ok.glob,I2.ok.blt,aI _,fun x y c e1 e2=>I2.ok.inj x y c (qt e1) (qt e2),fun x hx=>?_,(fun x c e=>absurd (show false=true from e) (by decide)),I2.ok.hd,I2.ok.frames, .inl rfl,fun b hb=>?_,I3.bs,ez I3.ok.nj I3.sz,fun b o e hb=>?_,fun b hb hz=>?_,I3.stack,I3.Hx⟩
    · have hx':scope.names.lookup x=some .free:=by
        rcases hx with hx|hx
        · exact BH ok.cell hx (.inl rfl)
        · exact BH ok.cell hx (.inr rfl)
      have hm:=nQ hx'
      obtain⟨a,ha⟩:=hfree _ hm rfl
      exact⟨a,FO hm ha⟩
    · refine⟨fun z=>?_,fun x c e=>(f2 b hb).2.2.2.2.1 x c (qt e)⟩
      have z':b=HP.objs.size:=z
      have q:=lH b hb
      rw[z',hC] at q
      exact absurd q (Nat.not_lt.mpr (rK _))
    · rcases(f2 b hb).2.2.2.1 with z|z
      · exact I2.ok.rC b o e z
      · exact absurd (eE (bC (I2.ok.bs b o e).1) z) (jo _)
    · rcases aK.mp (I2.wZ b hz) with z|z
      · exact(f2 b hb).2.1 z
      · exact(f2 b hb).2.2.1 z
  have IY:Inv (eX X scope HP.objs.size N {s2 with heap:=HP} H3 fp) [] (gU mp σ) H3 {s2 with heap:=h₁,toks:=s2.toks+([]:List (Str×Value)).length}:=by
    refine⟨uU,rfl,I2.bare,Un.kept old,⟨_,zM,fun i x v e1 e2 e3=>?_⟩,fun x c e=>?_,I3.hok.fresh (aI _),fun x c e=>I3.i8 x c (qt e),fun p hp=>absurd (show p∈([]:List (Addr×Obj)) from hp) (by simp),I3.hok.kept old,?_⟩
    · have hj:∃j,mp[i]?=some (some j)/\σ[j]?=some (some v):=by
        unfold gU at e2
        rw[aX] at e2
        cases q:mp[i]? with
        |none=>rw[q] at e2;cases e2
        | some o =>
          rw[q] at e2
          cases o with
          |none=>cases e2
          | some j =>
            refine⟨j,rfl,?_⟩
            have e2:(match σ[j]? with|some v=>v|none=>none)=some v:=gn e2
            cases r:σ[j]? with
            |none=>rw[r] at e2;cases e2
            | some u =>
              rw[r] at e2
              have e2:u=some v:=e2
              rw[e2]
      obtain⟨j,hj1,hj2⟩:=hj
      obtain⟨l1,l2⟩:=ok.look i j x hj1 e1
      have hm:=nQ l2
      have kx:=ok.free _ hm rfl
      obtain⟨mm,_,hl⟩:=I3.loc
      obtain⟨u,ru,lk⟩:=hl j x v l1 hj2 (kx.elim (fun z=> .inr (.inl z)) fun z=> .inr (.inr z))
      refine⟨u,ru, .inr ⟨EK l2,?_⟩⟩
      rcases lk with ⟨k,_⟩|⟨_,c,e,z⟩
      · exfalso
        have k':X.env.scope.names.lookup x=some .local:=k
        rcases kx with kx|kx
        · rw[k'] at kx;cases kx
        · rw[k'] at kx;cases kx
      · refine⟨c,FO hm e,?_⟩
        obtain⟨o,ho,hd⟩:=z
        exact⟨o,old c o ho,hd⟩
    · obtain⟨v,o,ho,hd⟩:=I3.cell x c (qt e)
      exact⟨v,o,old c o ho,hd⟩
    · show(gU mp σ).length=N.length
      unfold gU
      rw[ak,ok.len]
  have mw:∀{H':Hp},(∀b∈fp,H' b=none)->∀b∈fp,iS (eX X scope HP.objs.size N {s2 with heap:=HP} H3 fp) [] H' b:=fun{H'} hn b hb=>
    ⟨hn b hb,(uU.uE b hb).1,uU.qU b hb, .inl hb,(uU.uE b hb).2,fun p hp=>absurd (show p∈([]:List (Addr×Obj)) from hp) (by simp)⟩
  have C1:tn 0 h₁:=T.keep 0 _ _ st2 fun b hb o e=>old b o (by rw[<-Bk];exact bV _ e)
  have loop:codeAny (model X.prog X.w) X.A (.compLoop (.ListComp elt [⟨tg,iter,ifs,0⟩] scope pos) 0 (.ref it) (.ref s2.heap.objs.size) (compEnvC scope (i6 X.env.cells scope.names []) HP.objs.size X.env))
      (compPost (model X.prog X.w) X.A X.xe use QQ (.ref s2.heap.objs.size) HP.objs.size) {s2 with heap:=h₁,toks:=s2.toks+([]:List (Str×Value)).length}:=by
    obtain⟨hg,ht,he⟩:=hb HP.objs.size {s2 with heap:=HP} H3 fp
    generalize hY:eX X scope HP.objs.size N {s2 with heap:=HP} H3 fp=Y at hg ht he IY mw
    have yp:Y.prog=X.prog:=by rw[<-hY];rfl
    have yw:Y.w=X.w:=by rw[<-hY];rfl
    have yK:Y.K=X.K:=by rw[<-hY];rfl
    have yA:Y.A=X.A:=by rw[<-hY];rfl
    have yc:Y.calm=true:=by rw[<-hY];exact hc
    have yx:Y.xe=fun _ _=>False:=by rw[<-hY];rfl
    have DC:Y.env=compEnvC scope (i6 X.env.cells scope.names []) HP.objs.size X.env:=by rw[<-hY];rfl
    rw[<-DC]
    refine M1 (fun n s'=>∃i σ' H',Inv Y [] σ' H' s'/\tn i s'.heap/\(∀b∈fp,H' b=none)/\W i n σ' H') ?_ m0 ⟨0,_,H3,IY,C1,Q8,w0⟩
    rintro n s3 ⟨i,σ3,H4,I4,st3,fr3,w3⟩
    rcases turn i n σ3 H4 w3 with ⟨stop,qn⟩|⟨go,Nx,hN,step⟩
    · have q0:=T.done Y yp yw yK yc i [] s3 σ3 H4 (fun _ _=>False) I4 (mw fr3) st3 stop
      rw[yA] at q0
      refine aT q0 fun r s4 ⟨hr,I5⟩=>?_
      subst hr
      show compPost (model X.prog X.w) X.A X.xe use QQ (.ref s2.heap.objs.size) HP.objs.size (.ok .next) s4
      obtain⟨m,hm,_⟩:=id I5.loc
      have yl:Y.env.locals=HP.objs.size:=by rw[DC];rfl
      rw[yl] at hm
      have fC:H4 HP.objs.size=none:=by have:=I5.free;rw[yl] at this;exact this
      have ub:=I5.base
      have ub':Un (frs X.stack) fp H3 H4 HP s4.heap:=by rw[<-hY] at ub;exact ub
      have hos:s4.os=s2.os:=by have:=I5.os;rw[<-hY] at this;exact this
      have Vp:c8 X.prog X.w H4 s4.heap:=by have:=I5.hok;rw[yp,yw] at this;exact this
      have IX:Inv X pins σ H4 s4:=I3.JO (ch:=fp) hos ub' Vp I5.bare fun b hb=>⟨(f2 b hb).2.2.2.1,(f2 b hb).2.1,(f2 b hb).2.2.2.2.1,(f2 b hb).2.2.2.2.2⟩
      exact fin _ _ H4 s4 m IX (I3.pY (aI _) fC) hm qn
    · have q0:=T.item Y yp yw yK yc i [] s3 σ3 H4 (fun _ _=>False) I4 (mw fr3) st3 go
      rw[yA] at q0
      refine aT q0 fun r s4 ⟨u,hr,h4⟩=>?_
      subst hr
      refine aT h4 fun _ s5 ⟨x,H5,I5,r5,y5,nv,yR⟩=>?_
      have Ad:=I5.pinned (mw yR) (T.obj _ _ nv)
      rw[<-yx,<-yp,<-yw,<-yA]
      refine aT (hg _ s5 σ3 H5 x u _ Ad r5 (step x H5 y5)) fun _ s6 ⟨ql,H6,I6,q6⟩=>?_
      refine aT (ht _ s6 ql H6 _ I6 q6) fun b s7 ⟨H7,I7,q7⟩=>?_
      have again:∀{qd:St} {H8:Hp} {s8:Shared},Inv Y ([]++qk fp s5.heap) qd H8 s8->Nx qd H8->∃m,m<n/\∃i σ' H',Inv Y [] σ' H' s8/\tn i s8.heap/\(∀b∈fp,H' b=none)/\W i m σ' H':=fun{qd H8 s8} I8 n8=>by
        obtain⟨m',hm,w8⟩:=hN qd H8 n8
        refine⟨m',hm,i+1,qd,H8,I8.t9,T.keep _ _ _ nv fun b hb o e=>(I8.pin (b,o) (kj _ (kj _ (uC hb e)))).1,fun b hb=>?_,w8⟩
        obtain⟨o,e,d⟩:=T.obj _ _ nv b hb
        exact(I8.pin (b,o) (kj _ (kj _ (uC hb e)))).2.1
      cases b with
      | false =>
        rw[if_neg dh]
        rw[if_neg dh] at q7
        exact again I7 q7
      | true =>
        rw[if_pos rfl]
        rw[if_pos rfl] at q7
        refine aT (he _ s7 ql H7 _ I7 q7) fun v s8 ⟨y,H8,I8,r8,ys,e8,z8,n8⟩=>?_
        refine aT (jO _ s8 ql H8 (.ref s2.heap.objs.size) [y] (.ref s2.heap.objs.size) [v] (fun _ H9=>H9=upd H8 s2.heap.objs.size (.lst (ys++[y]))) I8 rfl (.cons r8 .nil) ⟨_,ys,y,rfl,rfl,e8,z8,rfl⟩) fun v9 s9 ⟨y9,H9,I9,r9,e9⟩=>?_
        subst e9
        exact again I9 n8
  refine codeAny_compStart_list loop (T.self _ _ _ _ _ C1 loop)
theorem iS.turned{pins:List (Addr×Obj)}{s:Shared}{σ:St}{H:Hp}{C:Addr}{h':Heap}(I:Inv X pins σ H s)(f:iS X pins H C)(hs:Heap.SameBut C s.heap h'):Inv X pins σ H {s with heap:=h'}:=
 I.turned (t':=s.toks) (fun b o hb e=>(hs.2 b hb).trans e) f.1 f.2.1 f.2.2.2.1 f.2.2.2.2.1 f.2.2.2.2.2
theorem fV{elt iter tg:Expr}{ifs:List Expr}{scope:Scope}{pos:Pos}{N:List Str}{mp:List (Option Nat)}{wi:TI}{g:TG}{tc:TT}{te:TE}
  (ok:cQ X.env.scope X.N scope N mp) (hi:PI X tg iter wi)
  (hb:∀C s₀ H₀ fp,PG (eX X scope C N s₀ H₀ fp) tg g/\pF (eX X scope C N s₀ H₀ fp) ifs tc/\PE (eX X scope C N s₀ H₀ fp) elt te) (hc:X.calm=true:=by rfl)
  (hs:∀x,foldedSetIterable iter X.env x=pure x:=by intro _;rfl):PE X (.ListComp elt [⟨tg,iter,ifs,0⟩] scope pos) (lO wi g tc te mp):=by
 intro pins s σ H Q I h
 rw[eval_ListComp]
 refine EV (use:=none) ok hc hi hb hs I h fun acc C H' s' m I' f hn q=>?_
 exact⟨m,hn,fun h' hs'=>⟨.ref acc,H',f.turned I' hs',rfl,q⟩⟩
def Jt(i:Nat)(t:TE):TS:=fun D σ H=>t σ H fun v H'=>D.nx (σ.set i (some v)) H'
theorem AU{elt iter tg:Expr}{ifs:List Expr}{scope:Scope}{pos spos py:Pos}{N:List Str}{mp:List (Option Nat)}{wi:TI}{g:TG}{tc:TT}{te:TE}{i:Nat}{y:Str}
  (hN:X.N.Nodup) (hy:X.N[i]?=some y) (hk:X.env.kindOf y=some .local)
  (ok:cQ X.env.scope X.N scope N mp) (hi:PI X tg iter wi)
  (hb:∀C s₀ H₀ fp,PG (eX X scope C N s₀ H₀ fp) tg g/\pF (eX X scope C N s₀ H₀ fp) ifs tc/\PE (eX X scope C N s₀ H₀ fp) elt te) (hc:X.calm=true:=by rfl)
  (hsw:swapsWith (.ListComp elt [⟨tg,iter,ifs,0⟩] scope pos) (some (.Name y py)) spos.line X.env=pure true:=by rfl)
  (hs:∀x,foldedSetIterable iter X.env x=pure x:=by intro _;rfl):PS X (.Assign [.Name y py] (.ListComp elt [⟨tg,iter,ifs,0⟩] scope pos) spos) (Jt i (lO wi g tc te mp)):=by
 intro pins s σ H D I h
 rw[exec_Assign_Name_used _ _ _ _ hsw]
 refine wpAny_bind (wpAny_standAt (wpAny_bind ?_))
 show wpAny _ X.A (do let _<-comprehension (.ListComp elt [⟨tg,iter,ifs,0⟩] scope pos) scope X.env _ (newList []) false (eval iter X.env) (some (assign (.Name y py) X.env))) _ _ s
 refine wpAny_bind (wpAny_mono (EV (use:=some (assign (.Name y py) X.env)) (QQ:=fun _ s'=>SP X pins D .next s') ok hc hi hb hs I h fun acc C H' s' m I' f hn q=>?_) (fun _ s' hq=>wpAny_pure (wpAny_pure hq)) fun _ _ e=>e)
 refine wpAny_assign_Name (HA (v:= .ref acc) I' hN hy (.inl hk) rfl (fun s2 I2 ⟨a,sb,ha⟩=>?_) (.inr hk))
 have hne:C≠a:=by
  rcases ha with z|z
  ·rw[z];exact f.2.1
  ·exact fun e=>f.2.2.2.2.1 y a z e.symm
 exact⟨m,hn.sameBut sb hne,fun h' hs'=>⟨_,H',f.turned I2 hs',q⟩⟩
end
def Sm(i:Int):Prop:= -(2^300)<i/\i<2^300
theorem BA{i:Int}(h:Sm i):Builtin.Int.intBits i<=2^20:=by
 obtain⟨h1,h2⟩:=h
 unfold Builtin.Int.intBits
 split
 ·exact dW _
 ·rename_i h0
  have hn:i.natAbs≠0:=by
   intro e
   apply h0
   simp
   omega
  have h3:i.natAbs<2^300:=by omega
  have h4:i.natAbs.log2<300:=(Nat.log2_lt hn).mpr h3
  have:(2:Nat)^20=1048576:=by decide
  omega
theorem QL{x y:Int}(h:Sm y):Builtin.divisionGoesByPylong x y=false:=by
 refine PyProof.noPylong_of_log2 ?_
 obtain⟨h1,h2⟩:=h
 by_cases h0:y.natAbs=0
 ·rw[h0];decide+kernel
 ·have h3:y.natAbs<2^300:=by omega
  have h4:y.natAbs.log2<300:=(Nat.log2_lt h0).mpr h3
  omega
section
variable{X:Cx}
theorem p7:dZ X (binaryOp .FloorDiv) (rI (fun _ j=>0<j/\Sm j) fun i j=> .int (i/j)):=tV fun i j _ _ _ _ _ hc q=>
 floordiv_int (by omega) (by rw[Int.fdiv_eq_ediv_of_nonneg _ (by omega)];exact q) (.inl (QL hc.2))
theorem LU:qc X "int.bit_length" (fun x xs H Q=>∃i,x= .int i/\xs=[]/\Q (.int (Builtin.Int.intBits i)) H):=by
 intro pins s σ H x xs v us Q I rx rv h
 obtain⟨i,rfl,rfl,q⟩:=h
 obtain⟨t,rfl⟩:=rx
 cases rv
 exact call_int_bit_length ⟨.int _,H,I.tok _,⟨_,rfl⟩,q⟩
def kC(K:PySem.W.Frag):List V->Hp->VK->Prop:=fun xs H Q=>∃x T t b,xs=[x, .ty T]/\iz K H x t/\PySem.W.kitOne K t (.type T)=some b/\Q (.bl b) H
theorem lN:eV X (.builtin "isinstance") (kC X.K):=by
 intro pins s σ H xs us Q I rv h
 obtain⟨x,T,t,b,rfl,ty,e,q⟩:=h
 obtain⟨u,v,rfl,ru,rv⟩:=rv.two
 cases (show v=Value.type T from rv)
 exact Lr I ru ty e fun tk=>⟨.bl b,H,I.tok tk,rfl,q⟩
def K4:PyData->Key->Prop
 | .int i,k=>k= .inl i
 | .str x,k=>k= .inr x
 |_,_=>False
mutual
def aj(nb:Addr->Prop)(H:Hp):PyData->V->Prop
 | .none,v=>v= .aM
 | .bool b,v=>v= .bl b
 | .int i,v=>v= .int i
 | .str x,v=>v= .str x
 | .list ds,v=>∃a xs,v= .ref a/\¬nb a/\H a=some (.lst xs)/\ah nb H ds xs
 | .tuple ds,v=>∃a xs,v= .ref a/\¬nb a/\H a=some (.tup xs)/\ah nb H ds xs
 | .dict kvs,v=>∃a ps,v= .ref a/\¬nb a/\Rd H a (.dK ps)/\ay nb H kvs ps
termination_by structural d=>d
def ah(nb:Addr->Prop)(H:Hp):List PyData->List V->Prop
 |[],xs=>xs=[]
 |d::ds,xs=>∃y ys,xs=y::ys/\aj nb H d y/\ah nb H ds ys
termination_by structural d=>d
def ay(nb:Addr->Prop)(H:Hp):List (PyData×PyData)->List (Key×V)->Prop
 |[],xs=>xs=[]
 |d::ds,xs=>∃p ys,xs=p::ys/\cM nb H d p/\ay nb H ds ys
termination_by structural d=>d
def cM(nb:Addr->Prop)(H:Hp):PyData×PyData->Key×V->Prop
 |(k,d),p=>K4 k p.1/\aj nb H d p.2
termination_by structural d=>d
end
def bh(nb:Addr->Prop)(H H':Hp):Prop:=∀a o,¬nb a->H a=some o->H' a=some o
def Nb(b:Addr):Addr->Prop:=fun a=>a=b
section
variable{nb cI:Addr->Prop}{H H1 H2 H':Hp}{a b c p:Addr}{o:HO}{xs:List V}
theorem bh.refl(nb:Addr->Prop)(H:Hp):bh nb H H:=fun _ _ _ h=>h
theorem bh.trans(x:bh nb H H1)(y:bh nb H1 H2):bh nb H H2:=fun a o n h=>y a o n (x a o n h)
theorem bh.of(x:dD H H'):bh nb H H':=fun a o _ h=>x a o h
theorem bh.set(h:nb p):bh nb H (upd H p o):=fun a u n q=>by rw[az (fun e=>n (by rw[e];exact h))];exact q
theorem bh.rd{u:HO}(x:bh nb H H')(n:¬nb a)(h:Rd H a u):Rd H' a u:=by
 rcases h with h|⟨o,h⟩
 ·exact .inl (x _ _ n h)
 ·exact .inr ⟨o,x _ _ n h⟩
end
mutual
theorem aj.keep{nb:Addr->Prop}{H H':Hp}(x:bh nb H H'):∀{d:PyData} {v:V},aj nb H d v->aj nb H' d v
 | .none,_,h=>by unfold aj at h⊢;exact h
 | .bool _,_,h=>by unfold aj at h⊢;exact h
 | .int _,_,h=>by unfold aj at h⊢;exact h
 | .str _,_,h=>by unfold aj at h⊢;exact h
 | .list ds,_,h=>by unfold aj at h⊢;obtain⟨a,xs,e,n,s,r⟩:=h;exact⟨a,xs,e,n,x _ _ n s,ah.keep x r⟩
 | .tuple ds,_,h=>by unfold aj at h⊢;obtain⟨a,xs,e,n,s,r⟩:=h;exact⟨a,xs,e,n,x _ _ n s,ah.keep x r⟩
 | .dict kvs,_,h=>by unfold aj at h⊢;obtain⟨a,xs,e,n,s,r⟩:=h;exact⟨a,xs,e,n,x.rd n s,ay.keep x r⟩
theorem ah.keep{nb:Addr->Prop}{H H':Hp}(x:bh nb H H'):∀{ds:List PyData} {vs:List V},ah nb H ds vs->ah nb H' ds vs
 |[],_,h=>by unfold ah at h⊢;exact h
 |d::ds,_,h=>by unfold ah at h⊢;obtain⟨y,ys,e,h1,h2⟩:=h;exact⟨y,ys,e,aj.keep x h1,ah.keep x h2⟩
theorem ay.keep{nb:Addr->Prop}{H H':Hp}(x:bh nb H H'):∀{ds:List (PyData×PyData)} {vs:List (Key×V)},ay nb H ds vs->ay nb H' ds vs
 |[],_,h=>by unfold ay at h⊢;exact h
 |d::ds,_,h=>by unfold ay at h⊢;obtain⟨y,ys,e,h1,h2⟩:=h;exact⟨y,ys,e,cM.keep x h1,ay.keep x h2⟩
theorem cM.keep{nb:Addr->Prop}{H H':Hp}(x:bh nb H H'):∀{d:PyData×PyData} {v:Key×V},cM nb H d v->cM nb H' d v
 |(k,d),_,h=>by unfold cM at h⊢;exact⟨h.1,aj.keep x h.2⟩
end
mutual
theorem aj.av{nb cI:Addr->Prop}{H:Hp}(x:∀a,cI a->nb a):∀{d:PyData} {v:V},aj nb H d v->aj cI H d v
 | .none,_,h=>by unfold aj at h⊢;exact h
 | .bool _,_,h=>by unfold aj at h⊢;exact h
 | .int _,_,h=>by unfold aj at h⊢;exact h
 | .str _,_,h=>by unfold aj at h⊢;exact h
 | .list ds,_,h=>by unfold aj at h⊢;obtain⟨a,xs,e,n,s,r⟩:=h;exact⟨a,xs,e,fun z=>n (x a z),s,ah.av x r⟩
 | .tuple ds,_,h=>by unfold aj at h⊢;obtain⟨a,xs,e,n,s,r⟩:=h;exact⟨a,xs,e,fun z=>n (x a z),s,ah.av x r⟩
 | .dict kvs,_,h=>by unfold aj at h⊢;obtain⟨a,xs,e,n,s,r⟩:=h;exact⟨a,xs,e,fun z=>n (x a z),s,ay.av x r⟩
theorem ah.av{nb cI:Addr->Prop}{H:Hp}(x:∀a,cI a->nb a):∀{ds:List PyData} {vs:List V},ah nb H ds vs->ah cI H ds vs
 |[],_,h=>by unfold ah at h⊢;exact h
 |d::ds,_,h=>by unfold ah at h⊢;obtain⟨y,ys,e,h1,h2⟩:=h;exact⟨y,ys,e,aj.av x h1,ah.av x h2⟩
theorem ay.av{nb cI:Addr->Prop}{H:Hp}(x:∀a,cI a->nb a):∀{ds:List (PyData×PyData)} {vs:List (Key×V)},ay nb H ds vs->ay cI H ds vs
 |[],_,h=>by unfold ay at h⊢;exact h
 |d::ds,_,h=>by unfold ay at h⊢;obtain⟨y,ys,e,h1,h2⟩:=h;exact⟨y,ys,e,cM.av x h1,ay.av x h2⟩
theorem cM.av{nb cI:Addr->Prop}{H:Hp}(x:∀a,cI a->nb a):∀{d:PyData×PyData} {v:Key×V},cM nb H d v->cM cI H d v
 |(k,d),_,h=>by unfold cM at h⊢;exact⟨h.1,aj.av x h.2⟩
end
mutual
theorem aj.fresh{nb:Addr->Prop}{H:Hp}{p:Addr}(hp:H p=none):∀{d:PyData} {v:V},aj nb H d v->aj (fun a=>nb a\/a=p) H d v
 | .none,_,h=>by unfold aj at h⊢;exact h
 | .bool _,_,h=>by unfold aj at h⊢;exact h
 | .int _,_,h=>by unfold aj at h⊢;exact h
 | .str _,_,h=>by unfold aj at h⊢;exact h
 | .list ds,_,h=>by unfold aj at h⊢;obtain⟨a,xs,e,n,s,r⟩:=h;exact⟨a,xs,e,fun z=>z.elim n (iH s hp),s,ah.fresh hp r⟩
 | .tuple ds,_,h=>by unfold aj at h⊢;obtain⟨a,xs,e,n,s,r⟩:=h;exact⟨a,xs,e,fun z=>z.elim n (iH s hp),s,ah.fresh hp r⟩
 | .dict kvs,_,h=>by unfold aj at h⊢;obtain⟨a,xs,e,n,s,r⟩:=h;exact⟨a,xs,e,fun z=>z.elim n (s.elim (fun s=>iH s hp) fun⟨_,s⟩=>iH s hp),s,ay.fresh hp r⟩
theorem ah.fresh{nb:Addr->Prop}{H:Hp}{p:Addr}(hp:H p=none):∀{ds:List PyData} {vs:List V},ah nb H ds vs->ah (fun a=>nb a\/a=p) H ds vs
 |[],_,h=>by unfold ah at h⊢;exact h
 |d::ds,_,h=>by unfold ah at h⊢;obtain⟨y,ys,e,h1,h2⟩:=h;exact⟨y,ys,e,aj.fresh hp h1,ah.fresh hp h2⟩
theorem ay.fresh{nb:Addr->Prop}{H:Hp}{p:Addr}(hp:H p=none):∀{ds:List (PyData×PyData)} {vs:List (Key×V)},ay nb H ds vs->ay (fun a=>nb a\/a=p) H ds vs
 |[],_,h=>by unfold ay at h⊢;exact h
 |d::ds,_,h=>by unfold ay at h⊢;obtain⟨y,ys,e,h1,h2⟩:=h;exact⟨y,ys,e,cM.fresh hp h1,ay.fresh hp h2⟩
theorem cM.fresh{nb:Addr->Prop}{H:Hp}{p:Addr}(hp:H p=none):∀{d:PyData×PyData} {v:Key×V},cM nb H d v->cM (fun a=>nb a\/a=p) H d v
 |(k,d),_,h=>by unfold cM at h⊢;exact⟨h.1,aj.fresh hp h.2⟩
end
mutual
theorem aj.reads{pins:List (Addr×Obj)}{σ:St}{H:Hp}{s:Shared}{nb:Addr->Prop}(I:Inv X pins σ H s):∀{d:PyData} {v:V} {u:Value},aj nb H d v->RelV v u->d.canLay0=true->∃as,Reads s.heap u d as
  | .none,_,_,h,r,_=>by unfold aj at h;subst h;cases r;exact⟨_, .none⟩
  | .bool _,_,_,h,r,_=>by unfold aj at h;subst h;cases r;exact⟨_, .bool _⟩
  | .int _,_,_,h,r,_=>by unfold aj at h;subst h;obtain⟨t,rfl⟩:=r;exact⟨_, .int _ _⟩
  | .str _,_,_,h,r,_=>by unfold aj at h;subst h;obtain⟨t,rfl⟩:=r;exact⟨_, .str _ _⟩
  | .list ds, _, _, h, r, hc0 => by
    unfold aj at h
    obtain⟨a,xs,rfl,n,s,q⟩:=h
    cases r
    obtain⟨its,rv,p,hz⟩:=I.list (aW.of s)
    obtain⟨as,ra⟩:=ah.reads I q rv (by simpa only[PyData.canLay0] using hc0)
    obtain⟨o,ho,hc,m,hd⟩:=p.isList
    exact⟨_, .list ho hc hd (by simpa using ra)⟩
  | .tuple ds, _, _, h, r, hc0 => by
    unfold aj at h
    obtain⟨a,xs,rfl,n,s,q⟩:=h
    cases r
    obtain⟨its,rv,p,hz⟩:=I.tuple (fY.of s)
    obtain⟨as,ra⟩:=ah.reads I q rv (by simpa only[PyData.canLay0] using hc0)
    obtain⟨o,ho,hc,m,hd⟩:=p
    exact⟨_, .tuple ho hc hd (by simpa using ra)⟩
  | .dict _,_,_,h,r,hc0=>by simp[PyData.canLay0] at hc0
theorem ah.reads{pins:List (Addr×Obj)}{σ:St}{H:Hp}{s:Shared}{nb:Addr->Prop}(I:Inv X pins σ H s):∀{ds:List PyData} {vs:List V} {us:List Value},ah nb H ds vs->Vals vs us->PyData.canLayAll0 ds=true->∃as,ReadsAll s.heap us ds as
  |[],_,_,h,r,_=>by unfold ah at h;subst h;cases r;exact⟨_, .nil⟩
  | d :: ds, _, _, h, r, hc0 => by
    rw[PyData.canLayAll0,cP] at hc0
    unfold ah at h
    obtain⟨y,ys,rfl,h1,h2⟩:=h
    cases r with
    | cons r1 r2 =>
      obtain⟨as,q1⟩:=aj.reads I h1 r1 hc0.1
      obtain⟨bs,q2⟩:=ah.reads I h2 r2 hc0.2
      exact⟨_, .cons q1 q2⟩
end
def Jl(neg:Bool):R2:=fun x y H Q=>∃nb d e,aj nb H d x/\aj nb H e y/\SeqAt.shaped d=true/\SeqAt.shaped e=true/\Q (.bl (PyData.eqv d e !=neg)) H
theorem rJ(hu:X.A.units+64<cLine):dZ X (compareOp .Eq) (Jl false):=by
 intro pins s σ H x y v u Q I rx ry h
 obtain⟨nb,d,e,h1,h2,h3,h4,q⟩:=h
 obtain⟨as,r1⟩:=h1.reads I rx (qg h3)
 obtain⟨bs,r2⟩:=h2.reads I ry (qg h4)
 exact eq_dataH r1 r2 h3 h4 hu ⟨.bl _,H,I,rfl,by simpa using q⟩
end
mutual
theorem eqv_refl:∀d:PyData,SeqAt.shaped d=true\/d.canLay0=true->PyData.eqv d d=true
  | .none,_=>by simp[PyData.eqv]
  | .bool _,_=>by simp[PyData.eqv]
  | .int _,_=>by simp[PyData.eqv]
  | .str _,_=>by simp[PyData.eqv]
  | .list ds, h => by
    have h':PyData.canLayAll0 ds=true:=by
      rcases h with h|h
      · have:=qg h;simpa[PyData.canLay0] using this
      · simpa[PyData.canLay0] using h
    simp only[PyData.eqv]
    exact eqvAll_refl ds h'
  | .tuple ds, h => by
    have h':PyData.canLayAll0 ds=true:=by
      rcases h with h|h
      · have:=qg h;simpa[PyData.canLay0] using this
      · simpa[PyData.canLay0] using h
    simp only[PyData.eqv]
    exact eqvAll_refl ds h'
  | .dict _, h => by
    rcases h with h|h
    · have:=qg h;simp[PyData.canLay0] at this
    · simp[PyData.canLay0] at h
theorem eqvAll_refl:∀ds:List PyData,PyData.canLayAll0 ds=true->PyData.eqvAll ds ds=true
  |[],_=>by simp[PyData.eqvAll]
  | d :: ds, h => by
    simp only[PyData.canLayAll0,cP] at h
    simp only[PyData.eqvAll,cP]
    exact⟨eqv_refl d (.inr h.1),eqvAll_refl ds h.2⟩
end
structure Callee(P:Program)(w:World)(K:PySem.W.Frag)(mg:Str->Option Value)(base:Heap)(x:Str)(k:Nat)(ps:List Str)(sp:Sp):Prop where
 ex:∃f fd,bG P w K mg base bN k f fd ps sp/\Binds K fd ps []/\PySem.W.keepIn K (.ref f)=true/\mg x=some (.ref f)
theorem aF{X:Cx}{x:Str}{k:Nat}{ps:List Str}{sp:Sp}{p pos:Pos}{e:Expr}{es:List Expr}{t:TA}(c:Callee X.prog X.w X.K X.mg X.base x k ps sp)(hr:gp k X.A)(ha:PA X (e::es) t)(hg:Gl X x:=by rfl)
  (hdb:(x==("__debug__":Str))=false:=by decide) (he:starEach (e::es) X.env=(false,eval e X.env)::starEach es X.env:=by rfl) (hpl:(backTo pos (starEach es X.env)).any (·.1)=false:=by rfl):
  PE X (.Call (.Name x p) (e::es) [] pos) (i9 sp [] E0 t):=by
 obtain⟨f,fd,F,b,kp,m⟩:=c.ex
 exact R9 F hr hg m kp b .nil Mr ha hdb he hpl
theorem Callee.mk'{P:Program}{w:World}{K:PySem.W.Frag}{mg:Str->Option Value}{base:Heap}{x:Str}{st:Stmt}{k:Nat}{ps:List Str}{sp:Sp}{f:Addr}{fd:FuncData}(F:bL K x x st f fd)(ok:bG P w K mg base bN k f fd ps sp)(b:Binds K fd ps [])
  (m:mg x=some (.ref f)):Callee P w K mg base x k ps sp:=⟨f,fd,ok,b,F.kp,m⟩
def aJ(K:PySem.W.Frag)(x q:Str)(st:Stmt)(f:Addr):Prop:=PySem.W.nsIn K mainGlobals x=some (some (.ref f))/\∃fd,bL K x q st f fd
theorem aJ.mk{K:PySem.W.Frag}{x q:Str}{st:Stmt}{f:Addr}{oc:Value}{od an:Option Addr}{osl:Array (Option Value)}{kV doc pm cdv ct:Value}(a:PySem.W.nsIn K mainGlobals x=some (some (.ref f)))(l:K.lookup f=some ⟨oc,od, .func (PySem.W.fnOf x q (mV st) (mq st) (aN st) .none kV doc pm an cdv ct),osl⟩)
  (c:PySem.W.codeIn K cdv q=true) (k:PySem.W.keepIn K (.ref f)=true):aJ K x q st f:=⟨a,_,Hj l c k⟩
end L2
set_option maxRecDepth 100000
set_option maxHeartbeats 1000000
namespace L2
open PySem PySem.Spec PyProof.Rows
section
variable{X:Cx}
theorem gZ:dZ X (binaryOp .Mult) (rI (fun i j=>uN i j\/(Sm i/\Sm j)) fun i j=> .int (i*j)):=tV fun _ _ _ _ _ _ _ hc q=>mul_int q (by
 rcases hc with hc|hc
 ·exact hc.ok
 ·exact IntMulOk.of_bits (BA hc.1) (BA hc.2))
end
def c9(H:Hp)(b l:Addr):Prop:=∃(ns:List Int) (i c st n:Int),H b=some (.lst [.ref l, .int i, .int c, .int st, .int n])/\H l=some (.lst (ns.map V.int))/\
 (∀x∈ns,0<=x/\x<10^60)/\ns.length<=63/\0<=i/\0<=c/\c<10^60/\0<=st/\st<2147483647
theorem IE{H:Hp}{b l:Addr}{ns:List Int}{i c st n:V}(h:H b=some (.lst [.ref l,i,c,st,n]))(h':H l=some (.lst (ns.map V.int))):l≠b:=by
 intro e
 subst e
 rw[h] at h'
 have e:=HO.lst.inj (gn h')
 cases ns with
 |nil=>cases e
 |cons x r=>rw[bR] at e;cases (List.cons.inj e).1
theorem c9.put{H:Hp}{b l:Addr}{ns:List Int}{i c st n:Int}(hl:l≠b)(h':H l=some (.lst (ns.map V.int)))(h1:∀x∈ns,0<=x/\x<10^60)(h2:ns.length<=63)
  (h3:0<=i) (h4:0<=c) (h5:c<10^60) (h6:0<=st) (h7:st<2147483647):c9 (upd H b (.lst [.ref l, .int i, .int c, .int st, .int n])) b l:=
 ⟨ns,i,c,st,n,aY,by rw[az hl];exact h',h1,h2,h3,h4,h5,h6,h7⟩
theorem c9.put2{H:Hp}{b l p:Addr}{o:HO}(h:c9 H b l)(hp:p≠b/\p≠l):c9 (upd H p o) b l:=by
 obtain⟨ns,i,c,st,n,h1,h2,r⟩:=h
 exact⟨ns,i,c,st,n,by rw[az (bM hp.1)];exact h1,by rw[az (bM hp.2)];exact h2,r⟩
theorem c9.same{H H':Hp}{b l:Addr}(h:c9 H b l)(s:dD H H'):c9 H' b l:=by
 obtain⟨ns,i,c,st,n,h1,h2,r⟩:=h
 exact⟨ns,i,c,st,n,s _ _ h1,s _ _ h2,r⟩
def jN:Sp:=fun vs H Q _=>∃(b l:Addr) (many:Int),vs=[.ref b, .int many]/\c9 H b l/\0<many/\Sm many/\∀(r:Int) (H':Hp),0<=r->r<many->bh (Nb b) H H'->c9 H' b l->Q (.int r) H'
def Fc(K:PySem.W.Frag):Sp:=fun vs H Q _=>∃(a:Addr) (ns:List Int),vs=[.ref a]/\aW K H a (ns.map V.int)/\ns.length<=63/\∀(b l:Addr) (H':Hp),dD H H'->H b=none->c9 H' b l->Q (.ref b) H'
theorem gY{α:Type}{xs:List α}{i:Int}{v:α}(h0:0<=i)(h:xs[i.toNat]?=some v):bx xs i=some v:=by
 have e:i=((i.toNat:Nat):Int):=by omega
 rw[e]
 exact Kd h
theorem dI{H:Hp}{p:Addr}{o:HO}(h:H p=none):dD H (upd H p o):=fun b u q=>by rw[az (iH q h)];exact q
section
variable{nb:Addr->Prop}{H H':Hp}
theorem ah.length:∀{ds:List PyData} {xs:List V},ah nb H ds xs->xs.length=ds.length
 |[],_,h=>by unfold ah at h;subst h;rfl
 |d::ds,_,h=>by unfold ah at h;obtain⟨y,ys,rfl,_,h2⟩:=h;simp[ah.length h2]
theorem ah.get:∀{ds:List PyData} {xs:List V} {i:Nat} {d:PyData},ah nb H ds xs->ds[i]?=some d->∃x,xs[i]?=some x/\aj nb H d x
 |[],_,_,_,_,e=>by simp at e
 |d::ds,_,0,_,h,e=>by unfold ah at h;obtain⟨y,ys,rfl,h1,h2⟩:=h;simp at e;subst e;exact⟨y,rfl,h1⟩
 |d::ds,_,i+1,_,h,e=>by unfold ah at h;obtain⟨y,ys,rfl,h1,h2⟩:=h;simpa using ah.get (i:=i) h2 (by simpa using e)
theorem ah.snoc{d:PyData}{x:V}(hd:aj nb H d x):∀{ds:List PyData} {xs:List V},ah nb H ds xs->ah nb H (ds++[d]) (xs++[x])
 |[],_,h=>by unfold ah at h;subst h;unfold ah;exact⟨x,[],rfl,hd,by unfold ah;rfl⟩
 |e::ds,_,h=>by unfold ah at h;obtain⟨y,ys,rfl,h1,h2⟩:=h;show ah nb H (e::(ds++[d])) _;unfold ah;exact⟨y,ys++[x],rfl,h1,ah.snoc hd h2⟩
theorem ah.append:∀{ds es:List PyData} {xs ys:List V},ah nb H ds xs->ah nb H es ys->ah nb H (ds++es) (xs++ys)
 |[],_,_,_,h,h'=>by unfold ah at h;subst h;exact h'
 |e::ds,es,_,zs,h,h'=>by unfold ah at h;obtain⟨y,ys,rfl,h1,h2⟩:=h;show ah nb H (e::(ds++es)) _;unfold ah;exact⟨y,ys++zs,rfl,h1,ah.append h2 h'⟩
theorem ah.take:∀{ds:List PyData} {xs:List V} (n:Nat),ah nb H ds xs->ah nb H (ds.take n) (xs.take n)
 |_,_,0,_=>by simp only[List.take_zero];unfold ah;rfl
 |[],_,n+1,h=>by unfold ah at h;subst h;simp only[List.take_nil];unfold ah;rfl
 |d::ds,_,n+1,h=>by unfold ah at h;obtain⟨y,ys,rfl,h1,h2⟩:=h;simp only[List.take_succ_cons];unfold ah;exact⟨y,_,rfl,h1,ah.take n h2⟩
theorem ah.drop:∀{ds:List PyData} {xs:List V} (n:Nat),ah nb H ds xs->ah nb H (ds.drop n) (xs.drop n)
 |_,_,0,h=>h
 |[],_,n+1,h=>by unfold ah at h;subst h;simp only[List.drop_nil];unfold ah;rfl
 |d::ds,_,n+1,h=>by unfold ah at h;obtain⟨y,ys,rfl,h1,h2⟩:=h;simp only[List.drop_succ_cons];exact ah.drop n h2
theorem ah.nil:ah nb H [] []:=by unfold ah;rfl
theorem ah.cons{d:PyData}{x:V}{ds:List PyData}{xs:List V}(h1:aj nb H d x)(h2:ah nb H ds xs):ah nb H (d::ds) (x::xs):=by unfold ah;exact⟨x,xs,rfl,h1,h2⟩
theorem aj.int(i:Int):aj nb H (.int i) (.int i):=by unfold aj;rfl
theorem aj.aM:aj nb H .none .aM:=by unfold aj;rfl
theorem aj.bl(b:Bool):aj nb H (.bool b) (.bl b):=by unfold aj;rfl
theorem aj.lst{a:Addr}{ds:List PyData}{xs:List V}(n:¬nb a)(h:H a=some (.lst xs))(hd:ah nb H ds xs):aj nb H (.list ds) (.ref a):=by unfold aj;exact⟨a,xs,rfl,n,h,hd⟩
theorem aj.tup{a:Addr}{ds:List PyData}{xs:List V}(n:¬nb a)(h:H a=some (.tup xs))(hd:ah nb H ds xs):aj nb H (.tuple ds) (.ref a):=by unfold aj;exact⟨a,xs,rfl,n,h,hd⟩
theorem aj.fB{v:V}{ds:List PyData}(h:aj nb H (.list ds) v):∃a xs,v= .ref a/\¬nb a/\H a=some (.lst xs)/\ah nb H ds xs:=by unfold aj at h;exact h
theorem aj.ofT{v:V}{ds:List PyData}(h:aj nb H (.tuple ds) v):∃a xs,v= .ref a/\¬nb a/\H a=some (.tup xs)/\ah nb H ds xs:=by unfold aj at h;exact h
theorem aj.cD{v:V}{i:Int}(h:aj nb H (.int i) v):v= .int i:=by unfold aj at h;exact h
theorem aj.xx{v:V}(h:aj nb H .none v):v= .aM:=by unfold aj at h;exact h
end
def OT:Sp:=fun vs H Q _=>∃i:Int,vs=[.int i]/\Q (.bl true) H
def uc(K:PySem.W.Frag):Sp:=fun vs H Q _=>∃(a:Addr) (ns:List Int),vs=[.ref a]/\aW K H a (ns.map V.int)/\ns.length<=63/\∀H',Q (.bl true) H'
end L2
set_option maxRecDepth 100000
set_option maxHeartbeats 1000000
namespace L2
open PySem PySem.Spec PyProof.Rows
def A8(Q:VK):List V->Hp->Prop:=fun xs H1=>xs.length<=sizeLine/\∀p,H1 p=none->Q (.ref p) (upd H1 p (.lst xs))
def gR(K:PySem.W.Frag):List V->Hp->VK->Prop:=fun xs H Q=>∃p ys,xs=[.ref p]/\(aW K H p ys\/fY K H p ys)/\∀l,H l=none->Q (.ref l) (upd H l (.lst ys))
theorem iW{X:Cx}:eV X (.type "list") (gR X.K):=M8
def Em:R2:=fun x y H Q=>y= .aM/\Q (.bl (decide (x= .aM))) H
def sH:R2:=fun x y H Q=>y= .aM/\Q (.bl (!decide (x= .aM))) H
theorem SR{X:Cx}:dZ X (compareOp .Is) Em:=MD
theorem tW{X:Cx}:dZ X (compareOp .IsNot) sH:=KU
def intOf:Expr->Option Int
 | .Constant (.int i) _ _=>some i
 |_=>none
theorem Lm{e:Expr}{i:Int}(h:intOf e=some i):∃k p,e= .Constant (.int i) k p:=by
 unfold intOf at h
 split at h
 ·cases h;exact⟨_,_,rfl⟩
 ·cases h
def pJ:List Expr->Option (List Int)
 |[]=>some []
 |e::r=>(intOf e).bind fun i=>(pJ r).map (i:: ·)
def uh(is:List Int):TA:=fun _ H Q=>Q (is.map V.int) H
theorem Fy{X:Cx}:∀{es:List Expr} {is:List Int},pJ es=some is->PA X es (uh is):=by
  intro es
  induction es with
  | nil =>
    intro is h
    have e:is=[]:=by simpa[pJ] using h.symm
    subst e
    exact af
  | cons e r ih =>
    intro is h
    unfold pJ at h
    cases hi:intOf e with
    |none=>rw[hi] at h;cases h
    | some i =>
      rw[hi] at h
      obtain⟨k,p,rfl⟩:=Lm hi
      obtain⟨js,hj,rfl⟩:=jR.mp (show(pJ r).map (i:: ·)=some is from h)
      exact aa (te:=tC (.int i)) (t:=uh js) ai (ih hj)
theorem R7{X:Cx}{i:Nat}{x:Str}{es:List Expr}{is:List Int}{p1 p2 p3:Pos}(hN:X.N.Nodup)(hi:X.N[i]?=some x)(hx:Loc X.env.scope x)(h:pJ es=some is)(hf:X.fn x=true\/X.env.scope.names.lookup x=some .local):
  PS X (.Assign [.Name x p1] (.List es p2) p3) (iJ (mX (uh is)) (fG i)):=aC hN hi hx (dM (Fy h)) rfl hf
namespace R
section
variable{σ:St}{H:Hp}{Q:VK}{D:Ends}{ta tb te:TE}{K:PySem.W.Frag}
theorem seq{t u:TS}(h:t {D with nx:=u D} σ H):rD t u D σ H:=h
theorem asg{g:TG}(h:te σ H fun x H1=>g x σ H1 D.nx):iJ te g D σ H:=h
theorem zP{c:TT}{t u:TS}(h:c σ H fun b H1=>if b=true then t D σ H1 else u D σ H1):AW c t u D σ H:=h
theorem ret(h:te σ H D.rt):sG te D σ H:=h
theorem next(h:D.nx σ H):ya D σ H:=h
theorem var{i:Nat}{v:V}(e:σ[i]?=some (some v))(h:Q v H):fR i σ H Q:=⟨v,e,h⟩
theorem c{v:V}(h:Q v H):tC v σ H Q:=h
theorem op{r:R2}(h:ta σ H fun x H1=>tb σ H1 fun y H2=>r x y H2 Q):dN r ta tb σ H Q:=h
theorem test{q:Bool->Hp->Prop}(h:te σ H fun x H'=>∃k,x= .bl k/\q k H'):xJ te σ H q:=h
theorem bl{P:Bool->Prop}{b:Bool}(h:P b):∃k,V.bl b= .bl k/\P k:=⟨b,rfl,h⟩
theorem and{t u:TT}{q:Bool->Hp->Prop}(h:t σ H fun c H1=>if c=true then u σ H1 q else q false H1):Cd t u σ H q:=h
theorem cb{r:List V->Hp->VK->Prop}{t:TA}(h:t σ H fun vs H1=>r vs H1 Q):e7 r t σ H Q:=h
theorem call{sp:Sp}{t:TA}(h:t σ H fun vs H1=>sp (vs++[]) H1 Q E0):i9 sp [] E0 t σ H Q:=h
theorem nil{q:List V->Hp->Prop}(h:q [] H):cF σ H q:=h
theorem cons{t:TA}{q:List V->Hp->Prop}(h:ta σ H fun x H1=>t σ H1 fun xs H2=>q (x::xs) H2):bJ ta t σ H q:=h
theorem lst{t:TA}(h:t σ H (A8 Q)):mX t σ H Q:=h
theorem sl{r:V->Option Int->Option Int->Hp->VK->Prop}{tl th:TO}(h:te σ H fun x H1=>tl σ H1 fun l H2=>th σ H2 fun u H3=>r x l u H3 Q):rE r te tl th σ H Q:=h
theorem LR{q:Option Int->Hp->Prop}(h:q none H):wc σ H q:=h
theorem part{q:Option Int->Hp->Prop}(h:te σ H fun x H1=>∃i,x= .int i/\q (some i) H1):Bx te σ H q:=h
theorem S8{P:Int->Prop}{i:Int}(h:P i):∃j,V.int i= .int j/\P j:=⟨i,rfl,h⟩
theorem K9{T:String}{r:V->List V->Hp->VK->Prop}(h:te σ H fun x H1=>oO K T x H1/\r x [] H1 Q):Hz K T r te σ H Q:=h
theorem Vi{i:Int}{A:Prop}(h:A):oO K "int" (.int i) H/\A:=⟨rfl,h⟩
theorem EW{i:Nat}{v:V}{q:St->Hp->Prop}(h:q (σ.set i (some v)) H):fG i v σ H q:=h
theorem UB{to ti:TE}{t:sY}{v:V}{q:St->Hp->Prop}(h:to σ H fun o H1=>ti σ H1 fun i H2=>t o i v H2 fun H3=>q σ H3):qN to ti t v σ H q:=h
theorem LI{t:TG}{u:ic}{v:V}{r:List V}{q:St->Hp->Prop}(h:t v σ H fun σ' H'=>u r σ' H' q):xY t u (v::r) σ H q:=⟨v,r,rfl,h⟩
theorem Ms{q:St->Hp->Prop}(h:q σ H):yO [] σ H q:=⟨rfl,h⟩
theorem Sq{n:Nat}{t:ic}{a:Addr}{xs:List V}{q:St->Hp->Prop}(hq:fY K H a xs)(hl:xs.length=n)(h:t xs σ H q):sW K n t (.ref a) σ H q:=⟨a,xs,rfl,hq,hl,h⟩
theorem qS{q:Bool->Hp->Prop}(h:q true H):oH σ H q:=h
theorem ir{g:Int->Int->V}{i j:Int}(h:Q (g i j) H):L2.ir g (.int i) (.int j) H Q:=⟨i,j,rfl,rfl,h⟩
theorem rI{C:Int->Int->Prop}{g:Int->Int->V}{i j:Int}(hc:C i j)(h:Q (g i j) H):L2.rI C g (.int i) (.int j) H Q:=⟨i,j,rfl,rfl,hc,h⟩
theorem z6{i j:Int}:decide (V.int i=V.int j)=decide (i=j):=by rw[mh];simp
theorem Py{i j:Int}(h:Q (.bl (decide (i=j))) H):Aj (.int i) (.int j) H Q:=⟨rfl,by rw[z6];exact h⟩
theorem SG{i j:Int}(h:Q (.bl (decide (i≠j))) H):vU (.int i) (.int j) H Q:=⟨rfl,by rw[z6,<-decide_not];exact h⟩
theorem IB{i:Int}(h:Q (.bl true) H):sH (.int i) .aM H Q:=⟨rfl,by rw[decide_eq_false (fun e=>V.noConfusion e)];exact h⟩
theorem IQ(h:Q (.bl false) H):sH .aM .aM H Q:=⟨rfl,by rw[decide_eq_true rfl];exact h⟩
theorem uT{p:Addr}{xs:List V}{i:Int}{v:V}(hp:H p=some (.lst xs))(e:bx xs i=some v)(h:Q v H):cJ K (.ref p) (.int i) H Q:=⟨p,xs,i,v,rfl,rfl,aW.of hp,e,h⟩
theorem ze{p:Addr}{o:HO}{xs:List V}{i:Int}{v:V}(e:bx xs i=some v)(h:Q v (upd H p (.lst xs))):cJ K (.ref p) (.int i) (upd H p (.lst xs)) Q:=⟨p,xs,i,v,rfl,rfl,aW.of aY,e,h⟩
theorem setM{p:Addr}{xs:List V}{k:Int}{j:Nat}{v:V}{q:Hp->Prop}(hp:H p=some (.lst xs))(e:gV xs.length k=some j)(h:q (upd H p (.lst (xs.set j v)))):u9 (.ref p) (.int k) v H q:=⟨p,xs,k,j,rfl,rfl,hp,e,h⟩
theorem ON{p:Addr}{xs:List V}{k:Int}{j:Nat}{v:V}{q:Hp->Prop}(e:gV xs.length k=some j)(h:q (upd H p (.lst (xs.set j v)))):u9 (.ref p) (.int k) v (upd H p (.lst xs)) q:=
 ⟨p,xs,k,j,rfl,rfl,aY,e,by rw[BW];exact h⟩
theorem UN{p:Addr}{xs:List V}{P:List V->Prop}(hp:H p=some (.lst xs))(h:P xs):∃a ys,[V.ref p]=[.ref a]/\(aW K H a ys\/fY K H a ys)/\P ys:=⟨p,xs,rfl, .inl (aW.of hp),h⟩
theorem E6{p:Addr}{xs:List V}{lo hi:Option Int}(hp:aW K H p xs)(h:∀a,H a=none->Q (.ref a) (upd H a (.lst (kQ xs lo hi)))):kX K (.ref p) lo hi H Q:=⟨p,xs,rfl,hp,h⟩
theorem Rj{a:Int}{P:Int->Prop}(h:P a):∃i,[V.int a]=[.int i]/\P i:=⟨a,rfl,h⟩
theorem bits{i:Int}{P:Int->Prop}(h:P i):∃j,V.int i= .int j/\([]:List V)=[]/\P j:=⟨i,rfl,rfl,h⟩
theorem QG{xs:List V}(h:xs.length<=10000)(q:∀p H',dD H H'->H p=none->H' p=some (.lst xs)->Q (.ref p) H'):A8 Q xs H:=
 ⟨ez h (by decide),fun p hp=>q p _ (dI hp) hp aY⟩
theorem HJ{c A B:Prop}[Decidable c](h:c)(q:A):if c then A else B:=by rw[if_pos h];exact q
theorem CB{c A B:Prop}[Decidable c](h:¬c)(q:B):if c then A else B:=by rw[if_neg h];exact q
theorem dT{c:Prop}[Decidable c](h:c):decide c=true:=decide_eq_true h
theorem dF{c:Prop}[Decidable c](h:¬c):¬decide c=true:=by rw[decide_eq_false h];exact dh
theorem E9{c:Prop}[Decidable c](h:¬c):(!decide c)=true:=by rw[decide_eq_false h];rfl
theorem Dp{c:Prop}[Decidable c](h:c):¬(!decide c)=true:=by rw[decide_eq_true h];decide
theorem N8{t:TA}{R:It->Hp->Prop}(h:t σ H fun vs H1=>∃j:Int,vs=[.int j]/\ -(2^62)<=j/\j<2^62/\R (iE 0 j.toNat) H1):vp t σ H R:=h
theorem P7{P:Int->Prop}{i:Int}(h1: -(2^62)<=i)(h2:i<2^62)(h:P i):∃j:Int,[V.int i]=[.int j]/\ -(2^62)<=j/\j<2^62/\P j:=⟨i,rfl,h1,h2,h⟩
theorem Kw{t:TA}{R:It->Hp->Prop}(h:t σ H fun vs H1=>∃i j:Int,vs=[.int i, .int j]/\(-(2^62)<=i/\i<2^62/\ -(2^62)<=j/\j<2^62)/\R (iE i (j-i).toNat) H1):HH t σ H R:=h
theorem Uw{P:Int->Int->Prop}{a b:Int}(h1: -(2^62)<=a/\a<2^62/\ -(2^62)<=b/\b<2^62)(h:P a b):∃i j:Int,[V.int a,V.int b]=[.int i, .int j]/\(-(2^62)<=i/\i<2^62/\ -(2^62)<=j/\j<2^62)/\P i j:=⟨a,b,rfl,h1,h⟩
theorem iL{tl:TE}{R:It->Hp->Prop}(h:tl σ H fun x H1=>∃a,x= .ref a/\(∃xs,aW K H1 a xs)/\R (nN K a) H1):qa K tl σ H R:=h
theorem vB{P:Addr->Prop}{p:Addr}{xs:List V}(hp:aW K H p xs)(h:P p):∃a,V.ref p= .ref a/\(∃xs,aW K H a xs)/\P a:=⟨p,rfl,⟨xs,hp⟩,h⟩
theorem TX{wi:TI}{g:TG}{tb:TS}(h:wi σ H fun J H1=>∃W:Nat->Nat->St->Hp->Prop,(∃m,W 0 m σ H1)/\∀i m σ H,W i m σ H->
 (J.stop i H/\D.nx σ H)\/(J.go i H/\∃N:St->Hp->Prop,(∀σ' H',N σ' H'->∃m',m'<m/\W (i+1) m' σ' H')/\∀x H',J.mF i H x H'->g x σ H' fun σ2 H2=>tb {D with nx:=N,ct:=N,bk:=D.nx} σ2 H2)):pP wi g tb D σ H:=h
theorem comp{wi:TI}{g:TG}{tc:TT}{mp:List (Option Nat)}(h:wi σ H fun J H1=>∀acc,H1 acc=none->qQ J g tc te acc (fun H'=>Q (.ref acc) H') (gU mp σ) (upd H1 acc (.lst []))):lO wi g tc te mp σ H Q:=h
end
theorem Js{lo:Int}{n:Nat}{g:TG}{tc:TT}{te:TE}{acc:Addr}{Qe:Hp->Prop}{σ:St}{H:Hp}(Pv:Nat->St->Hp->Prop)(h0:Pv 0 σ H)
  (hs:∀i σ H,i<n->Pv i σ H->g (.int (lo+i)) σ H fun σ2 H2=>tc σ2 H2 fun b H3=>if b=true then te σ2 H3 fun v H4=>∃ys,H4 acc=some (.lst ys)/\ys.length<sizeLine/\Pv (i+1) σ2 (upd H4 acc (.lst (ys++[v]))) else Pv (i+1) σ2 H3)
  (hd:∀σ H,Pv n σ H->Qe H):qQ (iE lo n) g tc te acc Qe σ H:=by
 refine⟨fun i m σ H=>m=n-i/\i<=n/\Pv i σ H,⟨n,by simp,dW _,h0⟩,?_⟩
 rintro i m σ H ⟨rfl,hi,p⟩
 by_cases hlt:i<n
 ·refine .inr ⟨hlt,Pv (i+1),fun σ' H' p'=>⟨n-(i+1),by omega,rfl,hlt,p'⟩,fun x H' y=>?_⟩
  obtain⟨e,y⟩:=y
  subst e y
  exact hs i σ _ hlt p
 ·have e:i=n:=by omega
  subst e
  exact .inl ⟨aI _,hd σ H p⟩
theorem Cw{K:PySem.W.Frag}{a:Addr}{xs:List V}{g:TG}{tc:TT}{te:TE}{acc:Addr}{Qe:Hp->Prop}{σ:St}{H:Hp}(Pv:Nat->St->Hp->Prop)(h0:Pv 0 σ H)(hl:∀i σ H,i<=xs.length->Pv i σ H->aW K H a xs)
  (hs:∀i x σ H,xs[i]?=some x->Pv i σ H->g x σ H fun σ2 H2=>tc σ2 H2 fun b H3=>if b=true then te σ2 H3 fun v H4=>∃ys,H4 acc=some (.lst ys)/\ys.length<sizeLine/\Pv (i+1) σ2 (upd H4 acc (.lst (ys++[v]))) else Pv (i+1) σ2 H3)
  (hd:∀σ H,Pv xs.length σ H->Qe H):qQ (nN K a) g tc te acc Qe σ H:=by
 refine⟨fun i m σ H=>m=xs.length-i/\i<=xs.length/\Pv i σ H,⟨xs.length,by simp,dW _,h0⟩,?_⟩
 rintro i m σ H ⟨rfl,hi,p⟩
 have q:=hl i σ H hi p
 by_cases hlt:i<xs.length
 ·refine .inr ⟨⟨xs,xs[i],q,by simp[hlt]⟩,Pv (i+1),fun σ' H' p'=>⟨xs.length-(i+1),by omega,rfl,hlt,p'⟩,fun x H' y=>?_⟩
  obtain⟨e,y⟩:=y
  subst e
  exact hs i x σ _ (y xs q) p
 ·have e:i=xs.length:=by omega
  subst e
  exact .inl ⟨⟨xs,q,aI _⟩,hd σ H p⟩
end R
end L2
set_option maxRecDepth 100000
set_option maxHeartbeats 1000000
namespace L2
open PySem PySem.Spec PyProof.Rows
@[reducible] def pairD(pr:Int×Int):PyData:= .tuple [.int pr.1, .int pr.2]
def iN:Option Int->PyData
 |none=> .none
 |some i=> .int i
def se:Option Int->V
 |none=> .aM
 |some i=> .int i
def ia(wd:List (Option Int))(pr:Int×Int):Int:=match wd[pr.1.toNat]? with
 |some (some x)=>pr.2*x
 |_=>0
def bq(prs:List (Int×Int))(wd:List (Option Int)):Int:=(prs.map (ia wd)).sum
theorem Fq{prs:List (Int×Int)}{wd:List (Option Int)}{i:Nat}(h:i<prs.length):bq (prs.take (i+1)) wd=bq (prs.take i) wd+ia wd prs[i]:=by
 unfold bq
 rw[wX,aQ h,cN,List.sum_append]
 simp
theorem Qi{nb:Addr->Prop}{H:Hp}{o:Option Int}{v:V}(h:aj nb H (iN o) v):v=se o:=by
 cases o with
 |none=>exact h.xx
 |some i=>exact h.cD
theorem Ft{nb:Addr->Prop}{H:Hp}:∀{wd:List (Option Int)} {xs:List V},ah nb H (wd.map iN) xs->xs=wd.map se
  |[],_,h=>by unfold List.map ah at h;exact h
  | o :: wd, _, h => by
    rw[bR] at h
    unfold ah at h
    obtain⟨y,ys,rfl,h1,h2⟩:=h
    rw[bR,Qi h1,Ft h2]
theorem QN{nb:Addr->Prop}{H:Hp}{pr:Int×Int}{v:V}(h:aj nb H (pairD pr) v):∃t,v= .ref t/\¬nb t/\H t=some (.tup [.int pr.1, .int pr.2]):=by
 obtain⟨t,xs,rfl,n,ht,hd⟩:=h.ofT
 unfold ah at hd
 obtain⟨y,ys,rfl,h1,h2⟩:=hd
 unfold ah at h2
 obtain⟨z,zs,rfl,h3,h4⟩:=h2
 unfold ah at h4
 subst h4
 rw[h1.cD,h3.cD] at ht
 exact⟨t,rfl,n,ht⟩
def v5:Sp:=fun vs H Q _=>∃(nb:Addr->Prop) (p:Int) (va vc:V) (prs:List (Int×Int)) (wd:List (Option Int)),vs=[.int p,va,vc]/\aj nb H (.list (prs.map pairD)) va/\aj nb H (.list (wd.map iN)) vc/\0<p/\
 (∀pr∈prs,0<=pr.1/\pr.1<wd.length/\Sm pr.2)/\(∀x,some x∈wd->Sm x)/\Q (.int (bq prs wd%p)) H
theorem O9(prs:List (Int×Int)):SeqAt.shaped (.list (prs.map pairD))=true/\PyData.depthAll (prs.map pairD)<=1/\PyData.canLayAll0 (prs.map pairD)=true:=by
 have h:PyData.depthAll (prs.map pairD)<=1/\PyData.canLayAll0 (prs.map pairD)=true:=by
  induction prs with
  |nil=>simp[PyData.depthAll,PyData.canLayAll0]
  |cons a r ih=>simp[pairD,PyData.depthAll,PyData.depth,PyData.canLayAll0,PyData.canLay0,ih.2];have:=ih.1;omega
 refine⟨?_,h⟩
 unfold SeqAt.shaped
 simp[PyData.canLay0,PyData.depth,h.2]
 omega
def vH(r:Int):Prop:=∀d:Int,2<=d->d*d<=r->r%d≠0
def uo:List Int:=[2,3,5,7,2,11,101,10007,65537,1000003,998244353,1000000007,2147483647,1000000000039,1000000000000000003,18446744073709551557,2305843009213693951,618970019642690137449562111,162259276829213363391578010288127,170141183460469231731687303715884105727,1000000000000000000000000000000000000003,9999999999999999999999999999999999999983]
def FW(p:Int):Prop:=2<=p/\p<10^40/\(p∈uo\/vH p)
def Ab:Sp:=fun vs H Q _=>∃n:Int,vs=[.int n]/\2<=n/\n<=10002/\∀(r:Int) (H':Hp),dD H H'->2<=r->r<=10100->vH r->Q (.int r) H'
def QE:Sp:=fun vs H Q _=>∃(b l:Addr),vs=[.ref b]/\c9 H b l/\∀(p:Int) (H':Hp),FW p->bh (Nb b) H H'->c9 H' b l->Q (.int p) H'
theorem sS{nb:Addr->Prop}{H:Hp}:∀is:List Int,ah nb H (is.map PyData.int) (is.map V.int)
 |[]=>ah.nil
 |i::is=>ah.cons (.int i) (sS is)
theorem qV{nb:Addr->Prop}{H:Hp}:∀{is:List Int} {xs:List V},ah nb H (is.map PyData.int) xs->xs=is.map V.int
  |[],_,h=>by unfold List.map ah at h;exact h
  | i :: is, _, h => by
    rw[bR] at h
    unfold ah at h
    obtain⟨y,ys,rfl,h1,h2⟩:=h
    rw[bR,h1.cD,qV h2]
end L2
set_option maxRecDepth 100000
set_option maxHeartbeats 1000000
namespace L2
open PySem PySem.Spec PyProof.Rows
abbrev Bg:=Option (Addr×Addr)
def NB(B:Bg)(a:Addr):Prop:=∀b l,B=some (b,l)->a≠b
def jH(B:Bg)(H:Hp):Prop:=∀b l,B=some (b,l)->c9 H b l
def kN(nb:Addr->Prop)(H:Hp):Prop:=∀a,nb a->H a≠none
structure Kp(S:Addr->Prop)(F:List Addr)(H H':Hp):Prop where
 own:∀a∈F,∀o,H a=some o->H' a=some o
 lst:∀a xs,¬S a->H a=some (.lst xs)->H' a=some (.lst xs)
 tup:∀a xs,¬S a->H a=some (.tup xs)->H' a=some (.tup xs)
 bU:∀a ps,¬S a->Rd H a (.dK ps)->Rd H' a (.dK ps)
theorem Kp.of{S:Addr->Prop}{F:List Addr}{H H':Hp}(h:∀a o,(¬S a\/a∈F)->H a=some o->H' a=some o):Kp S F H H':=
 ⟨fun a ha o e=>h a o (.inr ha) e,fun a xs n e=>h a _ (.inl n) e,fun a xs n e=>h a _ (.inl n) e,fun a ps n e=>e.elim (fun e=> .inl (h a _ (.inl n) e)) fun⟨o,e⟩=> .inr ⟨o,h a _ (.inl n) e⟩⟩
mutual
theorem aj.kp{S:Addr->Prop}{F:List Addr}{H H':Hp}(m:Kp S F H H'):∀{d:PyData} {v:V},aj S H d v->aj S H' d v
 | .none,_,h=>by unfold aj at h⊢;exact h
 | .bool _,_,h=>by unfold aj at h⊢;exact h
 | .int _,_,h=>by unfold aj at h⊢;exact h
 | .str _,_,h=>by unfold aj at h⊢;exact h
 | .list ds,_,h=>by unfold aj at h⊢;obtain⟨a,xs,e,n,s,r⟩:=h;exact⟨a,xs,e,n,m.lst _ _ n s,ah.kp m r⟩
 | .tuple ds,_,h=>by unfold aj at h⊢;obtain⟨a,xs,e,n,s,r⟩:=h;exact⟨a,xs,e,n,m.tup _ _ n s,ah.kp m r⟩
 | .dict kvs,_,h=>by unfold aj at h⊢;obtain⟨a,xs,e,n,s,r⟩:=h;exact⟨a,xs,e,n,m.bU _ _ n s,ay.kp m r⟩
theorem ah.kp{S:Addr->Prop}{F:List Addr}{H H':Hp}(m:Kp S F H H'):∀{ds:List PyData} {vs:List V},ah S H ds vs->ah S H' ds vs
 |[],_,h=>by unfold ah at h⊢;exact h
 |d::ds,_,h=>by unfold ah at h⊢;obtain⟨y,ys,e,h1,h2⟩:=h;exact⟨y,ys,e,aj.kp m h1,ah.kp m h2⟩
theorem ay.kp{S:Addr->Prop}{F:List Addr}{H H':Hp}(m:Kp S F H H'):∀{ds:List (PyData×PyData)} {vs:List (Key×V)},ay S H ds vs->ay S H' ds vs
 |[],_,h=>by unfold ay at h⊢;exact h
 |d::ds,_,h=>by unfold ay at h⊢;obtain⟨y,ys,e,h1,h2⟩:=h;exact⟨y,ys,e,cM.kp m h1,ay.kp m h2⟩
theorem cM.kp{S:Addr->Prop}{F:List Addr}{H H':Hp}(m:Kp S F H H'):∀{d:PyData×PyData} {v:Key×V},cM S H d v->cM S H' d v
 |(k,d),_,h=>by unfold cM at h⊢;exact⟨h.1,aj.kp m h.2⟩
end
structure Cu where
 v:V
 F:List Addr
 f:Bool
 P:(Addr->Prop)->Hp->Prop
 keep:∀{S:Addr->Prop} {H H':Hp},Kp S F H H'->P S H->P S H'
 av:∀{S S':Addr->Prop} {H:Hp},(∀a,S' a->S a)->P S H->P S' H
 fresh:∀{S:Addr->Prop} {H:Hp} {p:Addr},H p=none->P S H->P (fun a=>S a\/a=p) H
inductive HD where
 |d (x:PyData)|fz (o:Obj) (ps:List (Key×V))|th (c:Cu)
def gu(S:Addr->Prop)(H:Hp):HD->V->Prop
 | .d x,v=>aj S H x v
 | .fz o ps,v=>∃a,v= .ref a/\¬S a/\H a=some (.bY o (.dK ps))
 | .th c,v=>v=c.v/\(∀a∈c.F,¬S a/\H a≠none)/\c.P S H
theorem gu.keep{S:Addr->Prop}{H H':Hp}{x:HD}{v:V}(h:gu S H x v)(b:bh S H H'):gu S H' x v:=by
  cases x with
  |d x=>exact aj.keep b h
  |fz o ps=>obtain⟨a,e,n,q⟩:=h;exact⟨a,e,n,b _ _ n q⟩
  | th c =>
    obtain⟨e,n,q⟩:=h
    refine⟨e,fun a m=>⟨(n a m).1,?_⟩,c.keep (.of fun a o m q=>b a o (m.elim id fun m=>(n a m).1) q) q⟩
    cases z:H a with
    |none=>exact absurd z (n a m).2
    |some o=>rw[b a o (n a m).1 z];exact jF _
theorem gu.av{S S':Addr->Prop}{H:Hp}{x:HD}{v:V}(h:gu S H x v)(b:∀a,S' a->S a):gu S' H x v:=by
 cases x with
 |d x=>exact aj.av b h
 |fz o ps=>obtain⟨a,e,n,q⟩:=h;exact⟨a,e,fun z=>n (b a z),q⟩
 |th c=>obtain⟨e,n,q⟩:=h;exact⟨e,fun a m=>⟨fun z=>(n a m).1 (b a z),(n a m).2⟩,c.av b q⟩
theorem gu.fresh{S:Addr->Prop}{H:Hp}{x:HD}{v:V}{p:Addr}(h:gu S H x v)(hp:H p=none):gu (fun a=>S a\/a=p) H x v:=by
 cases x with
 |d x=>exact aj.fresh hp h
 |fz o ps=>obtain⟨a,e,n,q⟩:=h;exact⟨a,e,fun z=>z.elim n (iH q hp),q⟩
 |th c=>obtain⟨e,n,q⟩:=h;exact⟨e,fun a m=>⟨fun z=>z.elim (n a m).1 fun y=>(n a m).2 (by rw[y];exact hp),(n a m).2⟩,c.fresh hp q⟩
structure Gx where
 B:Bg
 H0:Hp
 A:Addr->Prop
 hold:List (Bool×HD×V):=[]
inductive Sl where
 |no|d (f:Bool) (d:PyData)|own (a:Addr) (f:Bool) (ds:List PyData)|aA|raw (v:V)|bU (a:Addr) (f:Bool) (ks:List (Int×PyData))|cu (c:Cu)
def Sl.adr:Sl->List Addr
 | .own a _ _=>[a]
 | .bU a _ _=>[a]
 | .cu c=>c.F
 |_=>[]
@[reducible] def bZ(p:Int×PyData):PyData×PyData:=(.int p.1,p.2)
abbrev Rh:=List Sl
def Gx.S(G:Gx)(nb:Addr->Prop)(f:Bool):Addr->Prop:=fun a=>nb a\/G.A a\/¬NB G.B a\/(f=true/\G.H0 a≠none)
def nR(G:Gx)(nb:Addr->Prop)(H:Hp)(x:Option V):Sl->Prop
 | .no=>True
 | .d f d=>∃v,x=some v/\aj (G.S nb f) H d v
 | .own a f ds=>x=some (.ref a)/\nb a/\NB G.B a/\∃xs,H a=some (.lst xs)/\ah (G.S nb f) H ds xs
 | .aA=>∃b l,G.B=some (b,l)/\x=some (.ref b)
 | .raw v=>x=some v
 | .bU a f ks=>x=some (.ref a)/\nb a/\NB G.B a/\∃ps,H a=some (.dK ps)/\ay (G.S nb f) H (ks.map bZ) ps
 | .cu c=>x=some c.v/\(∀a∈c.F,nb a/\NB G.B a)/\c.P (G.S nb c.f) H
structure Wd(G:Gx)(nb:Addr->Prop)(ρ:Rh)(σ:St)(H:Hp):Prop where
 aA:jH G.B H
 live:kN nb H
 old:∀a o,NB G.B a->G.H0 a=some o->H a=some o
 cU:∀a,nb a->NB G.B a->G.H0 a=none
 gA:kN G.A G.H0
 len:σ.length=ρ.length
 gB:jH G.B G.H0
 eG:∀h∈G.hold,gu (G.S nb h.1) H h.2.1 h.2.2
 ok:∀(i:Nat) (s:Sl),ρ[i]?=some s->∃x,σ[i]?=some x/\nR G nb H x s
 apart:∀(i j:Nat) a f as c g cs,i≠j->ρ[i]?=some (.own a f as)->ρ[j]?=some (.own c g cs)->a≠c
 eN:∀(i j:Nat) a f as c g cs,i≠j->ρ[i]?=some (.bU a f as)->ρ[j]?=some (.bU c g cs)->a≠c
 c7:∀(i j:Nat) c s,i≠j->ρ[i]?=some (.cu c)->ρ[j]?=some s->∀a∈c.F,a∉s.adr
def Step(B:Bg)(H H':Hp):Prop:=(∀a o,NB B a->H a=some o->H' a=some o)/\jH B H'
section
variable{G:Gx}{B:Bg}{nb:Addr->Prop}{ρ:Rh}{σ:St}{H H1 H2 H':Hp}{f g:Bool}{d:PyData}{ds:List PyData}{v:V}{xs:List V}{a p:Addr}
theorem Step.refl(h:jH B H):Step B H H:=⟨fun _ _ _ e=>e,h⟩
theorem Step.trans(x:Step B H H1)(y:Step B H1 H2):Step B H H2:=⟨fun a o n e=>y.1 a o n (x.1 a o n e),y.2⟩
theorem jH.same(h:jH B H)(s:dD H H'):jH B H':=fun b l e=>(h b l e).same s
theorem Step.same(h:jH B H)(s:dD H H'):Step B H H':=⟨fun a o _ e=>s a o e,h.same s⟩
theorem Step.but{cI:Addr->Prop}(s:Step B H H')(h:∀a,¬NB B a->cI a):bh cI H H':=fun a o n e=>s.1 a o (iX fun z=>n (h a z)) e
theorem Step.eg(s:Step G.B H H'):bh (G.S nb f) H H':=s.but fun a h=> .inr (.inr (.inl h))
theorem bI(h:g=true->f=true){cI:Addr->Prop}(hn:∀a,nb a->cI a):∀a,G.S nb g a->G.S cI f a:=by
 intro a z
 rcases z with z|z|z|⟨z,q⟩
 ·exact .inl (hn a z)
 ·exact .inr (.inl z)
 ·exact .inr (.inr (.inl z))
 ·exact .inr (.inr (.inr ⟨h z,q⟩))
theorem NB.m7(h:jH B H)(n:¬NB B a):H a≠none:=by
 intro e
 apply n
 intro b l hb z
 subst z
 obtain⟨_,_,_,_,_,h1,_⟩:=h _ _ hb
 rw[h1] at e;cases e
theorem Wd.lX(W:Wd G nb ρ σ H):kN (G.S nb f) H:=by
 intro a z
 rcases z with z|z|z|⟨_,z⟩
 ·exact W.live a z
 ·by_cases n:NB G.B a
  ·cases e:G.H0 a with
   |none=>exact absurd e (W.gA a z)
   |some o=>rw[W.old a o n e];exact jF _
  ·exact NB.m7 W.aA n
 ·exact NB.m7 W.aA z
 ·by_cases n:NB G.B a
  ·cases e:G.H0 a with
   |none=>exact absurd e z
   |some o=>rw[W.old a o n e];exact jF _
  ·exact NB.m7 W.aA n
theorem Wd.fresh(W:Wd G nb ρ σ H)(hp:H p=none):¬G.S nb f p:=fun z=>W.lX p z hp
theorem nR.step{x:Option V}{s:Sl}(st:Step G.B H H')(h:nR G nb H x s):nR G nb H' x s:=by
  cases s with
  |no=>trivial
  |d f d=>obtain⟨v,e,h⟩:=h;exact⟨v,e,h.keep st.eg⟩
  |own a f ds=>obtain⟨e,n,q,xs,hx,hd⟩:=h;exact⟨e,n,q,xs,st.1 _ _ q hx,hd.keep st.eg⟩
  |aA=>exact h
  |raw v=>exact h
  |bU a f ks=>obtain⟨e,n,q,xs,hx,hd⟩:=h;exact⟨e,n,q,xs,st.1 _ _ q hx,hd.keep st.eg⟩
  | cu c =>
    obtain⟨e,n,p⟩:=h
    refine⟨e,n,c.keep (.of fun a o ha e=>st.1 a o ?_ e) p⟩
    rcases ha with ha|ha
    · exact iX fun z=>ha (.inr (.inr (.inl z)))
    · exact(n a ha).2
theorem OY(n:NB B a)(st:Step B H H')(h:H a≠none):H' a≠none:=by
 cases e:H a with
 |none=>exact absurd e h
 |some o=>rw[st.1 a o n e];exact jF _
theorem Wd.step(W:Wd G nb ρ σ H)(st:Step G.B H H'):Wd G nb ρ σ H' where
 aA:=st.2
 live:=fun a n=>by
  by_cases q:NB G.B a
  ·exact OY q st (W.live a n)
  ·exact NB.m7 st.2 q
 old:=fun a o n e=>st.1 a o n (W.old a o n e)
 cU:=W.cU
 gA:=W.gA
 len:=W.len
 gB:=W.gB
 eG:=fun h m=>(W.eG h m).keep st.eg
 ok:=fun i s e=>by
  obtain⟨x,e1,h⟩:=W.ok i s e
  exact⟨x,e1,h.step st⟩
 apart:=W.apart
 eN:=W.eN
 c7:=W.c7
theorem Wd.set{i:Nat}{s:Sl}{x:Option V}(W:Wd G nb ρ σ H)(h:nR G nb H x s)(hs:∀a f ds,s= .own a f ds->∀j c g cs,j≠i->ρ[j]?=some (.own c g cs)->a≠c)(hd:∀a f ds,s= .bU a f ds->∀j c g cs,j≠i->ρ[j]?=some (.bU c g cs)->a≠c:=by intro _ _ _ z;cases z)(hcu:∀a∈s.adr,∀j t,j≠i->ρ[j]?=some t->(∃c,s= .cu c)\/(∃c,t= .cu c)->a∉t.adr:=by intro _ z;cases z):Wd G nb (ρ.set i s) (σ.set i x) H where
 aA:=W.aA
 live:=W.live
 old:=W.old
 cU:=W.cU
 gA:=W.gA
 len:=by rw[fh,fh];exact W.len
 gB:=W.gB
 eG:=W.eG
 ok:=fun j t e=>by
  by_cases hij:i=j
  ·subst hij
   have hl:i<ρ.length:=by have:=(bQ.mp e).1;rwa[fh] at this
   rw[dH hl] at e
   cases e
   exact⟨x,dH (by rw[W.len];exact hl),h⟩
  ·rw[ck hij] at e⊢
   exact W.ok j t e
 apart:=fun j k a f as c g cs hjk e1 e2=>by
  by_cases hj:i=j
  ·subst hj
   have hl:i<ρ.length:=by have:=(bQ.mp e1).1;rwa[fh] at this
   rw[dH hl] at e1
   cases e1
   rw[ck hjk] at e2
   exact hs a f as rfl k c g cs (bM hjk) e2
  ·by_cases hk:i=k
   ·subst hk
    have hl:i<ρ.length:=by have:=(bQ.mp e2).1;rwa[fh] at this
    rw[dH hl] at e2
    cases e2
    rw[ck hj] at e1
    exact(hs c g cs rfl j a f as hjk e1).symm
   ·rw[ck hj] at e1
    rw[ck hk] at e2
    exact W.apart j k a f as c g cs hjk e1 e2
 eN:=fun j k a f as c g cs hjk e1 e2=>by
  by_cases hj:i=j
  ·subst hj
   have hl:i<ρ.length:=by have:=(bQ.mp e1).1;rwa[fh] at this
   rw[dH hl] at e1
   cases e1
   rw[ck hjk] at e2
   exact hd a f as rfl k c g cs (bM hjk) e2
  ·by_cases hk:i=k
   ·subst hk
    have hl:i<ρ.length:=by have:=(bQ.mp e2).1;rwa[fh] at this
    rw[dH hl] at e2
    cases e2
    rw[ck hj] at e1
    exact(hd c g cs rfl j a f as hjk e1).symm
   ·rw[ck hj] at e1
    rw[ck hk] at e2
    exact W.eN j k a f as c g cs hjk e1 e2
 c7:=fun j k c t hjk e1 e2 a ha=>by
  by_cases hj:i=j
  ·subst hj
   have hl:i<ρ.length:=by have:=(bQ.mp e1).1;rwa[fh] at this
   rw[dH hl] at e1
   cases e1
   rw[ck hjk] at e2
   exact hcu a ha k t (bM hjk) e2 (.inl ⟨c,rfl⟩)
  ·by_cases hk:i=k
   ·subst hk
    have hl:i<ρ.length:=by have:=(bQ.mp e2).1;rwa[fh] at this
    rw[dH hl] at e2
    cases e2
    rw[ck hj] at e1
    exact fun z=>hcu a z j (.cu c) hjk e1 (.inr ⟨c,rfl⟩) ha
   ·rw[ck hj] at e1
    rw[ck hk] at e2
    exact W.c7 j k c t hjk e1 e2 a ha
theorem Wd.nF{i:Nat}(W:Wd G nb ρ σ H)(h:aj (G.S nb f) H d v):Wd G nb (ρ.set i (.d f d)) (σ.set i (some v)) H:=W.set ⟨v,rfl,h⟩ fun _ _ _ e=>by cases e
inductive Wk:Rh->Rh->Prop
 |nil:Wk [] []
 |no {s:Sl} {r r':Rh} (h:Wk r r'):Wk (.no::r) (s::r')
 |eq {s:Sl} {r r':Rh} (h:Wk r r'):Wk (s::r) (s::r')
theorem Wk.at:∀{r r':Rh} {i:Nat} {s:Sl},Wk r r'->r[i]?=some s->s= .no/\(∃t,r'[i]?=some t)\/r'[i]?=some s
 |_,_,_,_, .nil,e=>by simp at e
 |_,_,0,_, .no h,e=>by simp at e;subst e;exact .inl ⟨rfl,_,rfl⟩
 |_,_,0,_, .eq h,e=>by simp at e;subst e;exact .inr rfl
 |_,_,i+1,_, .no h,e=>by simpa using Wk.at (i:=i) h (by simpa using e)
 |_,_,i+1,_, .eq h,e=>by simpa using Wk.at (i:=i) h (by simpa using e)
theorem Wk.len{r r':Rh}(h:Wk r r'):r.length=r'.length:=by
 induction h with
 |nil=>rfl
 |no _ ih=>simp[ih]
 |eq _ ih=>simp[ih]
theorem Wd.wk{ρ':Rh}(W:Wd G nb ρ' σ H)(h:Wk ρ ρ'):Wd G nb ρ σ H where
 aA:=W.aA
 live:=W.live
 old:=W.old
 cU:=W.cU
 gA:=W.gA
 len:=by rw[h.len];exact W.len
 gB:=W.gB
 eG:=W.eG
 ok:=fun i s e=>by
  rcases h.at e with ⟨rfl,t,e'⟩|e'
  ·obtain⟨x,e1,_⟩:=W.ok i t e';exact⟨x,e1,trivial⟩
  ·exact W.ok i s e'
 apart:=fun i j a f as c g cs hij e1 e2=>by
  rcases h.at e1 with ⟨z,_⟩|iV
  ·cases z
  rcases h.at e2 with ⟨z,_⟩|e2'
  ·cases z
  exact W.apart i j a f as c g cs hij iV e2'
 eN:=fun i j a f as c g cs hij e1 e2=>by
  rcases h.at e1 with ⟨z,_⟩|iV
  ·cases z
  rcases h.at e2 with ⟨z,_⟩|e2'
  ·cases z
  exact W.eN i j a f as c g cs hij iV e2'
 c7:=fun i j c s hij e1 e2 a ha=>by
  rcases h.at e1 with ⟨z,_⟩|iV
  ·cases z
  rcases h.at e2 with ⟨z,_⟩|e2'
  ·subst z;exact fun z=>by cases z
  exact W.c7 i j c s hij iV e2' a ha
theorem Wd.more(W:Wd G nb ρ σ H)(hp:H p=none){o:HO}:Wd G (fun a=>nb a\/a=p) ρ σ (upd H p o):=by
 have hS:dD H (upd H p o):=dI hp
 have hN:NB G.B p:=fun b l e z=>by
  subst z
  obtain⟨_,_,_,_,_,h1,_⟩:=W.aA _ _ e
  rw[h1] at hp;cases hp
 have W':=W.step (Step.same W.aA hS)
 have hA:∀f a,G.S (fun a=>nb a\/a=p) f a->(G.S nb f a\/a=p):=fun f a z=>by
  rcases z with (z|z)|z|z|z
  ·exact .inl (.inl z)
  ·exact .inr z
  ·exact .inl (.inr (.inl z))
  ·exact .inl (.inr (.inr (.inl z)))
  ·exact .inl (.inr (.inr (.inr z)))
 refine⟨W'.aA,fun a n=>?_,W'.old,fun a n q=>?_,W.gA,W.len,W.gB,fun h m=>(((W.eG h m).fresh hp).av (hA h.1)).keep (bh.of hS),fun i s e=>?_,W.apart,W.eN,W.c7⟩
 ·rcases n with n|n
  ·exact W'.live a n
  ·subst n;rw[aY];exact jF _
 ·rcases n with n|n
  ·exact W.cU a n q
  ·subst n
   cases e:G.H0 a with
   |none=>rfl
   |some o=>rw[W.old a o q e] at hp;cases hp
 ·obtain⟨x,e1,h⟩:=W.ok i s e
  refine⟨x,e1,?_⟩
  cases s with
  |no=>trivial
  |d f d=>obtain⟨v,e,h⟩:=h;exact⟨v,e,((h.fresh hp).av (hA f)).keep (bh.of hS)⟩
  |own a f ds=>obtain⟨e,n,q,xs,hx,hd⟩:=h;exact⟨e, .inl n,q,xs,hS _ _ hx,((hd.fresh hp).av (hA f)).keep (bh.of hS)⟩
  |aA=>exact h
  |raw v=>exact h
  |bU a f ds=>obtain⟨e,n,q,xs,hx,hd⟩:=h;exact⟨e, .inl n,q,xs,hS _ _ hx,((hd.fresh hp).av (hA f)).keep (bh.of hS)⟩
  |cu c=>obtain⟨e,n,q⟩:=h;exact⟨e,fun a ha=>⟨.inl (n a ha).1,(n a ha).2⟩,c.keep (.of fun a o _ e=>hS a o e) (c.av (hA c.f) (c.fresh hp q))⟩
theorem Wd.write(W:Wd G nb ρ σ H){o:HO}(hp:nb p)(hN:NB G.B p)(ho:∀(i:Nat) a f ds,ρ[i]?=some (.own a f ds)->a≠p)(hod:∀(i:Nat) a f ds,ρ[i]?=some (.bU a f ds)->a≠p)(hoc:∀(i:Nat) c,ρ[i]?=some (.cu c)->p∉c.F):Wd G nb ρ σ (upd H p o):=by
  have hl:∀b l,G.B=some (b,l)->p≠l:=fun b l e z=>by
    obtain⟨_,_,_,_,_,_,h2,_⟩:=W.gB b l e
    rw[<-z,W.cU p hp hN] at h2;cases h2
  have hB:jH G.B (upd H p o):=fun b l e=>(W.aA b l e).put2 ⟨hN b l e,hl b l e⟩
  have bt:∀f,bh (G.S nb f) H (upd H p o):=fun f=>bh.set (.inl hp)
  refine⟨hB,fun a n=>?_,fun a o' n e=>?_,W.cU,W.gA,W.len,W.gB,fun h m=>(W.eG h m).keep (bt h.1),fun i s e=>?_,W.apart,W.eN,W.c7⟩
  · by_cases z:a=p
    · subst z;rw[aY];exact jF _
    · rw[az z];exact W.live a n
  · have z:a≠p:=fun z=>by subst z;rw[W.cU a hp n] at e;cases e
    rw[az z];exact W.old a o' n e
  · obtain⟨x,e1,h⟩:=W.ok i s e
    refine⟨x,e1,?_⟩
    cases s with
    |no=>trivial
    |d f d=>obtain⟨v,e,h⟩:=h;exact⟨v,e,h.keep (bt f)⟩
    |own a f ds=>obtain⟨e',n,q,xs,hx,hd⟩:=h;exact⟨e',n,q,xs,by rw[az (ho i a f ds e)];exact hx,hd.keep (bt f)⟩
    |aA=>exact h
    |raw v=>exact h
    |bU a f ds=>obtain⟨e',n,q,xs,hx,hd⟩:=h;exact⟨e',n,q,xs,by rw[az (hod i a f ds e)];exact hx,hd.keep (bt f)⟩
    | cu c =>
      obtain⟨e',n,q⟩:=h
      refine⟨e',n,c.keep (.of fun a o' ha e''=>?_) q⟩
      rw[az]
      · exact e''
      · rintro rfl
        rcases ha with ha|ha
        · exact ha (.inl hp)
        · exact hoc i c e ha
end
end L2
set_option maxRecDepth 100000
set_option maxHeartbeats 1000000
namespace L2
open PySem PySem.Spec PyProof.Rows
abbrev Pd:=Bool->PyData->Prop
def Ev(G:Gx)(ρ:Rh)(te:TE)(Φ:Pd):Prop:=∀nb σ H (Q:VK),Wd G nb ρ σ H->(∀f v H' d,Φ f d->Step G.B H H'->aj (G.S nb f) H' d v->Q v H')->te σ H Q
def aG(G:Gx)(ρ:Rh)(te:TE)(Φ:Bool->List PyData->Prop):Prop:=∀nb σ H (Q:VK),Wd G nb ρ σ H->
 (∀f a xs H' ds,Φ f ds->Step G.B H H'->H a=none->H' a=some (.lst xs)->ah (fun x=>G.S nb f x\/x=a) H' ds xs->Q (.ref a) H')->te σ H Q
def Tv(G:Gx)(ρ:Rh)(tt:TT)(Φ:Bool->Prop):Prop:=∀nb σ H (Q:Bool->Hp->Prop),Wd G nb ρ σ H->(∀b H',Φ b->Step G.B H H'->Q b H')->tt σ H Q
def Ov(G:Gx)(ρ:Rh)(to:TO)(Φ:Option Int->Prop):Prop:=∀nb σ H (Q:Option Int->Hp->Prop),Wd G nb ρ σ H->(∀o H',Φ o->Step G.B H H'->Q o H')->to σ H Q
abbrev Fd:=Bool×PyData
def ki(G:Gx)(nb:Addr->Prop)(H:Hp):List Fd->List V->Prop
 |[],vs=>vs=[]
 |e::es,vs=>∃v ws,vs=v::ws/\aj (G.S nb e.1) H e.2 v/\ki G nb H es ws
def Av(G:Gx)(ρ:Rh)(ta:TA)(Φ:List Fd->Prop):Prop:=∀nb σ H (Q:List V->Hp->Prop),Wd G nb ρ σ H->(∀es vs H',Φ es->Step G.B H H'->ki G nb H' es vs->Q vs H')->ta σ H Q
def Gv(G:Gx)(ρ:Rh)(g:TG)(f:Bool)(d:PyData)(Φ:Rh->Prop):Prop:=∀nb σ H v (Q:St->Hp->Prop),Wd G nb ρ σ H->aj (G.S nb f) H d v->(∀σ' ρ',Φ ρ'->Wd G nb ρ' σ' H->Q σ' H)->g v σ H Q
def lI(G:Gx)(ρ:Rh)(g:ic)(f:Bool)(ds:List PyData)(Φ:Rh->Prop):Prop:=∀nb σ H vs (Q:St->Hp->Prop),Wd G nb ρ σ H->ah (G.S nb f) H ds vs->(∀σ' ρ',Φ ρ'->Wd G nb ρ' σ' H->Q σ' H)->g vs σ H Q
structure DE where
 nx:Rh->Prop
 rt:Pd
 bk:Rh->Prop:=fun _=>False
 ct:Rh->Prop:=fun _=>False
 rw:(Addr->Prop)->Rh->V->Hp->Prop:=fun _ _ _ _=>False
structure sZ(G:Gx)(E:DE)(D:Ends):Prop where
 nx:∀nb ρ σ H,E.nx ρ->Wd G nb ρ σ H->D.nx σ H
 bk:∀nb ρ σ H,E.bk ρ->Wd G nb ρ σ H->D.bk σ H
 ct:∀nb ρ σ H,E.ct ρ->Wd G nb ρ σ H->D.ct σ H
 rt:∀nb ρ σ f v H d,E.rt f d->Wd G nb ρ σ H->aj (G.S (fun _=>False) f) H d v->D.rt v H
 rw:∀nb ρ σ v H,E.rw nb ρ v H->Wd G nb ρ σ H->D.rt v H
def Sv(G:Gx)(ρ:Rh)(ts:TS)(E:DE):Prop:=∀nb σ H D,Wd G nb ρ σ H->sZ G E D->ts D σ H
def ji:PyData->Bool
 | .none=>true| .bool _=>true| .int _=>true| .str _=>true|_=>false
def toV:PyData->V
 | .bool b=> .bl b| .int i=> .int i| .str x=> .str x|_=> .aM
section
variable{nb cI:Addr->Prop}{H H':Hp}{d e:PyData}{v:V}
theorem aj.sc(h:ji d=true):aj nb H d (toV d):=by
 cases d<;>first|(cases h;done)|(unfold aj;rfl)
theorem aj.OZ(h:ji d=true)(q:aj nb H d v):v=toV d:=by
 cases d<;>first|(cases h;done)|(unfold aj at q;exact q)
theorem aj.kZ(h:ji d=true)(q:aj nb H d v):aj cI H' d v:=by
 rw[q.OZ h];exact .sc h
theorem ah.kZ:∀{ds:List PyData} {xs:List V},ds.all ji=true->ah nb H ds xs->ah cI H' ds xs
  |[],_,_,q=>by unfold ah at q⊢;exact q
  | d :: ds, _, h, q => by
    rw[oU,cP] at h
    unfold ah at q⊢
    obtain⟨y,ys,e,h1,h2⟩:=q
    exact⟨y,ys,e,h1.kZ h.1,ah.kZ h.2 h2⟩
end
section
variable{G:Gx}{ρ:Rh}{Φ Ψ:Pd}{ta tb te:TE}{t:TA}{i:Nat}{f g:Bool}{d e:PyData}{ds es:List PyData}{K:PySem.W.Frag}
theorem Ev.mono(h:Ev G ρ te Ψ)(q:∀f d,Ψ f d->Φ f d):Ev G ρ te Φ:=fun nb σ H Q W z=>h nb σ H Q W fun f v H' d p=>z f v H' d (q f d p)
theorem aG.ev(h:aG G ρ te fun f ds=>Φ f (.list ds)):Ev G ρ te Φ:=fun nb σ H Q W z=>h nb σ H Q W fun f a xs H' ds p st n e hd=>
 z f _ H' _ p st (.lst (W.fresh n) e (hd.av fun _ x=> .inl x))
namespace Ev
theorem var(e:ρ[i]?=some (.d f d))(h:Φ f d):Ev G ρ (fR i) Φ:=fun nb σ H Q W z=>by
 obtain⟨x,e1,v,rfl,hd⟩:=W.ok i _ e
 exact⟨v,e1,z f v H d h (.refl W.aA) hd⟩
theorem int{n:Int}(h:Φ true (.int n)):Ev G ρ (tC (.int n)) Φ:=fun nb σ H Q W z=>z true _ H _ h (.refl W.aA) (.int n)
theorem bl{b:Bool}(h:Φ true (.bool b)):Ev G ρ (tC (.bl b)) Φ:=fun nb σ H Q W z=>z true _ H _ h (.refl W.aA) (.bl b)
theorem aM(h:Φ true .none):Ev G ρ (tC .aM) Φ:=fun nb σ H Q W z=>z true _ H _ h (.refl W.aA) .aM
theorem jg{r:R2}(h:Ev G ρ ta fun f x=>Ev G ρ tb fun g y=>∀nb σ H u v (Q:VK),Wd G nb ρ σ H->aj (G.S nb f) H x u->aj (G.S nb g) H y v->(∀f w H' d,Φ f d->Step G.B H H'->aj (G.S nb f) H' d w->Q w H')->r u v H Q):Ev G ρ (dN r ta tb) Φ:=fun nb σ H Q W z=>
 h nb σ H _ W fun f v1 H1 d1 p1 s1 q1=>p1 nb σ H1 _ (W.step s1) fun g v2 H2 d2 p2 s2 q2=>p2 nb σ H2 _ _ _ ((W.step s1).step s2) (q1.keep s2.eg) q2 fun f w H' d p st q=>z f w H' d p (s1.trans (s2.trans st)) q
theorem rI{C:Int->Int->Prop}{k:Int->Int->Int}(h:Ev G ρ ta fun _ x=>∃i,x= .int i/\Ev G ρ tb fun _ y=>∃j,y= .int j/\C i j/\Φ true (.int (k i j))):Ev G ρ (dN (L2.rI C fun i j=> .int (k i j)) ta tb) Φ:=
 jg (h.mono fun f x ⟨i,ex,q⟩=>q.mono fun g y ⟨j,ey,hc,p⟩ nb σ H u v Q W hu hv z=>by
  subst ex ey;exact⟨i,j,hu.cD,hv.cD,hc,z true _ H _ p (.refl W.aA) (.int _)⟩)
theorem ir{k:Int->Int->Int}(h:Ev G ρ ta fun _ x=>∃i,x= .int i/\Ev G ρ tb fun _ y=>∃j,y= .int j/\Φ true (.int (k i j))):Ev G ρ (dN (L2.ir fun i j=> .int (k i j)) ta tb) Φ:=
 jg (h.mono fun f x ⟨i,ex,q⟩=>q.mono fun g y ⟨j,ey,p⟩ nb σ H u v Q W hu hv z=>by
  subst ex ey;exact⟨i,j,hu.cD,hv.cD,z true _ H _ p (.refl W.aA) (.int _)⟩)
theorem Um{k:Int->Int->Bool}(h:Ev G ρ ta fun _ x=>∃i,x= .int i/\Ev G ρ tb fun _ y=>∃j,y= .int j/\Φ true (.bool (k i j))):Ev G ρ (dN (L2.ir fun i j=> .bl (k i j)) ta tb) Φ:=
 jg (h.mono fun f x ⟨i,ex,q⟩=>q.mono fun g y ⟨j,ey,p⟩ nb σ H u v Q W hu hv z=>by
  subst ex ey;exact⟨i,j,hu.cD,hv.cD,z true _ H _ p (.refl W.aA) (.bl _)⟩)
theorem un{r:V->Hp->VK->Prop}(h:Ev G ρ ta fun f x=>∀nb σ H u (Q:VK),Wd G nb ρ σ H->aj (G.S nb f) H x u->(∀f w H' d,Φ f d->Step G.B H H'->aj (G.S nb f) H' d w->Q w H')->r u H Q):Ev G ρ (A9 r ta) Φ:=fun nb σ H Q W z=>
 h nb σ H _ W fun f v1 H1 d1 p1 s1 q1=>p1 nb σ H1 _ _ (W.step s1) q1 fun f w H' d p st q=>z f w H' d p (s1.trans st) q
theorem rU{k:Int->Int}(h:Ev G ρ ta fun _ x=>∃i,x= .int i/\Φ true (.int (k i))):Ev G ρ (A9 (L2.rU fun i=> .int (k i)) ta) Φ:=
 un (h.mono fun f x ⟨i,ex,p⟩ nb σ H u Q W hu z=>by subst ex;exact⟨i,hu.cD,z true _ H _ p (.refl W.aA) (.int _)⟩)
end Ev
inductive gE:PyData->PyData->Bool->Prop
 |ii (i j:Int):gE (.int i) (.int j) (decide (i=j))
 |ni (i:Int):gE .none (.int i) false
 |V8 (i:Int):gE (.int i) .none false
 |nn:gE .none .none true
 |bb (a b:Bool):gE (.bool a) (.bool b) (a==b)
 |ss (x:Str):gE (.str x) (.str x) true
 |sd (x y:Str):gE (.str x) (.str y) (decide (x=y))
theorem gE.v{nb cI:Addr->Prop}{H:Hp}{x y:PyData}{b:Bool}{u v:V}(h:gE x y b)(hu:aj nb H x u)(hv:aj cI H y v):wK u v=true/\decide (u=v)=b:=by
 cases h<;>(unfold aj at hu hv;subst hu hv;refine⟨rfl,?_⟩)
 ·exact R.z6
 ·rfl
 ·rfl
 ·rfl
 ·rename_i a b;cases a<;>cases b<;>rfl
 ·exact decide_eq_true rfl
 ·rename_i x y
  by_cases c:x=y
  ·subst c;rw[decide_eq_true rfl,decide_eq_true rfl]
  ·rw[decide_eq_false c,decide_eq_false (fun z=>c (V.str.inj z))]
theorem gE.self{d:PyData}(h:ji d=true):gE d d true:=by
 cases d<;>first|(cases h;done)|skip
 ·exact .nn
 ·rename_i b;have:=gE.bb b b;rwa[beq_self_eq_true] at this
 ·rename_i i;have:=gE.ii i i;rwa[decide_eq_true rfl] at this
 ·exact .ss _
namespace Ev
theorem eq(h:Ev G ρ ta fun _ x=>Ev G ρ tb fun _ y=>∃b,gE x y b/\Φ true (.bool b)):Ev G ρ (dN Aj ta tb) Φ:=
 jg (h.mono fun f x q=>q.mono fun g y ⟨b,e,p⟩ nb σ H u v Q W hu hv z=>by
  obtain⟨h1,h2⟩:=e.v hu hv
  exact⟨h1,by rw[h2];exact z true _ H _ p (.refl W.aA) (.bl _)⟩)
theorem ne(h:Ev G ρ ta fun _ x=>Ev G ρ tb fun _ y=>∃b,gE x y b/\Φ true (.bool !b)):Ev G ρ (dN vU ta tb) Φ:=
 jg (h.mono fun f x q=>q.mono fun g y ⟨b,e,p⟩ nb σ H u v Q W hu hv z=>by
  obtain⟨h1,h2⟩:=e.v hu hv
  exact⟨h1,by rw[h2];exact z true _ H _ p (.refl W.aA) (.bl _)⟩)
theorem QX{ng:Bool}(h:Ev G ρ ta fun _ x=>Ev G ρ tb fun _ y=>SeqAt.shaped x=true/\SeqAt.shaped y=true/\Φ true (.bool (PyData.eqv x y !=ng))):Ev G ρ (dN (Jl ng) ta tb) Φ:=
 jg (h.mono fun f x q=>q.mono fun g y ⟨h1,h2,p⟩ nb σ H u v Q W hu hv z=>
  ⟨G.S nb false,x,y,hu.av (bI (fun z=>by cases z) fun _ z=>z),hv.av (bI (fun z=>by cases z) fun _ z=>z),h1,h2,z true _ H _ p (.refl W.aA) (.bl _)⟩)
end Ev
def p5:PyData->Bool
 | .none=>true
 |_=>false
theorem G3{nb:Addr->Prop}{H:Hp}{d:PyData}{v:V}(h:aj nb H d v):decide (v= .aM)=p5 d:=by
 cases d<;>unfold aj at h
 all_goals first
  |(subst h;rfl)
  |(obtain⟨a,xs,rfl,_⟩:=h;rfl)
  |exact h.elim
namespace Ev
theorem is(h:Ev G ρ ta fun _ x=>Φ true (.bool (p5 x))):Ev G ρ (dN Em ta (tC .aM)) Φ:=
 jg (h.mono fun f x p=>Ev.aM fun nb σ H u v Q W hu hv z=>⟨hv.xx,by rw[G3 hu];exact z true _ H _ p (.refl W.aA) (.bl _)⟩)
theorem Mb(h:Ev G ρ ta fun _ x=>Φ true (.bool !p5 x)):Ev G ρ (dN sH ta (tC .aM)) Φ:=
 jg (h.mono fun f x p=>Ev.aM fun nb σ H u v Q W hu hv z=>⟨hv.xx,by rw[G3 hu];exact z true _ H _ p (.refl W.aA) (.bl _)⟩)
end Ev
theorem ah.bx{nb:Addr->Prop}{H:Hp}{ds:List PyData}{xs:List V}{k:Int}{e:PyData}(h:ah nb H ds xs)(q:L2.bx ds k=some e):∃v,L2.bx xs k=some v/\aj nb H e v:=by
 unfold L2.bx at q⊢
 rw[h.length]
 cases z:gV ds.length k with
 |none=>rw[z] at q;cases q
 |some j=>rw[z] at q;exact h.get q
namespace Ev
theorem Ti(h:Ev G ρ ta fun f x=>∃ds,x= .list ds/\Ev G ρ tb fun _ y=>∃k,y= .int k/\∃e,bx ds k=some e/\Φ f e):Ev G ρ (dN (cJ K) ta tb) Φ:=
 jg (h.mono fun f x ⟨ds,ex,q⟩=>q.mono fun g y ⟨k,ey,e,he,p⟩ nb σ H u v Q W hu hv z=>by
  subst ex ey
  obtain⟨a,xs,rfl,n,hx,hd⟩:=hu.fB
  obtain⟨w,hw,hD⟩:=hd.bx he
  exact⟨a,xs,k,w,rfl,hv.cD, .of hx,hw,z f _ H _ p (.refl W.aA) hD⟩)
theorem Nc(h:Ev G ρ ta fun f x=>∃ds,x= .tuple ds/\Ev G ρ tb fun _ y=>∃k,y= .int k/\∃e,bx ds k=some e/\Φ f e):Ev G ρ (dN (aL K) ta tb) Φ:=
 jg (h.mono fun f x ⟨ds,ex,q⟩=>q.mono fun g y ⟨k,ey,e,he,p⟩ nb σ H u v Q W hu hv z=>by
  subst ex ey
  obtain⟨a,xs,rfl,n,hx,hd⟩:=hu.ofT
  obtain⟨w,hw,hD⟩:=hd.bx he
  exact⟨a,xs,k,w,rfl,hv.cD, .of hx,hw,z f _ H _ p (.refl W.aA) hD⟩)
theorem Od(h:Ev G ρ ta fun _ x=>∃b,x= .bool b/\if b=true then Ev G ρ tb Φ else Φ true (.bool false)):Ev G ρ (CY ta tb) Φ:=fun nb σ H Q W z=>
 h nb σ H _ W fun f v H1 d ⟨b,e,q⟩ s1 hv=>by
  subst e
  refine⟨b,by unfold aj at hv;exact hv,?_⟩
  cases b with
  |true=>rw[if_pos rfl] at q⊢;exact q nb σ H1 _ (W.step s1) fun f v H' d p st=>z f v H' d p (s1.trans st)
  |false=>rw[if_neg dh] at q⊢;exact z true _ H1 _ q s1 (.bl false)
theorem JY{c:TT}(h:Tv G ρ c fun b=>if b=true then Ev G ρ ta Φ else Ev G ρ tb Φ):Ev G ρ (DG c ta tb) Φ:=fun nb σ H Q W z=>
 h nb σ H _ W fun b H1 q s1=>by
  cases b with
  |true=>rw[if_pos rfl] at q⊢;exact q nb σ H1 _ (W.step s1) fun f v H' d p st=>z f v H' d p (s1.trans st)
  |false=>rw[if_neg dh] at q⊢;exact q nb σ H1 _ (W.step s1) fun f v H' d p st=>z f v H' d p (s1.trans st)
end Ev
namespace Tv
variable{Θ:Bool->Prop}{t u:TT}
theorem test(h:Ev G ρ te fun _ x=>∃b,x= .bool b/\Θ b):Tv G ρ (xJ te) Θ:=fun nb σ H Q W z=>
 h nb σ H _ W fun f v H1 d ⟨b,e,q⟩ s1 hv=>by subst e;exact⟨b,by unfold aj at hv;exact hv,z b H1 q s1⟩
theorem and(h:Tv G ρ t fun b=>if b=true then Tv G ρ u Θ else Θ false):Tv G ρ (Cd t u) Θ:=fun nb σ H Q W z=>
 h nb σ H _ W fun b H1 q s1=>by
  cases b with
  |true=>rw[if_pos rfl] at q⊢;exact q nb σ H1 _ (W.step s1) fun b H' p st=>z b H' p (s1.trans st)
  |false=>rw[if_neg dh] at q⊢;exact z false H1 q s1
theorem or(h:Tv G ρ t fun b=>if b=true then Θ true else Tv G ρ u Θ):Tv G ρ (Iz t u) Θ:=fun nb σ H Q W z=>
 h nb σ H _ W fun b H1 q s1=>by
  cases b with
  |false=>rw[if_neg dh] at q⊢;exact q nb σ H1 _ (W.step s1) fun b H' p st=>z b H' p (s1.trans st)
  |true=>rw[if_pos rfl] at q⊢;exact z true H1 q s1
theorem not(h:Tv G ρ t fun b=>Θ (!b)):Tv G ρ (HV t) Θ:=fun nb σ H Q W z=>h nb σ H _ W fun b H1 q s1=>z _ H1 q s1
theorem qS(h:Θ true):Tv G ρ oH Θ:=fun nb σ H Q W z=>z true H h (.refl W.aA)
end Tv
def Jb(K:PySem.W.Frag)(ta:TE):TT:=fun σ H Q=>ta σ H fun x H1=>∃k,AR K x H1 k/\Q k H1
theorem Tv.O6{Θ:Bool->Prop}(h:Ev G ρ te fun _ x=>∃b,x= .bool b/\Θ b):Tv G ρ (Jb K te) Θ:=fun nb σ H Q W z=>
 h nb σ H _ W fun f v H1 d ⟨b,e,q⟩ s1 hv=>by subst e;exact⟨b,by unfold aj at hv;subst hv;rfl,z b H1 q s1⟩
namespace Av
variable{Θ:List Fd->Prop}
theorem nil(h:Θ []):Av G ρ cF Θ:=fun nb σ H Q W z=>z [] [] H h (.refl W.aA) rfl
theorem cons(h:Ev G ρ te fun f d=>Av G ρ t fun es=>Θ ((f,d)::es)):Av G ρ (bJ te t) Θ:=fun nb σ H Q W z=>
 h nb σ H _ W fun f v H1 d p1 s1 q1=>p1 nb σ H1 _ (W.step s1) fun es vs H2 p2 s2 q2=>z _ _ H2 p2 (s1.trans s2) ⟨v,vs,rfl,q1.keep s2.eg,q2⟩
theorem Lf{is:List Int}(h:Θ (is.map fun i=>(true, .int i))):Av G ρ (uh is) Θ:=fun nb σ H Q W z=>z _ _ H h (.refl W.aA) (by
 clear h
 induction is with
 |nil=>rfl
 |cons i r ih=>exact⟨_,_,rfl, .int i,ih⟩)
end Av
def iM(es:List Fd):Bool:=es.all (·.1)
theorem ki.all{nb:Addr->Prop}{H:Hp}:∀{es:List Fd} {vs:List V} {f:Bool},ki G nb H es vs->(f=true->iM es=true)->ah (G.S nb f) H (es.map (·.2)) vs
  |[],_,_,h,_=>by unfold ki at h;subst h;exact .nil
  | e :: es, _, f, h, hf => by
    obtain⟨v,ws,rfl,h1,h2⟩:=h
    refine .cons (h1.av (bI (fun z=>?_) fun _ z=>z)) (h2.all fun z=>?_)
    · have:=hf z;simp only[iM,oU,cP] at this;exact this.1
    · have:=hf z;simp only[iM,oU,cP] at this;exact this.2
theorem ki.len{nb:Addr->Prop}{H:Hp}{es:List Fd}{vs:List V}(h:ki G nb H es vs):vs.length=es.length:=by
 have:=(h.all (f:=false) (fun z=>by cases z)).length
 simpa using this
theorem aG.lst{Φ:Bool->List PyData->Prop}(h:Av G ρ t fun es=>es.length<=10000/\Φ (iM es) (es.map (·.2))):aG G ρ (mX t) Φ:=fun nb σ H Q W z=>
  h nb σ H _ W fun es vs H1 ⟨hl,p⟩ s1 q1=>⟨ez (by rw[q1.len];exact hl) (by decide),fun a ha=>by
    have W1:=W.step s1
    refine z _ a vs _ _ p (s1.trans (.same W1.aA (dI ha))) ?_ aY (((q1.all fun z=>z).fresh ha).keep (bh.of (dI ha)))
    cases e:H a with
    |none=>rfl
    | some o =>
      by_cases n:NB G.B a
      · rw[s1.1 a o n e] at ha;cases ha
      · exact absurd ha (NB.m7 s1.2 n)⟩
theorem Ev.lst(h:Av G ρ t fun es=>es.length<=10000/\Φ (iM es) (.list (es.map (·.2)))):Ev G ρ (mX t) Φ:=(aG.lst (Φ:=fun f ds=>Φ f (.list ds)) h).ev
end
end L2
set_option maxRecDepth 100000
set_option maxHeartbeats 1000000
namespace L2
open PySem PySem.Spec PyProof.Rows
def dg(K:PySem.W.Frag):List V->Hp->VK->Prop:=fun xs H Q=>∃p ys,xs=[.ref p]/\(aW K H p ys\/fY K H p ys)/\Q (.int ys.length) H
theorem dU{X:Cx}:eV X (.builtin "len") (dg X.K):=DH
def Jq:List V->Hp->VK->Prop:=fun xs H Q=>∃i j,xs=[.int i, .int j]/\Q (.int (if j<i then j else i)) H
def D3:List V->Hp->VK->Prop:=fun xs H Q=>∃i j,xs=[.int i, .int j]/\Q (.int (if j>i then j else i)) H
def Hw:List V->Hp->VK->Prop:=fun xs H Q=>(∃i,xs=[.int i]/\Q (.int i) H)\/∃k,xs=[.bl k]/\Q (.int (if k then 1 else 0)) H
theorem Ug{X:Cx}(hc:X.calm=true):eV X (.builtin "min") Jq:=Rg hc
theorem Vd{X:Cx}(hc:X.calm=true):eV X (.builtin "max") D3:=RA hc
theorem Qx{X:Cx}:eV X (.type "int") Hw:=JH
def eZ{α:Type}(xs:List α)(lo hi:Option Int):List α:=(xs.drop (HT.dS xs.length 0 lo)).take (HT.dS xs.length xs.length hi-HT.dS xs.length 0 lo)
theorem ah.cut{nb:Addr->Prop}{H:Hp}{ds:List PyData}{xs:List V}{lo hi:Option Int}(h:ah nb H ds xs):ah nb H (eZ ds lo hi) (kQ xs lo hi):=by
 unfold eZ kQ
 rw[h.length]
 exact(h.drop _).take _
def gx(ds:List PyData):Bool:=ds.all ji
section
variable{G:Gx}{ρ:Rh}{Φ Ψ:Pd}{ta tb te:TE}{t:TA}{i:Nat}{f g:Bool}{d e:PyData}{ds es:List PyData}{K:PySem.W.Frag}
theorem Wd.none_of{nb:Addr->Prop}{σ:St}{H H1:Hp}{a:Addr}(W:Wd G nb ρ σ H)(s1:Step G.B H H1)(ha:H1 a=none):H a=none:=by
  cases e:H a with
  |none=>rfl
  | some o =>
    by_cases n:NB G.B a
    · rw[s1.1 a o n e] at ha;cases ha
    · exact absurd ha (NB.m7 s1.2 n)
theorem aG.fin{nb:Addr->Prop}{σ:St}{H H1:Hp}{Q:VK}{Φ:Bool->List PyData->Prop}{a:Addr}{xs:List V}(W:Wd G nb ρ σ H)(s1:Step G.B H H1)(ha:H1 a=none)(hd:ah (G.S nb f) H1 ds xs)(p:Φ (f||gx ds) ds)
  (z:∀f a xs H' ds,Φ f ds->Step G.B H H'->H a=none->H' a=some (.lst xs)->ah (fun x=>G.S nb f x\/x=a) H' ds xs->Q (.ref a) H'):Q (.ref a) (upd H1 a (.lst xs)):=by
 refine z _ a xs _ ds p (s1.trans (.same s1.2 (dI ha))) (W.none_of s1 ha) aY ?_
 cases hs:gx ds with
 |true=>exact ah.kZ hs hd
 |false=>rw[nL];exact(hd.fresh ha).keep (bh.of (dI ha))
namespace Ov
variable{Θ:Option Int->Prop}
theorem none(h:Θ none):Ov G ρ wc Θ:=fun nb σ H Q W z=>z _ H h (.refl W.aA)
theorem some(h:Ev G ρ te fun _ x=>∃k,x= .int k/\Θ (some k)):Ov G ρ (Bx te) Θ:=fun nb σ H Q W z=>
 h nb σ H _ W fun f v H1 d ⟨k,e,q⟩ s1 hv=>by subst e;exact⟨k,hv.cD,z _ H1 q s1⟩
end Ov
namespace aG
variable{Θ:Bool->List PyData->Prop}
theorem sl{tl th:TO}(h:Ev G ρ te fun f x=>∃ds,x= .list ds/\Ov G ρ tl fun lo=>Ov G ρ th fun hi=>Θ (f||gx (eZ ds lo hi)) (eZ ds lo hi)):aG G ρ (rE (kX K) te tl th) Θ:=fun nb σ H Q W z=>
 h nb σ H _ W fun f v H1 d ⟨ds,e,q⟩ s1 hv=>q nb σ H1 _ (W.step s1) fun lo H2 q2 s2=>q2 nb σ H2 _ ((W.step s1).step s2) fun hi H3 q3 s3=>by
  subst e
  obtain⟨a,xs,rfl,n,hx,hd⟩:=((hv.keep s2.eg).keep s3.eg).fB
  exact⟨a,xs,rfl, .of hx,fun p hp=>aG.fin W (s1.trans (s2.trans s3)) hp hd.cut q3 z⟩
theorem listOf(h:Ev G ρ te fun f x=>∃ds,(x= .list ds\/x= .tuple ds)/\Θ (f||gx ds) ds):aG G ρ (e7 (gR K) (bJ te cF)) Θ:=fun nb σ H Q W z=>
 h nb σ H _ W fun f v H1 d ⟨ds,e,q⟩ s1 hv=>by
  rcases e with e|e
  ·subst e
   obtain⟨a,xs,rfl,n,hx,hd⟩:=hv.fB
   exact⟨a,xs,rfl, .inl (.of hx),fun p hp=>aG.fin W s1 hp hd q z⟩
  ·subst e
   obtain⟨a,xs,rfl,n,hx,hd⟩:=hv.ofT
   exact⟨a,xs,rfl, .inr (.of hx),fun p hp=>aG.fin W s1 hp hd q z⟩
theorem cat(h:Ev G ρ ta fun f x=>∃ds,x= .list ds/\Ev G ρ tb fun g y=>∃es,y= .list es/\ds.length+es.length<=10000/\Θ ((f && g)||gx (ds++es)) (ds++es)):aG G ρ (dN yt ta tb) Θ:=fun nb σ H Q W z=>
 h nb σ H _ W fun f v H1 d ⟨ds,e,q⟩ s1 hv=>q nb σ H1 _ (W.step s1) fun g u H2 d2 ⟨es,e2,hl,p⟩ s2 hu=>by
  subst e e2
  obtain⟨a,xs,rfl,n,hx,hd⟩:=(hv.keep s2.eg).fB
  obtain⟨c,ys,rfl,m,hy,hc⟩:=hu.fB
  refine⟨a,c,xs,ys,rfl,rfl,hx,hy,ez (by rw[hd.length,hc.length];exact hl) (by decide),fun p' hp=>aG.fin (f:=f && g) W (s1.trans s2) hp ?_ p z⟩
  exact ah.append (hd.av (bI (fun z=>(cP _ _▸z).1) fun _ z=>z)) (hc.av (bI (fun z=>(cP _ _▸z).2) fun _ z=>z))
end aG
namespace Ev
theorem sl{tl th:TO}(h:Ev G ρ te fun f x=>∃ds,x= .list ds/\Ov G ρ tl fun lo=>Ov G ρ th fun hi=>Φ (f||gx (eZ ds lo hi)) (.list (eZ ds lo hi))):Ev G ρ (rE (kX K) te tl th) Φ:=(aG.sl (Θ:=fun f ds=>Φ f (.list ds)) h).ev
theorem listOf(h:Ev G ρ te fun f x=>∃ds,(x= .list ds\/x= .tuple ds)/\Φ (f||gx ds) (.list ds)):Ev G ρ (e7 (gR K) (bJ te cF)) Φ:=(aG.listOf (Θ:=fun f ds=>Φ f (.list ds)) h).ev
theorem cat(h:Ev G ρ ta fun f x=>∃ds,x= .list ds/\Ev G ρ tb fun g y=>∃es,y= .list es/\ds.length+es.length<=10000/\Φ ((f && g)||gx (ds++es)) (.list (ds++es))):Ev G ρ (dN yt ta tb) Φ:=(aG.cat (Θ:=fun f ds=>Φ f (.list ds)) h).ev
theorem NQ{a:Addr}(e:ρ[i]?=some (.own a f ds))(h:Φ true (.int ds.length)):Ev G ρ (e7 (dg K) (bJ (fR i) cF)) Φ:=fun nb σ H Q W z=>by
 obtain⟨x,e1,h1,h2,h3,xs,hx,hd⟩:=W.ok i _ e
 subst h1
 exact⟨.ref a,e1,a,xs,rfl, .inl (.of hx),by rw[hd.length];exact z true _ H _ h (.refl W.aA) (.int _)⟩
theorem min2(h:Ev G ρ ta fun _ x=>∃i,x= .int i/\Ev G ρ tb fun _ y=>∃j,y= .int j/\Φ true (.int (if j<i then j else i))):Ev G ρ (e7 Jq (bJ ta (bJ tb cF))) Φ:=fun nb σ H Q W z=>
 h nb σ H _ W fun f v H1 d ⟨i,e,q⟩ s1 hv=>q nb σ H1 _ (W.step s1) fun g u H2 d2 ⟨j,e2,p⟩ s2 hu=>by
  subst e e2
  exact⟨i,j,by rw[hv.cD,hu.cD],z true _ H2 _ p (s1.trans s2) (.int _)⟩
theorem max2(h:Ev G ρ ta fun _ x=>∃i,x= .int i/\Ev G ρ tb fun _ y=>∃j,y= .int j/\Φ true (.int (if j>i then j else i))):Ev G ρ (e7 D3 (bJ ta (bJ tb cF))) Φ:=fun nb σ H Q W z=>
 h nb σ H _ W fun f v H1 d ⟨i,e,q⟩ s1 hv=>q nb σ H1 _ (W.step s1) fun g u H2 d2 ⟨j,e2,p⟩ s2 hu=>by
  subst e e2
  exact⟨i,j,by rw[hv.cD,hu.cD],z true _ H2 _ p (s1.trans s2) (.int _)⟩
theorem VA(h:Ev G ρ ta fun _ x=>∃b,x= .bool b/\Φ true (.int (if b then 1 else 0))):Ev G ρ (e7 Hw (bJ ta cF)) Φ:=fun nb σ H Q W z=>
 h nb σ H _ W fun f v H1 d ⟨b,e,q⟩ s1 hv=>by subst e;unfold aj at hv;subst hv;exact .inr ⟨b,rfl,z true _ H1 _ q s1 (.int _)⟩
end Ev
abbrev DF:=List PyData->Pd->Prop
def aS(n:Nat)(F:DF):Sp:=fun vs H Q _=>vs.length=n/\∃(nb:Addr->Prop) (ds:List PyData),kN nb H/\ah nb H ds vs/\F ds fun f d=>∀v H',dD H H'->aj (fun a=>nb a\/(f=true/\H a≠none)) H' d v->Q v H'
def fX(n:Nat)(F:DF):Sp:=fun vs H Q _=>vs.length=n/\∃(b l:Addr) (ws:List V) (nb:Addr->Prop) (ds:List PyData),vs= .ref b::ws/\c9 H b l/\kN nb H/\nb b/\ah nb H ds ws/\
 F ds fun f d=>∀v H',bh (Nb b) H H'->c9 H' b l->aj (fun a=>nb a\/(f=true/\H a≠none)) H' d v->Q v H'
def cO(F:DF):Prop:=∀ds (Φ Ψ:Pd),F ds Φ->(∀f d,Φ f d->Ψ f d)->F ds Ψ
theorem Ev.aV{n:Nat}{F:DF}(hm:cO F)(h:Av G ρ t fun es=>es.length=n/\F (es.map (·.2)) fun f d=>Φ (f||iM es) d):Ev G ρ (i9 (aS n F) [] E0 t) Φ:=fun nb σ H Q W z=>
 h nb σ H _ W fun es vs H1 ⟨hl,p⟩ s1 q1=>by
  have W1:=W.step s1
  rw[ig]
  refine⟨by rw[q1.len,hl],G.S nb (iM es),es.map (·.2),W1.lX,q1.all fun z=>z,hm _ _ _ p fun f d hp v H' sm hd=>z _ v H' d hp (s1.trans (.same W1.aA sm)) (hd.av fun a q=>?_)⟩
  cases f with
  |false=>rw[rT] at q;exact .inl q
  |true=>exact .inr ⟨rfl,W1.lX a q⟩
theorem Step.sV{b l:Addr}{H H':Hp}(hB:G.B=some (b,l))(bt:bh (Nb b) H H')(B':c9 H' b l):Step G.B H H':=
 ⟨fun a o n e=>bt a o (n b l hB) e,fun b' l' e=>by rw[hB] at e;cases e;exact B'⟩
theorem Wd.vd{nb:Addr->Prop}{σ:St}{H:Hp}(W:Wd G nb ρ σ H)(e:ρ[i]?=some .aA):∃b l,G.B=some (b,l)/\σ[i]?=some (some (.ref b))/\c9 H b l:=by
 obtain⟨x,e1,b,l,hB,rfl⟩:=W.ok i _ e
 exact⟨b,l,hB,e1,W.aA b l hB⟩
theorem Ev.lG{n:Nat}{F:DF}(hm:cO F)(e:ρ[i]?=some .aA)(h:Av G ρ t fun es=>es.length+1=n/\F (es.map (·.2)) fun f d=>Φ (f||iM es) d):Ev G ρ (i9 (fX n F) [] E0 (bJ (fR i) t)) Φ:=fun nb σ H Q W z=>by
 obtain⟨b,l,hB,e1,B⟩:=W.vd e
 refine⟨.ref b,e1,h nb σ H _ W fun es vs H1 ⟨hl,p⟩ s1 q1=>?_⟩
 have W1:=W.step s1
 show fX n F ((V.ref b::vs)++[]) H1 Q E0
 rw[ig]
 have hb:∀f,G.S nb f b:=fun f=> .inr (.inr (.inl fun n=>n b l hB rfl))
 refine⟨by rw[fM,q1.len,hl],b,l,vs,G.S nb (iM es),es.map (·.2),rfl,W1.aA b l hB,W1.lX,hb _,q1.all fun z=>z,hm _ _ _ p fun f d hp v H' bt B' hd=>z _ v H' d hp (s1.trans (.sV hB bt B')) (hd.av fun a q=>?_)⟩
 cases f with
 |false=>rw[rT] at q;exact .inl q
 |true=>exact .inr ⟨rfl,W1.lX a q⟩
theorem Ev.draw(e:ρ[i]?=some .aA)(h:Ev G ρ te fun _ x=>∃m:Int,x= .int m/\0<m/\Sm m/\∀r:Int,0<=r->r<m->Φ true (.int r)):Ev G ρ (i9 jN [] E0 (bJ (fR i) (bJ te cF))) Φ:=fun nb σ H Q W z=>by
 obtain⟨b,l,hB,e1,B⟩:=W.vd e
 refine⟨.ref b,e1,h nb σ H _ W fun f v H1 d ⟨m,ed,h1,h2,p⟩ s1 hv=>?_⟩
 subst ed
 exact⟨b,l,m,by rw[hv.cD];rfl,s1.2 b l hB,h1,h2,fun r H' r1 r2 bt B'=>z true _ H' _ (p r r1 r2) (s1.trans (.sV hB bt B')) (.int r)⟩
theorem Ev.prime(e:ρ[i]?=some .aA)(h:∀p:Int,FW p->Φ true (.int p)):Ev G ρ (i9 QE [] E0 (bJ (fR i) cF)) Φ:=fun nb σ H Q W z=>by
 obtain⟨b,l,hB,e1,B⟩:=W.vd e
 exact⟨.ref b,e1,b,l,rfl,B,fun p H' hp bt B'=>z true _ H' _ (h p hp) (.sV hB bt B') (.int p)⟩
theorem Ev.total(h:Av G ρ t fun es=>∃(p:Int) (prs:List (Int×Int)) (wd:List (Option Int)),es.map (·.2)=[.int p, .list (prs.map pairD), .list (wd.map iN)]/\0<p/\(∀pr∈prs,0<=pr.1/\pr.1<wd.length/\Sm pr.2)/\(∀x,some x∈wd->Sm x)/\Φ true (.int (bq prs wd%p))):
  Ev G ρ (i9 v5 [] E0 t) Φ:=fun nb σ H Q W z=>
 h nb σ H _ W fun es vs H1 ⟨p,prs,wd,e,h1,h2,h3,q⟩ s1 q1=>by
  have hd:=q1.all (f:=false) (fun z=>by cases z)
  rw[e] at hd
  unfold ah at hd
  obtain⟨y,ys,rfl,d1,hd⟩:=hd
  unfold ah at hd
  obtain⟨y2,ys,rfl,d2,hd⟩:=hd
  unfold ah at hd
  obtain⟨y3,ys,rfl,d3,hd⟩:=hd
  unfold ah at hd
  subst hd
  exact⟨G.S nb false,p,y2,y3,prs,wd,by rw[d1.cD];rfl,d2,d3,h1,h2,h3,z true _ H1 _ q s1 (.int _)⟩
theorem Ev.whole(h:Ev G ρ te fun _ x=>∃n,x= .int n/\Φ true (.bool true)):Ev G ρ (i9 OT [] E0 (bJ te cF)) Φ:=fun nb σ H Q W z=>
 h nb σ H _ W fun f v H1 d ⟨n,e,q⟩ s1 hv=>by subst e;exact⟨n,by rw[hv.cD];rfl,z true _ H1 _ q s1 (.bl _)⟩
namespace Gv
variable{Θ:Rh->Prop}
theorem name(h:Θ (ρ.set i (.d f d))):Gv G ρ (fG i) f d Θ:=fun nb σ H v Q W hv z=>z _ _ h (W.nF hv)
theorem JW(h:Θ (ρ.set i (.d true d))):Gv G ρ (fG i) true d Θ:=name h
theorem k8(h:Θ (ρ.set i (.d false d))):Gv G ρ (fG i) f d Θ:=fun nb σ H v Q W hv z=>z _ _ h (W.nF (hv.av (bI (fun z=>by cases z) fun _ z=>z)))
theorem AV(hs:ji d=true)(h:Θ (ρ.set i (.d true d))):Gv G ρ (fG i) f d Θ:=fun nb σ H v Q W hv z=>z _ _ h (W.nF (hv.kZ hs))
theorem qu{n:Int}(h:Θ (ρ.set i (.d true (.int n)))):Gv G ρ (fG i) f (.int n) Θ:=AV rfl h
theorem SX{n:Bool}(h:Θ (ρ.set i (.d true (.bool n)))):Gv G ρ (fG i) f (.bool n) Θ:=AV rfl h
theorem Ob(h:Θ (ρ.set i (.d true .none))):Gv G ρ (fG i) f .none Θ:=AV rfl h
theorem tup{n:Nat}{u:ic}(hl:ds.length=n)(h:lI G ρ u f ds Θ):Gv G ρ (sW K n u) f (.tuple ds) Θ:=fun nb σ H v Q W hv z=>by
 obtain⟨a,xs,rfl,m,hx,hd⟩:=hv.ofT
 exact⟨a,xs,rfl, .of hx,by rw[hd.length];exact hl,h nb σ H xs Q W hd z⟩
theorem R3(h:Θ ρ):lI G ρ yO f [] Θ:=fun nb σ H vs Q W hv z=>by unfold ah at hv;exact⟨hv,z _ _ h W⟩
theorem QC{u:TG}{us:ic}(h:Gv G ρ u f d fun gf=>lI G gf us f ds Θ):lI G ρ (xY u us) f (d::ds) Θ:=fun nb σ H vs Q W hv z=>by
 unfold ah at hv
 obtain⟨y,ys,rfl,h1,h2⟩:=hv
 exact⟨y,ys,rfl,h nb σ H y _ W h1 fun σ' ρ' q W'=>q nb σ' H ys Q W' h2 z⟩
end Gv
namespace Sv
variable{E:DE}{s u:TS}
theorem seq(h:Sv G ρ s {E with nx:=fun gf=>Sv G gf u E}):Sv G ρ (rD s u) E:=fun nb σ H D W K=>h nb σ H _ W ⟨fun cI ρ' σ' H' q W'=>q cI σ' H' D W' K,K.bk,K.ct,K.rt,K.rw⟩
theorem next(h:E.nx ρ):Sv G ρ ya E:=fun nb σ H D W K=>K.nx nb ρ σ H h W
theorem cont(h:E.ct ρ):Sv G ρ M0 E:=fun nb σ H D W K=>K.ct nb ρ σ H h W
theorem asg{g:TG}(h:Ev G ρ te fun f d=>Gv G ρ g f d E.nx):Sv G ρ (iJ te g) E:=fun nb σ H D W K=>h nb σ H _ W fun f v H1 d q s1 hv=>q nb σ H1 v _ (W.step s1) hv fun σ' ρ' p W'=>K.nx nb ρ' σ' H1 p W'
theorem Ql(h:Ev G ρ te fun _ d=>E.nx (ρ.set i (.d false d))):Sv G ρ (Jt i te) E:=fun nb σ H D W K=>h nb σ H _ W fun f v H1 d q s1 hv=>K.nx nb _ _ H1 q ((W.step s1).nF (hv.av (bI (fun z=>by cases z) fun _ z=>z)))
theorem ret(h:Ev G ρ te E.rt):Sv G ρ (sG te) E:=fun nb σ H D W K=>h nb σ H _ W fun f v H1 d q s1 hv=>K.rt nb ρ σ f v H1 d q (W.step s1) (hv.av (bI (fun z=>z) fun _ z=>z.elim))
theorem Jo{a:Addr}(e:ρ[i]?=some (.own a f ds))(h:E.rt f (.list ds)):Sv G ρ (sG (fR i)) E:=fun nb σ H D W K=>by
 obtain⟨x,e1,h1,h2,h3,xs,hx,hd⟩:=W.ok i _ e
 subst h1
 refine⟨.ref a,e1,K.rt nb ρ σ f _ H _ h W (.lst (fun z=>?_) hx (hd.av (bI (fun z=>z) fun _ z=>z.elim)))⟩
 rcases z with z|z|z|z
 ·exact z
 ·exact W.gA a z (W.cU a h2 h3)
 ·exact z h3
 ·exact z.2 (W.cU a h2 h3)
theorem zP{c:TT}(h:Tv G ρ c fun b=>if b=true then Sv G ρ s E else Sv G ρ u E):Sv G ρ (AW c s u) E:=fun nb σ H D W K=>h nb σ H _ W fun b H1 q s1=>by
 cases b with
 |true=>rw[if_pos rfl] at q⊢;exact q nb σ H1 D (W.step s1) K
 |false=>rw[if_neg dh] at q⊢;exact q nb σ H1 D (W.step s1) K
theorem KR{nb:Addr->Prop}{σ:St}{H H1:Hp}{a:Addr}{xs:List V}(W:Wd G nb ρ σ H)(s1:Step G.B H H1)(ha:H a=none)(e:H1 a=some (.lst xs))(hd:ah (fun x=>G.S nb f x\/x=a) H1 ds xs):
    Wd G (fun x=>nb x\/x=a) (ρ.set i (.own a f ds)) (σ.set i (some (.ref a))) H1:=by
  have hN:NB G.B a:=fun b l e z=>by
    subst z
    obtain⟨_,_,_,_,_,h1,_⟩:=W.aA _ _ e
    rw[h1] at ha;cases ha
  have hA:∀f x,G.S (fun x=>nb x\/x=a) f x->(G.S nb f x\/x=a):=fun f x z=>by
    rcases z with (z|z)|z|z|z
    · exact .inl (.inl z)
    · exact .inr z
    · exact .inl (.inr (.inl z))
    · exact .inl (.inr (.inr (.inl z)))
    · exact .inl (.inr (.inr (.inr z)))
  have W1:=W.step s1
  have W2:Wd G (fun x=>nb x\/x=a) ρ σ H1:=by
    refine⟨W1.aA,fun x n=>?_,W1.old,fun x n q=>?_,W.gA,W.len,W.gB,fun h m=>(((W.eG h m).fresh ha).keep (s1.but fun x z=> .inl (.inr (.inr (.inl z))))).av (hA h.1),fun j s e'=>?_,W.apart,W.eN,W.c7⟩
    · rcases n with n|n
      · exact W1.live x n
      · subst n;rw[e];exact jF _
    · rcases n with n|n
      · exact W.cU x n q
      · subst n
        cases z:G.H0 x with
        |none=>rfl
        |some o=>rw[W.old x o q z] at ha;cases ha
    · obtain⟨x,e1,h⟩:=W.ok j s e'
      refine⟨x,e1,?_⟩
      cases s with
      |no=>trivial
      |d f d=>obtain⟨v,e,h⟩:=h;exact⟨v,e,((h.fresh ha).keep (s1.but fun x z=> .inl (.inr (.inr (.inl z))))).av (hA f)⟩
      |own c f es=>obtain⟨e,n,q,xs,hx,hd⟩:=h;exact⟨e, .inl n,q,xs,s1.1 _ _ q hx,((hd.fresh ha).keep (s1.but fun x z=> .inl (.inr (.inr (.inl z))))).av (hA f)⟩
      |aA=>exact h
      |raw v=>exact h
      |bU c f es=>obtain⟨e,n,q,xs,hx,hd⟩:=h;exact⟨e, .inl n,q,xs,s1.1 _ _ q hx,((hd.fresh ha).keep (s1.but fun x z=> .inl (.inr (.inr (.inl z))))).av (hA f)⟩
      | cu c =>
        obtain⟨e,n,q⟩:=h
        refine⟨e,fun a ha=>⟨.inl (n a ha).1,(n a ha).2⟩,c.av (hA c.f) (c.keep (.of fun x o hx e=>s1.1 x o ?_ e) (c.fresh ha q))⟩
        rcases hx with hx|hx
        · exact iX fun z=>hx (.inl (.inr (.inr (.inl z))))
        · exact(n x hx).2
  refine W2.set ⟨rfl, .inr rfl,hN,xs,e,hd.av (hA f)⟩ ?_ (fun _ _ _ z=>by cases z) (fun x hx j t hj ht hc=>?_)
  rotate_left
  · have hx:x=a:=cg.mp hx
    subst hx
    rcases hc with ⟨c,z⟩|⟨c,rfl⟩
    · cases z
    · exact fun z=>W.live x ((W.ok j _ ht).choose_spec.2.2.1 x z).1 ha
  rintro a' f' ds' ⟨rfl,rfl,rfl⟩ j c g cs hj hc z
  subst z
  obtain⟨x,e1,h1,h2,h3,ys,hy,_⟩:=W.ok j _ hc
  rw[hy] at ha;cases ha
theorem w5(h:aG G ρ te fun f ds=>∀a,E.nx (ρ.set i (.own a f ds))):Sv G ρ (iJ te (fG i)) E:=fun nb σ H D W K=>h nb σ H _ W fun f a xs H1 ds q s1 ha e hd=>K.nx _ _ _ H1 (q a) (KR W s1 ha e hd)
theorem DA{nb:Addr->Prop}{σ:St}{H:Hp}{a:Addr}{xs:List V}(W:Wd G nb ρ σ H)(e:ρ[i]?=some (.own a f ds))(hd:ah (G.S nb g) H es xs):Wd G nb (ρ.set i (.own a g es)) σ (upd H a (.lst xs)):=by
  obtain⟨x,e1,h1,h2,h3,ys,hy,_⟩:=W.ok i _ e
  subst h1
  have hil:i<ρ.length:=(bQ.mp e).1
  have W0:Wd G nb (ρ.set i .no) (σ.set i (some (.ref a))) H:=W.set trivial fun _ _ _ z=>by cases z
  have W1:Wd G nb (ρ.set i .no) (σ.set i (some (.ref a))) (upd H a (.lst xs)):=W0.write h2 h3 (fun j c f' cs hc=>by
    by_cases hij:i=j
    · subst hij;rw[dH hil] at hc;cases hc
    · rw[ck hij] at hc
      exact(W.apart i j _ _ _ _ _ _ hij e hc).symm
   ) (fun j c f' cs hc z => by
      subst z
      have hij:i≠j:=fun z=>by subst z;rw[dH hil] at hc;cases hc
      rw[ck hij] at hc
      obtain⟨_,_,_,_,_,ps,hp,_⟩:=W.ok j _ hc
      rw[hy] at hp;cases hp) (fun j c hc z=>by
      have hij:i≠j:=fun z=>by subst z;rw[dH hil] at hc;cases hc
      rw[ck hij] at hc
      exact W.c7 j i c _ (bM hij) hc e a z (cg.mpr rfl))
  have W2:=W1.set (i:=i) (s:= .own a g es) (x:=some (.ref a)) ⟨rfl,h2,h3,xs,aY,hd.keep (bh.set (.inl h2))⟩ (by
    rintro a' f' ds' ⟨rfl,rfl,rfl⟩ j c g' cs hj hc
    rw[ck (bM hj)] at hc
    exact W.apart i j _ _ _ _ _ _ (bM hj) e hc) (fun _ _ _ z=>by cases z) (fun x hx j t hj ht hc z=>by
    rw[ck (bM hj)] at ht
    have hx:x=a:=cg.mp hx
    subst hx
    rcases hc with ⟨c,q⟩|⟨c,rfl⟩
    · cases q
    · exact W.c7 j i c _ hj ht e x z (cg.mpr rfl))
  rw[jB,jB] at W2
  have:σ.set i (some (.ref a))=σ:=by
    apply iw
    intro j
    by_cases hij:i=j
    · subst hij;rw[dH (by rw[W.len];exact hil),e1]
    · rw[ck hij]
  rwa[this] at W2
theorem append{a:Addr}(e:ρ[i]?=some (.own a f ds))(h:Ev G ρ te fun g d=>ds.length<10000/\E.nx (ρ.set i (.own a (f && g) (ds++[d])))):Sv G ρ (tR (qb K "list" Cj (fR i) (bJ te cF))) E:=fun nb σ H D W KK=>by
 obtain⟨x,e1,h1,h2,h3,xs,hx,hd⟩:=W.ok i _ e
 subst h1
 refine⟨.ref a,e1, .inl ⟨rfl,_,aW.of hx⟩,h nb σ H _ W fun g v H1 d ⟨hl,q⟩ s1 hv=>?_⟩
 have W1:=W.step s1
 have UR:=s1.1 _ _ h3 hx
 refine⟨a,xs,v,rfl,rfl,UR,eE (by rw[hd.length];exact hl) (by decide),KK.nx nb _ _ _ q (DA W1 e ?_)⟩
 exact ah.snoc (hv.av (bI (fun z=>(cP _ _▸z).2) fun _ z=>z)) ((hd.keep s1.eg).av (bI (fun z=>(cP _ _▸z).1) fun _ z=>z))
theorem ah.set'{nb:Addr->Prop}{H:Hp}{x:V}(hd:aj nb H d x):∀{ds:List PyData} {xs:List V} (j:Nat),ah nb H ds xs->ah nb H (ds.set j d) (xs.set j x)
 |[],_,j,h=>by unfold ah at h;subst h;exact .nil
 |e::ds,_,0,h=>by unfold ah at h;obtain⟨y,ys,rfl,h1,h2⟩:=h;exact .cons hd h2
 |e::ds,_,j+1,h=>by unfold ah at h;obtain⟨y,ys,rfl,h1,h2⟩:=h;exact .cons h1 (ah.set' hd j h2)
theorem Dh{a:Addr}(e:ρ[i]?=some (.own a f ds))(h:Ev G ρ te fun g d=>Ev G ρ tb fun _ y=>∃k j,y= .int k/\gV ds.length k=some j/\E.nx (ρ.set i (.own a (f && g) (ds.set j d)))):Sv G ρ (iJ te (qN (fR i) tb u9)) E:=fun nb σ H D W KK=>
 h nb σ H _ W fun g v H1 d q s1 hv=>by
  obtain⟨x,e1,h1,h2,h3,xs,hx,hd⟩:=(W.step s1).ok i _ e
  subst h1
  refine⟨.ref a,e1,q nb σ H1 _ (W.step s1) fun g' u H2 y ⟨k,j,ey,hj,p⟩ s2 hu=>?_⟩
  subst ey
  have W2:=(W.step s1).step s2
  refine⟨a,xs,k,j,rfl,hu.cD,s2.1 _ _ h3 hx,by rw[hd.length];exact hj,KK.nx nb _ _ _ p (DA W2 e ?_)⟩
  exact ah.set' ((hv.keep s2.eg).av (bI (fun z=>(cP _ _▸z).2) fun _ z=>z)) j ((hd.keep s2.eg).av (bI (fun z=>(cP _ _▸z).1) fun _ z=>z))
theorem share{nb:Addr->Prop}{σ:St}{H:Hp}{a:Addr}(W:Wd G nb ρ σ H)(e:ρ[i]?=some (.own a f ds)):Wd G (fun x=>nb x/\x≠a) (ρ.set i (.d f (.list ds))) σ H:=by
  obtain⟨x,e1,h1,h2,h3,xs,hx,hd⟩:=W.ok i _ e
  subst h1
  have hil:i<ρ.length:=(bQ.mp e).1
  have W0:Wd G nb (ρ.set i .no) (σ.set i (some (.ref a))) H:=W.set trivial fun _ _ _ z=>by cases z
  have W1:Wd G (fun x=>nb x/\x≠a) (ρ.set i .no) (σ.set i (some (.ref a))) H:=by
    refine⟨W0.aA,fun x n=>W0.live x n.1,W0.old,fun x n=>W0.cU x n.1,W0.gA,W0.len,W0.gB,fun h m=>(W0.eG h m).av (bI (fun z=>z) fun _ z=>z.1),fun j s e'=>?_,W0.apart,W0.eN,W0.c7⟩
    obtain⟨x,iV,h⟩:=W0.ok j s e'
    refine⟨x,iV,?_⟩
    have hij:s≠ .no->i≠j:=fun n z=>by subst z;rw[dH hil] at e';cases e';exact n rfl
    cases s with
    |no=>trivial
    |d f d=>obtain⟨v,e,h⟩:=h;exact⟨v,e,h.av (bI (fun z=>z) fun _ z=>z.1)⟩
    | own c f es =>
      obtain⟨e2,n,q,xs,hx,hd⟩:=h
      have hij:=hij (by intro z;cases z)
      rw[ck hij] at e'
      exact⟨e2,⟨n,(W.apart i j _ _ _ _ _ _ hij e e').symm⟩,q,xs,hx,hd.av (bI (fun z=>z) fun _ z=>z.1)⟩
    |aA=>exact h
    |raw v=>exact h
    | bU c f es =>
      obtain⟨e2,n,q,ps,hp,hd⟩:=h
      have hca:c≠a:=fun z=>by subst z;rw[hx] at hp;cases hp
      exact⟨e2,⟨n,hca⟩,q,ps,hp,hd.av (bI (fun z=>z) fun _ z=>z.1)⟩
    | cu c =>
      obtain⟨e2,n,q⟩:=h
      have hij:=hij (by intro z;cases z)
      rw[ck hij] at e'
      exact⟨e2,fun x hx=>⟨⟨(n x hx).1,fun z=>W.c7 j i c _ (bM hij) e' e x hx (by rw[z];exact cg.mpr rfl)⟩,(n x hx).2⟩,c.av (bI (fun z=>z) fun _ z=>z.1) q⟩
  have W2:=W1.nF (i:=i) (f:=f) (d:= .list ds) (v:= .ref a) (.lst (fun z=>by
    rcases z with z|z|z|z
    · exact z.2 rfl
    · exact W.gA a z (W.cU a h2 h3)
    · exact z h3
    · exact z.2 (W.cU a h2 h3)) hx (hd.av (bI (fun z=>z) fun _ z=>z.1)))
  rw[jB,jB] at W2
  have:σ.set i (some (.ref a))=σ:=by
    apply iw
    intro j
    by_cases hij:i=j
    · subst hij;rw[dH (by rw[W.len];exact hil),e1]
    · rw[ck hij]
  rwa[this] at W2
theorem lD{a:Addr}(i:Nat)(e:ρ[i]?=some (.own a f ds))(h:Sv G (ρ.set i (.d f (.list ds))) s E):Sv G ρ s E:=fun nb σ H D W K=>h _ σ H D (share W e) K
theorem wk{ρ':Rh}(w:Wk ρ' ρ)(h:Sv G ρ' s E):Sv G ρ s E:=fun nb σ H D W K=>h nb σ H D (W.wk w) K
end Sv
end
end L2
set_option maxRecDepth 100000
set_option maxHeartbeats 1000000
namespace L2
open PySem PySem.Spec PyProof.Rows
abbrev Gx.hd(G:Gx)(f:Bool)(d:PyData)(v:V):Gx:={G with hold:=(f, .d d,v)::G.hold}
section
variable{G:Gx}{ρ cZ:Rh}{Φ Ψ:Pd}{ta tb te:TE}{t:TA}{i:Nat}{f g:Bool}{d e:PyData}{ds es:List PyData}{K:PySem.W.Frag}
theorem Wd.hd{nb:Addr->Prop}{σ:St}{H:Hp}{v:V}(W:Wd G nb ρ σ H)(h:aj (G.S nb f) H d v):Wd (G.hd f d v) nb ρ σ H:=
 ⟨W.aA,W.live,W.old,W.cU,W.gA,W.len,W.gB,fun x m=>by
  rcases aK.mp m with e|m
  ·subst e;exact h
  ·exact W.eG x m,fun i s e=>by
   obtain⟨x,e1,h⟩:=W.ok i s e
   refine⟨x,e1,?_⟩
   cases s<;>exact h,W.apart,W.eN,W.c7⟩
theorem Wd.gW{nb:Addr->Prop}{σ:St}{H:Hp}{v:V}(W:Wd (G.hd f d v) nb ρ σ H):Wd G nb ρ σ H/\aj (G.S nb f) H d v:=
 ⟨⟨W.aA,W.live,W.old,W.cU,W.gA,W.len,W.gB,fun x m=>W.eG x (cK _ m),fun i s e=>by
   obtain⟨x,e1,h⟩:=W.ok i s e
   refine⟨x,e1,?_⟩
   cases s<;>exact h,W.apart,W.eN,W.c7⟩,W.eG _ (bA ..)⟩
namespace Sv
variable{E:DE}{s:TS}{gt:TG}
def oq(G:Gx)(ρ:Rh)(n:Nat)(it:Nat->PyData->Prop)(fi:Bool)(gt:TG)(s:TS)(E:DE):Prop:=
 ∃I:Nat->Rh->Prop,I 0 ρ/\(∀i d ρ',it i d->I i ρ'->Gv G ρ' gt fi d fun gh=>Sv G gh s {nx:=I (i+1),rt:=E.rt,bk:=E.nx,ct:=I (i+1),rw:=E.rw})/\∀ρ',I n ρ'->E.nx ρ'
theorem Ny{lo:Int}{n:Nat}{nb:Addr->Prop}{σ:St}{H:Hp}{D:Ends}(W:Wd G nb ρ σ H)(KK:sZ G E D)(h:oq G ρ n (fun i d=>i<n/\d= .int (lo+i)) true gt s E):
  ∃W:Nat->Nat->St->Hp->Prop,(∃m,W 0 m σ H)/\∀i m σ H,W i m σ H->
   ((iE lo n).stop i H/\D.nx σ H)\/((iE lo n).go i H/\∃N:St->Hp->Prop,(∀σ' H',N σ' H'->∃m',m'<m/\W (i+1) m' σ' H')/\∀x H',(iE lo n).mF i H x H'->gt x σ H' fun σ2 H2=>s {D with nx:=N,ct:=N,bk:=D.nx} σ2 H2):=by
 obtain⟨I,h0,ht,he⟩:=h
 refine As (fun i σ H=>∃nb ρ',I i ρ'/\Wd G nb ρ' σ H) ⟨nb,ρ,h0,W⟩ ?_ ?_
 ·rintro i σ H hi ⟨nb,ρ',hI,W⟩
  refine ht i _ ρ' ⟨hi,rfl⟩ hI nb σ H _ _ W (.int _) fun σ2 gh q W2=>q nb σ2 H _ W2 ?_
  exact⟨fun nb ρ σ H q W=>⟨nb,ρ,q,W⟩,KK.nx,fun nb ρ σ H q W=>⟨nb,ρ,q,W⟩,KK.rt,KK.rw⟩
 ·rintro σ H ⟨nb,ρ',hI,W⟩
  exact KK.nx nb ρ' σ H (he ρ' hI) W
theorem oQ(h:Ev G ρ te fun _ x=>∃n:Int,x= .int n/\ -(2^62)<=n/\n<2^62/\oq G ρ n.toNat (fun i d=>i<n.toNat/\d= .int (0+i)) true gt s E):Sv G ρ (pP (vp (bJ te cF)) gt s) E:=fun nb σ H D W KK=>
 h nb σ H _ W fun f v H1 x ⟨n,ex,h1,h2,q⟩ s1 hv=>by
  subst ex
  rw[hv.cD]
  exact⟨n,rfl,h1,h2,Ny (W.step s1) KK q⟩
theorem forL(h:Ev G ρ te fun f x=>∃ds,x= .list ds/\∀v,oq (G.hd f (.list ds) v) ρ ds.length (fun i d=>ds[i]?=some d) f gt s E):Sv G ρ (pP (qa K te) gt s) E:=fun nb σ H D W KK=>
 h nb σ H _ W fun f v H1 x ⟨ds,ex,q⟩ s1 hv=>by
  subst ex
  obtain⟨I,h0,ht,he⟩:=q v
  have W1:=(W.step s1).hd hv
  obtain⟨a,xs,rfl,n,hx,hd⟩:=hv.fB
  have key:∀{nb ρ' σ H},Wd (G.hd f (.list ds) (.ref a)) nb ρ' σ H->∃xs,H a=some (.lst xs)/\ah (G.S nb f) H ds xs:=fun W=>by
   obtain⟨a',xs',e',_,h',d'⟩:=W.gW.2.fB
   cases e'
   exact⟨xs',h',d'⟩
  refine⟨a,rfl,⟨xs, .of hx⟩,?_⟩
  refine⟨fun i m σ H=>m=ds.length-i/\i<=ds.length/\∃nb ρ',I i ρ'/\Wd (G.hd f (.list ds) (.ref a)) nb ρ' σ H,⟨ds.length,by simp,dW _,nb,ρ,h0,W1⟩,?_⟩
  rintro i m σ H ⟨rfl,hi,nb,ρ',hI,W⟩
  obtain⟨ys,hy,hD⟩:=key W
  have hl:=hD.length
  by_cases hlt:i<ds.length
  ·refine .inr ⟨⟨ys,ys[i]'(by omega), .of hy,aQ _⟩,fun σ H=>∃nb ρ',I (i+1) ρ'/\Wd (G.hd f (.list ds) (.ref a)) nb ρ' σ H,fun σ' H' q=>⟨ds.length-(i+1),by omega,rfl,hlt,q⟩,fun x H' y=>?_⟩
   obtain⟨e,y⟩:=y
   subst e
   have hx:=y ys (.of hy)
   obtain⟨x',hx',dx⟩:=hD.get (aQ hlt)
   rw[hx] at hx';cases hx'
   refine ht i _ ρ' (aQ hlt) hI nb σ _ _ _ W dx fun σ2 gh q W2=>q nb σ2 _ _ W2 ?_
   exact⟨fun nb ρ σ H q W=>⟨nb,ρ,q,W⟩,fun nb ρ σ H q W=>KK.nx nb ρ σ H q W.gW.1,fun nb ρ σ H q W=>⟨nb,ρ,q,W⟩,fun nb ρ σ f v H d q W hv=>KK.rt nb ρ σ f v H d q W.gW.1 hv,fun nb ρ σ v H q W=>KK.rw nb ρ σ v H q W.gW.1⟩
  ·have e:i=ds.length:=by omega
   subst e
   exact .inl ⟨⟨ys, .of hy,by omega⟩,KK.nx nb ρ' σ H (he ρ' hI) W.gW.1⟩
theorem Cv{c:TT}(I:Rh->Prop)(μ:Rh->Nat)(h0:I ρ)(h:∀ρ',I ρ'->Tv G ρ' c fun b=>if b=true then Sv G ρ' s {nx:=fun gh=>I gh/\μ gh<μ ρ',rt:=E.rt,bk:=E.nx,ct:=fun gh=>I gh/\μ gh<μ ρ',rw:=E.rw} else E.nx ρ'):Sv G ρ (xM c s) E:=fun nb σ H D W KK=>by
  refine⟨fun m σ H=>∃nb ρ',I ρ'/\Wd G nb ρ' σ H/\m=μ ρ',⟨_,nb,ρ,h0,W,rfl⟩,?_⟩
  rintro m σ H ⟨nb,ρ',hI,W,rfl⟩
  refine h ρ' hI nb σ H _ W fun b H1 q s1=>?_
  cases b with
  | true =>
    rw[if_pos rfl] at q⊢
    refine⟨fun σ' H'=>∃nb gh,(I gh/\μ gh<μ ρ')/\Wd G nb gh σ' H',fun σ' H' ⟨nb,gh,⟨q1,q2⟩,W2⟩=>⟨μ gh,q2,nb,gh,q1,W2,rfl⟩,q nb σ H1 _ (W.step s1) ?_⟩
    exact⟨fun nb ρ σ H q W=>⟨nb,ρ,q,W⟩,KK.nx,fun nb ρ σ H q W=>⟨nb,ρ,q,W⟩,KK.rt,KK.rw⟩
  |false=>rw[if_neg dh] at q⊢;exact KK.nx nb ρ' σ H1 q (W.step s1)
end Sv
def mE(mp:List (Option Nat))(ρ:Rh):Rh:=mp.map fun o=>match o with|none=> .no|some j=>match ρ[j]? with|some s=>s|none=> .no
theorem Ao{mp:List (Option Nat)}(h:(mp.filterMap id).Nodup):∀{i j k:Nat},mp[i]?=some (some k)->mp[j]?=some (some k)->i=j:=by
  induction mp with
  |nil=>intro i j k e;simp at e
  | cons o r ih =>
    intro i j k e1 e2
    have hr:(r.filterMap id).Nodup:=by
      cases o with
      |none=>simpa using h
      |some x=>rw[Dj (by rfl)] at h;exact(iK.mp h).2
    have hn:∀{m:Nat},r[m]?=some (some k)->o≠some k:=fun{m} hm e=>by
      subst e
      rw[Dj (by rfl)] at h
      exact(iK.mp h).1 (Ci.mpr ⟨some k,eK hm,rfl⟩)
    cases i with
    | zero =>
      cases j with
      |zero=>rfl
      |succ j=>simp at e1 e2;exact absurd e1 (hn e2)
    | succ i =>
      cases j with
      |zero=>simp at e1 e2;exact absurd e2 (hn e1)
      |succ j=>simp at e1 e2;rw[ih hr e1 e2]
theorem Wd.gU{nb:Addr->Prop}{σ:St}{H:Hp}{mp:List (Option Nat)}(W:Wd G nb ρ σ H)(hm:(mp.filterMap id).Nodup):Wd G nb (mE mp ρ) (gU mp σ) H:=by
  have hat:∀{i:Nat} {s:Sl},(mE mp ρ)[i]?=some s->s= .no\/∃k,mp[i]?=some (some k)/\ρ[k]?=some s:=fun{i s} e=>by
    unfold mE at e
    rw[aX] at e
    obtain⟨o,ho,e⟩:=jR.mp e
    cases o with
    |none=>exact .inl e.symm
    | some k =>
      cases hk:ρ[k]? with
      |none=>simp only[hk] at e;exact .inl e.symm
      |some s'=>simp only[hk] at e;subst e;exact .inr ⟨k,ho,hk⟩
  refine⟨W.aA,W.live,W.old,W.cU,W.gA,by unfold L2.gU mE;rw[ak,ak],W.gB,W.eG,fun i s e=>?_,fun i j a f as c g cs hij e1 e2=>?_,fun i j a f as c g cs hij e1 e2=>?_,fun i j c t hij e1 e2 a ha=>?_⟩
  · have hi:i<mp.length:=by have:=(bQ.mp e).1;unfold mE at this;rwa[ak] at this
    rcases hat e with rfl|⟨k,hk,hs⟩
    · exact⟨_,by unfold L2.gU;rw[aX,aQ hi];rfl,trivial⟩
    · obtain⟨x,e1,h⟩:=W.ok k s hs
      refine⟨x,?_,h⟩
      unfold L2.gU
      rw[aX,hk]
      simp only[Option.map_some,e1]
  · rcases hat e1 with z|⟨k,hk,hs⟩
    · cases z
    rcases hat e2 with z|⟨k',hk',hs'⟩
    · cases z
    exact W.apart k k' a f as c g cs (fun z=>by subst z;exact hij (Ao hm hk hk')) hs hs'
  · rcases hat e1 with z|⟨k,hk,hs⟩
    · cases z
    rcases hat e2 with z|⟨k',hk',hs'⟩
    · cases z
    exact W.eN k k' a f as c g cs (fun z=>by subst z;exact hij (Ao hm hk hk')) hs hs'
  · rcases hat e1 with z|⟨k,hk,hs⟩
    · cases z
    rcases hat e2 with z|⟨k',hk',hs'⟩
    · subst z;exact fun z=>by cases z
    exact W.c7 k k' c t (fun z=>by subst z;exact hij (Ao hm hk hk')) hs hs' a ha
def D9(ρ:Rh)(acc:Addr):Prop:=(∀(j:Nat) a f ds,ρ[j]?=some (.own a f ds)->a≠acc)/\∀(j:Nat) c,ρ[j]?=some (.cu c)->acc∉c.F
def gz(G:Gx)(cZ:Rh)(n:Nat)(it:Nat->PyData->Prop)(fi:Bool)(gt:TG)(tc:TT)(te:TE)(Θ:Bool->List PyData->Prop):Prop:=
 ∃(fl:Bool) (I:Nat->List PyData->Prop),I 0 []/\(∀i d ds,it i d->ds.length<=i->I i ds->Gv G cZ gt fi d fun gf=>Wk cZ gf/\Tv G gf tc fun b=>if b=true then Ev G gf te fun f e=>(fl=true->f=true)/\I (i+1) (ds++[e]) else I (i+1) ds)/\
  ∀ds,ds.length<=n->I n ds->Θ (fl||gx ds) ds
theorem Fv{gt:TG}{tc:TT}{nb:Addr->Prop}{acc:Addr}{σ:St}{H H1:Hp}{x:V}{fi fl:Bool}{I:Nat->List PyData->Prop}{xs:List V}{N:St->Hp->Prop}{ds:List PyData}{n:Nat}(hn:n<=10000)(hi:i<n)
    (W:Wd G nb cZ σ H) (ha:nb acc) (hN:NB G.B acc) (hno:D9 cZ acc) (st:Step G.B H1 H) (hacc:H1 acc=none) (hx:H acc=some (.lst xs)) (hd:ah (G.S nb fl) H ds xs) (hl:ds.length<=i) (hxd:aj (G.S nb fi) H d x)
    (h:Gv G cZ gt fi d fun gf=>Wk cZ gf/\Tv G gf tc fun b=>if b=true then Ev G gf te fun f e=>(fl=true->f=true)/\I (i+1) (ds++[e]) else I (i+1) ds)
    (z:∀σ' H' ds' xs',Wd G nb cZ σ' H'->Step G.B H1 H'->H' acc=some (.lst xs')->ah (G.S nb fl) H' ds' xs'->ds'.length<=i+1->I (i+1) ds'->N σ' H'):
    gt x σ H fun σ2 H2=>tc σ2 H2 fun b H3=>if b=true then te σ2 H3 fun v H4=>∃ys,H4 acc=some (.lst ys)/\ys.length<sizeLine/\N σ2 (upd H4 acc (.lst (ys++[v]))) else N σ2 H3:=by
  refine h nb σ H x _ W hxd fun σ2 gf ⟨wk,q⟩ W2=>q nb σ2 H _ W2 fun b H3 q3 s3=>?_
  have Cz:=s3.1 _ _ hN hx
  have Ff:=hd.keep (s3.eg (nb:=nb) (f:=fl))
  cases b with
  | false =>
    rw[if_neg dh] at q3⊢
    exact z σ2 H3 ds xs ((W2.step s3).wk wk) (st.trans s3) Cz Ff (by omega) q3
  | true =>
    rw[if_pos rfl] at q3⊢
    refine q3 nb σ2 H3 _ (W2.step s3) fun f v H4 e ⟨hf,hI⟩ s4 hv=>?_
    have El:=s4.1 _ _ hN Cz
    have Tr:=Ff.keep (s4.eg (nb:=nb) (f:=fl))
    have hlen:=hd.length
    refine⟨xs,El,eE (show xs.length<10001 by omega) (by decide),?_⟩
    have W4:Wd G nb cZ σ2 H4:=((W2.step s3).step s4).wk wk
    have bt:bh (G.S nb fl) H4 (upd H4 acc (.lst (xs++[v]))):=bh.set (.inl ha)
    have W5:Wd G nb cZ σ2 (upd H4 acc (.lst (xs++[v]))):=W4.write ha hN hno.1 (fun j a f ds e z=>by
      subst z
      obtain⟨_,_,_,_,_,ps,hp,_⟩:=W4.ok j _ e
      rw[El] at hp;cases hp) hno.2
    refine z σ2 _ (ds++[e]) (xs++[v]) W5 ⟨fun a o n q=>?_,W5.aA⟩ aY (ah.snoc ((hv.av (bI hf fun _ z=>z)).keep bt) (Tr.keep bt)) (by rw[bP,fE];omega) hI
    have hne:a≠acc:=fun z=>by subst z;rw[hacc] at q;cases q
    rw[az hne]
    exact(st.trans (s3.trans s4)).1 a o n q
theorem CS{nb:Addr->Prop}{σ:St}{H:Hp}{a:Addr}(W:Wd G nb ρ σ H)(ha:H a=none):D9 ρ a:=by
 refine⟨fun j c f ds e z=>?_,fun j c e z=>?_⟩
 ·subst z
  obtain⟨x,e1,h1,h2,h3,ys,hy,_⟩:=W.ok j _ e
  rw[hy] at ha;cases ha
 ·obtain⟨x,e1,h1,h2,h3⟩:=W.ok j _ e
  exact W.live a (h2 a z).1 ha
theorem Ui{nb:Addr->Prop}{a:Addr}{f:Bool}:∀x,(G.S nb f x\/x=a)->G.S (fun x=>nb x\/x=a) f x:=fun x z=>by
 rcases z with (z|z|z|z)|z
 ·exact .inl (.inl z)
 ·exact .inr (.inl z)
 ·exact .inr (.inr (.inl z))
 ·exact .inr (.inr (.inr z))
 ·exact .inl (.inr z)
theorem FP{nb:Addr->Prop}{acc:Addr}{H H1 H':Hp}{σ:St}{Q:VK}{Θ:Bool->List PyData->Prop}{xs:List V}{ds:List PyData}{fl:Bool}(W:Wd G nb ρ σ H)(s1:Step G.B H H1)(hacc:H1 acc=none)(s2:Step G.B H1 H')(hx:H' acc=some (.lst xs))(hd:ah (G.S (fun x=>nb x\/x=acc) fl) H' ds xs)(p:Θ (fl||gx ds) ds)
  (z:∀f a xs H' ds,Θ f ds->Step G.B H H'->H a=none->H' a=some (.lst xs)->ah (fun x=>G.S nb f x\/x=a) H' ds xs->Q (.ref a) H'):Q (.ref acc) H':=by
 refine z _ acc xs H' ds p (s1.trans s2) (W.none_of s1 hacc) hx ?_
 cases hs:gx ds with
 |true=>exact ah.kZ hs hd
 |false=>rw[nL];exact hd.av Ui
theorem NB.new{B:Bg}{H:Hp}{a:Addr}(h:jH B H)(ha:H a=none):NB B a:=iX fun z=>NB.m7 h z ha
namespace aG
variable{Θ:Bool->List PyData->Prop}{gt:TG}{tc:TT}{mp:List (Option Nat)}
theorem Km{lo:Int}{n:Nat}{nb:Addr->Prop}{σ:St}{H H1:Hp}{Q:VK}(W:Wd G nb ρ σ H)(s1:Step G.B H H1)(hm:(mp.filterMap id).Nodup)(gH:mE mp ρ=cZ)(hn:n<=10000)(h:gz G cZ n (fun i d=>i<n/\d= .int (lo+i)) true gt tc te Θ)
  (z:∀f a xs H' ds,Θ f ds->Step G.B H H'->H a=none->H' a=some (.lst xs)->ah (fun x=>G.S nb f x\/x=a) H' ds xs->Q (.ref a) H') (acc:Addr) (hacc:H1 acc=none):qQ (iE lo n) gt tc te acc (fun H'=>Q (.ref acc) H') (gU mp σ) (upd H1 acc (.lst [])):=by
 obtain⟨fl,I,h0,ht,he⟩:=h
 have W0:Wd G nb cZ (L2.gU mp σ) H1:=by rw[<-gH];exact(W.step s1).gU hm
 have W1:=W0.more hacc (o:= .lst [])
 have hN:=NB.new s1.2 hacc
 have hno:=CS W0 hacc
 have wJ:Step G.B H1 (upd H1 acc (.lst [])):= .same s1.2 (dI hacc)
 refine R.Js (fun i σ H=>∃ds xs,Wd G (fun x=>nb x\/x=acc) cZ σ H/\Step G.B H1 H/\H acc=some (.lst xs)/\ah (G.S (fun x=>nb x\/x=acc) fl) H ds xs/\ds.length<=i/\I i ds) ⟨[],[],W1,wJ,aY, .nil,aI _,h0⟩ ?_ ?_
 ·rintro i σ H hi ⟨ds,xs,W,st,hx,hd,hl,hI⟩
  exact Fv hn hi W (.inr rfl) hN hno st hacc hx hd hl (.int _) (ht i _ ds ⟨hi,rfl⟩ hl hI) fun σ' H' ds' xs' W' st' hx' hd' hl' hI'=>⟨ds',xs',W',st',hx',hd',hl',hI'⟩
 ·rintro σ H' ⟨ds,xs,W',st,hx,hd,hl,hI⟩
  exact FP W s1 hacc st hx hd (he ds hl hI) z
theorem nY{t0:TE}(hm:(mp.filterMap id).Nodup)(gH:mE mp ρ=cZ)(h:Ev G ρ t0 fun _ x=>∃n:Int,x= .int n/\ -10000<=n/\n<=10000/\gz G cZ n.toNat (fun i d=>i<n.toNat/\d= .int (0+i)) true gt tc te Θ):aG G ρ (lO (vp (bJ t0 cF)) gt tc te mp) Θ:=fun nb σ H Q W z=>
 h nb σ H _ W fun f v H1 x ⟨n,ex,h1,h2,q⟩ s1 hv=>by
  subst ex
  rw[hv.cD]
  exact⟨n,rfl,by omega,by omega,Km W s1 hm gH (by omega) q z⟩
theorem iY{t0:TE}(hm:(mp.filterMap id).Nodup)(gH:mE mp ρ=cZ)(h:Ev G ρ t0 fun fi x=>∃es,x= .list es/\es.length<=10000/\∀v,gz (G.hd fi (.list es) v) cZ es.length (fun i d=>es[i]?=some d) fi gt tc te Θ):aG G ρ (lO (qa K t0) gt tc te mp) Θ:=fun nb σ H Q W z=>
 h nb σ H _ W fun fi v H1 x ⟨es,ex,hn,q⟩ s1 hv=>by
  subst ex
  obtain⟨fl,I,h0,ht,he⟩:=q v
  have W0:=(W.step s1).hd hv
  obtain⟨a,xs,rfl,n,hx,hd⟩:=hv.fB
  refine⟨a,rfl,⟨xs, .of hx⟩,fun acc hacc=>?_⟩
  have GC:Wd (G.hd fi (.list es) (.ref a)) nb cZ (L2.gU mp σ) H1:=by rw[<-gH];exact W0.gU hm
  have W1:=GC.more hacc (o:= .lst [])
  have hN:=NB.new s1.2 hacc
  have hno:=CS GC hacc
  have wJ:Step G.B H1 (upd H1 acc (.lst [])):= .same s1.2 (dI hacc)
  have EL:NB G.B a:=iX fun z=>n (.inr (.inr (.inl z)))
  refine R.Cw (xs:=xs) (fun i σ H=>∃ds ys,Wd (G.hd fi (.list es) (.ref a)) (fun x=>nb x\/x=acc) cZ σ H/\Step G.B H1 H/\H acc=some (.lst ys)/\ah (G.S (fun x=>nb x\/x=acc) fl) H ds ys/\ds.length<=i/\I i ds) ⟨[],[],W1,wJ,aY, .nil,aI _,h0⟩ ?_ ?_ ?_
  ·rintro i σ H hi ⟨ds,ys,W,st,_⟩
   exact .of (st.1 _ _ EL hx)
  ·rintro i x σ H hi ⟨ds,ys,W,st,hy,hd',hl,hI⟩
   obtain⟨a',xs',e',_,h',d'⟩:=W.gW.2.fB
   cases e'
   rw[st.1 _ _ EL hx] at h';cases h'
   have hil:i<es.length:=by have:=(bQ.mp hi).1;have:=d'.length;omega
   obtain⟨x',hx',dx⟩:=d'.get (aQ hil)
   rw[hi] at hx';cases hx'
   exact Fv (G:=G.hd fi (.list es) (.ref a)) hn hil W (.inr rfl) hN hno st hacc hy hd' hl dx (ht i _ ds (aQ hil) hl hI) fun σ' H' ds' xs' W' st' hx' hd' hl' hI'=>⟨ds',xs',W',st',hx',hd',hl',hI'⟩
  ·rintro σ H' ⟨ds,ys,W',st,hy,hd',hl,hI⟩
   rw[hd.length] at hl hI
   exact FP W s1 hacc st hy hd' (he ds hl hI) z
end aG
end
end L2
set_option maxRecDepth 100000
set_option maxHeartbeats 1000000
namespace L2
open PySem PySem.Spec PyProof.Rows
section
variable{ρ:Rh}{t:TS}{N:List Str}{vs:List V}{ds:List PyData}{nb:Addr->Prop}{H:Hp}{Q:VK}{Φ:Pd}{b l:Addr}
theorem l7{xs:List V}(h:ah nb H ds xs){i:Nat}{s:Sl}(e:(ds.map (Sl.d false))[i]?=some s):∃v d,xs[i]?=some v/\s= .d false d/\aj nb H d v:=by
 rw[aX] at e
 obtain⟨d,hd,e⟩:=jR.mp e
 obtain⟨v,hv,q⟩:=h.get hd
 exact⟨v,d,hv,e.symm,q⟩
theorem Sv.fj(hl:kN nb H)(hd:ah nb H ds vs)(aD:∀f d v H',Φ f d->dD H H'->aj (fun a=>nb a\/(f=true/\H a≠none)) H' d v->Q v H')
  (gH:ρ=ds.map (Sl.d false)++List.replicate (N.length-ds.length) .no) (h:Sv ⟨none,H,nb,[]⟩ ρ t {nx:=fun _=>Φ true .none,rt:=Φ}):t {nx:=fun _ H'=>Q .aM H',rt:=Q} (start N vs) H:=by
 have hlen:=hd.length
 have sm:∀{cI ρ' σ' H'},Wd ⟨none,H,nb,[]⟩ cI ρ' σ' H'->dD H H':=fun W a o e=>W.old a o (fun _ _ z=>(by cases z)) e
 refine h (fun _=>False) _ H _ ⟨fun _ _ z=>(by cases z),fun _ z=>z.elim,fun _ _ _ e=>e,fun _ z=>z.elim,hl,?_,fun _ _ z=>(by cases z),fun _ m=>(by cases m),fun i s e=>?_,?_,?_,?_⟩ ⟨fun cI ρ' σ' H' q W=>aD _ _ _ _ q (sm W) .aM,fun _ _ _ _ q _=>q.elim,fun _ _ _ _ q _=>q.elim,fun cI ρ' σ' f v H' d q W hv=>aD f d v H' q (sm W) (hv.av fun a z=>?_),fun _ _ _ _ _ q _=>q.elim⟩
 ·rw[gH];unfold start;simp[hlen]
 ·rw[gH] at e
  unfold start
  by_cases hi:i<ds.length
  ·rw[iB (by rw[ak];exact hi)] at e
   obtain⟨v,d,hv,rfl,q⟩:=l7 hd e
   refine⟨some v,?_,v,rfl,q.av fun a z=>?_⟩
   ·rw[iB (by rw[ak,hlen];exact hi),aX,hv];rfl
   ·rcases z with z|z|z|z
    ·exact z.elim
    ·exact z
    ·exact absurd (fun _ _ z=>(by cases z)) z
    ·cases z.1
  ·rw[iy (by rw[ak];omega),iD] at e
   split at e
   ·rename_i h'
    cases e
    refine⟨none,?_,trivial⟩
    rw[ak] at h'
    rw[iy (by rw[ak];omega),iD,if_pos (by rw[ak,hlen];exact h')]
   ·cases e
 ·intro i j a f as c g cs hij e1
  rw[gH] at e1
  by_cases hi:i<ds.length
  ·rw[iB (by rw[ak];exact hi)] at e1
   obtain⟨_,_,_,z,_⟩:=l7 hd e1
   cases z
  ·rw[iy (by rw[ak];omega),iD] at e1
   split at e1<;>cases e1
 ·intro i j a f as c g cs hij e1
  rw[gH] at e1
  by_cases hi:i<ds.length
  ·rw[iB (by rw[ak];exact hi)] at e1
   obtain⟨_,_,_,z,_⟩:=l7 hd e1
   cases z
  ·rw[iy (by rw[ak];omega),iD] at e1
   split at e1<;>cases e1
 ·intro i j c t hij e1
  rw[gH] at e1
  by_cases hi:i<ds.length
  ·rw[iB (by rw[ak];exact hi)] at e1
   obtain⟨_,_,_,z,_⟩:=l7 hd e1
   cases z
  ·rw[iy (by rw[ak];omega),iD] at e1
   split at e1<;>cases e1
 ·rcases z with z|z
  ·exact .inr (.inl z)
  ·exact .inr (.inr (.inr z))
theorem Sv.nJ(hB:c9 H b l)(hl:kN nb H)(hb:nb b)(hd:ah nb H ds vs)(aD:∀f d v H',Φ f d->bh (Nb b) H H'->c9 H' b l->aj (fun a=>nb a\/(f=true/\H a≠none)) H' d v->Q v H')
    (gH:ρ= .aA::ds.map (Sl.d false)++List.replicate (N.length-(ds.length+1)) .no) (h:Sv ⟨some (b,l),H,nb,[]⟩ ρ t {nx:=fun _=>Φ true .none,rt:=Φ}):t {nx:=fun _ H'=>Q .aM H',rt:=Q} (start N (.ref b::vs)) H:=by
  have hlen:=hd.length
  have EB:∀a,a≠b->NB (some (b,l)) a:=fun a n b' l' e=>by cases e;exact n
  have J3:∀a,¬NB (some (b,l)) a->a=b:=fun a n=>iX fun z=>n (EB a z)
  have bt:∀{cI ρ' σ' H'},Wd ⟨some (b,l),H,nb,[]⟩ cI ρ' σ' H'->bh (Nb b) H H':=fun W a o n e=>W.old a o (EB a n) e
  have bg:∀{cI ρ' σ' H'},Wd ⟨some (b,l),H,nb,[]⟩ cI ρ' σ' H'->c9 H' b l:=fun W=>W.aA b l rfl
  refine h (fun _=>False) _ H _ ⟨fun b' l' e=>(by cases e;exact hB),fun _ z=>z.elim,fun _ _ _ e=>e,fun _ z=>z.elim,hl,?_,fun b' l' e=>(by cases e;exact hB),fun _ m=>(by cases m),fun i s e=>?_,?_,?_,?_⟩ ⟨fun cI ρ' σ' H' q W=>aD _ _ _ _ q (bt W) (bg W) .aM,fun _ _ _ _ q _=>q.elim,fun _ _ _ _ q _=>q.elim,fun cI ρ' σ' f v H' d q W hv=>aD f d v H' q (bt W) (bg W) (hv.av fun a z=>?_),fun _ _ _ _ _ q _=>q.elim⟩
  · rw[gH];unfold start;simp[hlen]
  · rw[gH] at e
    unfold start
    cases i with
    |zero=>simp at e;subst e;exact⟨some (.ref b),by simp,b,l,rfl,rfl⟩
    | succ i =>
      simp only[nu,k6,bR,fM] at e⊢
      by_cases hi:i<ds.length
      · rw[iB (by rw[ak];exact hi)] at e
        obtain⟨v,d,hv,rfl,q⟩:=l7 hd e
        refine⟨some v,?_,v,rfl,q.av fun a z=>?_⟩
        · rw[iB (by rw[ak,hlen];exact hi),aX,hv];rfl
        · rcases z with z|z|z|z
          · exact z.elim
          · exact z
          · rw[J3 a z];exact hb
          · cases z.1
      · rw[iy (by rw[ak];omega),iD] at e
        split at e
        · rename_i h'
          cases e
          refine⟨none,?_,trivial⟩
          rw[ak] at h'
          rw[iy (by rw[ak];omega),iD,if_pos (by rw[ak,hlen];exact h')]
        · cases e
  · intro i j a f as c g cs hij e1
    rw[gH] at e1
    cases i with
    |zero=>simp at e1
    | succ i =>
      simp only[nu,k6] at e1
      by_cases hi:i<ds.length
      · rw[iB (by rw[ak];exact hi)] at e1
        obtain⟨_,_,_,z,_⟩:=l7 hd e1
        cases z
      · rw[iy (by rw[ak];omega),iD] at e1
        split at e1<;>cases e1
  · intro i j a f as c g cs hij e1
    rw[gH] at e1
    cases i with
    |zero=>simp at e1
    | succ i =>
      simp only[nu,k6] at e1
      by_cases hi:i<ds.length
      · rw[iB (by rw[ak];exact hi)] at e1
        obtain⟨_,_,_,z,_⟩:=l7 hd e1
        cases z
      · rw[iy (by rw[ak];omega),iD] at e1
        split at e1<;>cases e1
  · intro i j c t hij e1
    rw[gH] at e1
    cases i with
    |zero=>simp at e1
    | succ i =>
      simp only[nu,k6] at e1
      by_cases hi:i<ds.length
      · rw[iB (by rw[ak];exact hi)] at e1
        obtain⟨_,_,_,z,_⟩:=l7 hd e1
        cases z
      · rw[iy (by rw[ak];omega),iD] at e1
        split at e1<;>cases e1
  · rcases z with z|z
    · exact .inr (.inl z)
    · exact .inr (.inr (.inr z))
def wM(b l:Addr)(H:Hp):Gx:=⟨some (b,l),H,fun _=>False,[]⟩
theorem TL{a:Addr}{m:Nat}(hB:c9 H b l):Wd (wM b l H) (fun _=>False) (.raw (.ref a):: .aA::List.replicate m .no) (some (.ref a)::some (.ref b)::List.replicate m none) H:=by
  refine⟨fun b' l' e=>(by cases e;exact hB),fun _ z=>z.elim,fun _ _ _ e=>e,fun _ z=>z.elim,fun _ z=>z.elim,by simp,fun b' l' e=>(by cases e;exact hB),fun _ m=>(by cases m),fun i s e=>?_,?_,?_,?_⟩
  · match i with
    |0=>simp at e;subst e;exact⟨_,rfl,rfl⟩
    |1=>simp at e;subst e;exact⟨some (.ref b),rfl,b,l,rfl,rfl⟩
    | i + 2 =>
      simp only[k6,iD] at e⊢
      split at e
      · rename_i h;cases e;exact⟨none,if_pos h,trivial⟩
      · cases e
  · intro i j a f as c g cs hij e1
    match i with
    |0=>simp at e1
    |1=>simp at e1
    | i + 2 =>
      simp only[k6,iD] at e1
      split at e1<;>cases e1
  · intro i j a f as c g cs hij e1
    match i with
    |0=>simp at e1
    |1=>simp at e1
    | i + 2 =>
      simp only[k6,iD] at e1
      split at e1<;>cases e1
  · intro i j c t hij e1
    match i with
    |0=>simp at e1
    |1=>simp at e1
    | i + 2 =>
      simp only[k6,iD] at e1
      split at e1<;>cases e1
theorem Ev.VP{G:Gx}{i:Nat}{a:Addr}{ns:List Int}{K:PySem.W.Frag}(e:ρ[i]?=some (.raw (.ref a)))(hS:aW K G.H0 a (ns.map V.int))(h:Φ true (.int ns.length)):Ev G ρ (e7 (dg K) (bJ (fR i) cF)) Φ:=fun nb σ H Q W z=>by
 obtain⟨x,e1,h1⟩:=W.ok i _ e
 have h1:x=some (.ref a):=h1
 subst h1
 have hS':aW K H a (ns.map V.int):=by
  rcases hS with hr|hk
  ·have hn:NB G.B a:=fun b l hb z=>by
    subst z
    obtain⟨_,_,_,_,_,g1,_⟩:=W.gB _ _ hb
    rcases hr with hr|⟨o,hr⟩
    ·rw[g1] at hr
     have:=HO.lst.inj (gn hr)
     cases ns with
     |nil=>cases this
     |cons n r=>rw[bR] at this;cases (List.cons.inj this).1
    ·rw[g1] at hr;cases hr
   rcases hr with hr|⟨o,hr⟩
   ·exact .inl (.inl (W.old _ _ hn hr))
   ·exact .inl (.inr ⟨o,W.old _ _ hn hr⟩)
  ·exact .inr hk
 refine⟨.ref a,e1,a,_,rfl, .inl hS',?_⟩
 rw[ak]
 exact z true _ H _ h (.refl W.aA) (.int _)
theorem SQ{D:Ends}(h2:∀H,D.rt (.bl true) H):sZ (wM b l H) {nx:=fun _=>False,rt:=fun _ d=>d= .bool true} D:=
 ⟨fun _ _ _ _ q _=>q.elim,fun _ _ _ _ q _=>q.elim,fun _ _ _ _ q _=>q.elim,fun _ _ _ f v H d q _ hv=>by subst q;unfold aj at hv;subst hv;exact h2 H,fun _ _ _ _ _ q _=>q.elim⟩
end
namespace R
theorem di{P:Int->Prop}{i:Int}(h:P i):∃j,PyData.int i= .int j/\P j:=⟨i,rfl,h⟩
theorem db{P:Bool->Prop}{i:Bool}(h:P i):∃j,PyData.bool i= .bool j/\P j:=⟨i,rfl,h⟩
theorem dl{P:List PyData->Prop}{i:List PyData}(h:P i):∃j,PyData.list i= .list j/\P j:=⟨i,rfl,h⟩
theorem dt{P:List PyData->Prop}{i:List PyData}(h:P i):∃j,PyData.tuple i= .tuple j/\P j:=⟨i,rfl,h⟩
theorem Om{P:List PyData->Prop}{i:List PyData}(h:P i):∃j,(PyData.list i= .list j\/PyData.list i= .tuple j)/\P j:=⟨i, .inl rfl,h⟩
theorem Ur{P:List PyData->Prop}{i:List PyData}(h:P i):∃j,(PyData.tuple i= .list j\/PyData.tuple i= .tuple j)/\P j:=⟨i, .inr rfl,h⟩
theorem KD{P:Bool->Prop}{i j:Int}(h:P (decide (i=j))):∃b,gE (.int i) (.int j) b/\P b:=⟨_, .ii i j,h⟩
theorem T3{P:Bool->Prop}{x y:Bool}(h:P (x==y)):∃b,gE (.bool x) (.bool y) b/\P b:=⟨_, .bb x y,h⟩
theorem at_{ds:List PyData}{k:Int}{e:PyData}{P:PyData->Prop}(h:bx ds k=some e)(q:P e):∃e,bx ds k=some e/\P e:=⟨e,h,q⟩
theorem Nh{A:Prop}(q:A):([]:List Fd).length<=10000/\A:=⟨by decide,q⟩
theorem PK{C A:Prop}(c:C)(q:A):C/\A:=⟨c,q⟩
end R
theorem fc{n:Nat}{F:DF}{vs:List V}{H:Hp}{Q:VK}{E:XK}(h:aS n F vs H Q E):∃(nb:Addr->Prop) (ds:List PyData) (Φ:Pd),kN nb H/\ah nb H ds vs/\(∀f d v H',Φ f d->dD H H'->aj (fun a=>nb a\/(f=true/\H a≠none)) H' d v->Q v H')/\F ds Φ:=by
 obtain⟨_,nb,ds,h1,h2,h3⟩:=h
 exact⟨nb,ds,_,h1,h2,fun f d v H' q=>q v H',h3⟩
theorem nh{n:Nat}{F:DF}{vs:List V}{H:Hp}{Q:VK}{E:XK}(h:fX n F vs H Q E):∃(b l:Addr) (ws:List V) (nb:Addr->Prop) (ds:List PyData) (Φ:Pd),vs= .ref b::ws/\c9 H b l/\kN nb H/\nb b/\ah nb H ds ws/\(∀f d v H',Φ f d->bh (Nb b) H H'->c9 H' b l->aj (fun a=>nb a\/(f=true/\H a≠none)) H' d v->Q v H')/\F ds Φ:=by
 obtain⟨_,b,l,ws,nb,ds,e,hB,h1,hb,h2,h3⟩:=h
 exact⟨b,l,ws,nb,ds,_,e,hB,h1,hb,h2,fun f d v H' q=>q v H',h3⟩
end L2
set_option maxRecDepth 100000
set_option maxHeartbeats 1000000
namespace L2
open PySem PySem.Spec PyProof.Rows
abbrev aq:=List (Int×Int)
abbrev Wo:=List (Option Int)
abbrev dw(prs:aq):PyData:= .list (prs.map pairD)
abbrev kU(wd:Wo):PyData:= .list (wd.map iN)
abbrev cL(p n:Int)(cs:List aq):PyData:= .tuple [.int p, .int n, .list (cs.map dw)]
def tw(prs:aq)(wd:Wo):Prop:=∃pr∈prs,wd[pr.1.toNat]?=some none
instance{prs:aq}{wd:Wo}:Decidable (tw prs wd):=by unfold tw;infer_instance
def nO(p:Int)(prs:aq)(wd:Wo):Option Int:=if tw prs wd then none else some (bq prs wd%p)
def l8(prs:aq)(m:Nat):Prop:=∀pr∈prs,0<=pr.1/\pr.1<m/\Sm pr.2
def kK(wd:Wo):Prop:=∀x,some x∈wd->Sm x
theorem EN{α β:Type}{xs:List α}(φ:α->β){k:Int}{m:Nat}(h0:0<=k)(h1:k<m)(hm:m=xs.length):∃x,xs[k.toNat]?=some x/\bx (xs.map φ) k=some (φ x):=by
 have hk:k.toNat<xs.length:=by omega
 exact⟨xs[k.toNat],aQ hk,gY h0 (by rw[aX,aQ hk];rfl)⟩
theorem fK{α β:Type}{xs:List α}{φ:α->β}{i:Nat}{d:β}(h:(xs.map φ)[i]?=some d):∃x,xs[i]?=some x/\d=φ x:=by
 rw[aX] at h
 obtain⟨x,hx,e⟩:=jR.mp h
 exact⟨x,hx,e.symm⟩
theorem take_snoc{α:Type}{xs:List α}{i:Nat}{x:α}(h:xs[i]?=some x):xs.take (i+1)=xs.take i++[x]:=by
 rw[wX,h];rfl
theorem Jp(o:Option Int):p5 (iN o)=o.isNone:=by cases o<;>rfl
end L2
set_option maxRecDepth 100000
set_option maxHeartbeats 4000000
namespace L2
open PySem PySem.Spec PyProof.Rows
structure Eu(p b L lt r t:Int):Prop where
 l0:0<L
 r0:0<=r
 lp:L<=p
 rp:r<=p
 lc:∃k,L=lt*b+p*k
 rc:∃k,r=t*b+p*k
 dv:∀d,d∣L->d∣r->d∣p/\d∣b%p
 sz:(t.natAbs:Int)*L+(lt.natAbs:Int)*r<=p
theorem Eu.start{p b:Int}(hp:2<=p):Eu p b p 0 (b%p) 1:=by
 have m1:=gJ b (show p≠0 by omega)
 have m2:=gy b (show 0<p by omega)
 refine⟨by omega,m1,uz _,by omega,⟨1,by rw[m9,vz,Int.mul_one]⟩,⟨-(b/p),?_⟩,fun d h1 h2=>⟨h1,h2⟩,?_⟩
 ·have:=rY b p
  rw[Int.one_mul,Int.mul_neg]
  omega
 ·show(1:Int)*p+0*(b%p)<=p
  rw[Int.one_mul,m9]
  omega
theorem Eu.tb{p b L lt r t:Int}(h:Eu p b L lt r t): -p<=t/\t<=p:=by
 have h1:(t.natAbs:Int)*1<=(t.natAbs:Int)*L:=rM (by have:=h.l0;omega) (by omega)
 have h2:0<=(lt.natAbs:Int)*r:=Int.mul_nonneg (by omega) h.r0
 have:=h.sz
 omega
theorem Eu.next{p b L lt r t:Int}(h:Eu p b L lt r t)(hr:0<r):Eu p b r t (L-L/r*r) (lt-L/r*t)/\L-L/r*r<r:=by
 have e:=rY L r
 have m1:=gJ L (show r≠0 by omega)
 have m2:=gy L hr
 have e':L-L/r*r=L%r:=by rw[sN (L/r) r];omega
 have q0:0<=L/r:=vA (by have:=h.l0;omega) (by omega)
 obtain⟨k1,c1⟩:=h.lc
 obtain⟨k2,c2⟩:=h.rc
 refine⟨⟨hr,by omega,h.rp,by have:=h.rp;omega,h.rc,⟨k1-L/r*k2,?_⟩,fun d d1 d2=>?_,?_⟩,by omega⟩
 ·rw[Int.sub_mul,qh]
  generalize L/r=q at*
  have z:q*r=q*(t*b)+q*(p*k2):=by rw[<-Int.mul_add,<-c2]
  have z1:q*(t*b)=q*t*b:=(qG q t b).symm
  have z2:q*(p*k2)=p*(q*k2):=by rw[<-qG,sN q p,qG]
  omega
 ·have dL:d∣L:=by
   have z:d∣(L-L/r*r)+L/r*r:=Int.dvd_add d2 (Int.dvd_mul_of_dvd_right d1)
   have z2:(L-L/r*r)+L/r*r=L:=by omega
   rwa[z2] at z
  exact h.dv d dL d1
 ·generalize L/r=q at*
  have a1:((lt-q*t).natAbs:Int)<=(lt.natAbs:Int)+q*(t.natAbs:Int):=by
   have b1:(lt-q*t).natAbs<=lt.natAbs+(q*t).natAbs:=by omega
   have b2:((q*t).natAbs:Int)=q*(t.natAbs:Int):=by
    rw[Int.natAbs_mul]
    have:(q.natAbs:Int)=q:=by omega
    rw[Int.natCast_mul,this]
   omega
  have a2:((lt-q*t).natAbs:Int)*r<=((lt.natAbs:Int)+q*(t.natAbs:Int))*r:=Int.mul_le_mul_of_nonneg_right a1 (by omega)
  have a3:((lt.natAbs:Int)+q*(t.natAbs:Int))*r=(lt.natAbs:Int)*r+q*(t.natAbs:Int)*r:=Int.add_mul _ _ _
  have a4:(t.natAbs:Int)*(L-q*r)=(t.natAbs:Int)*L-q*(t.natAbs:Int)*r:=by
   rw[qh,<-qG,sN (t.natAbs:Int) q]
  have:=h.sz
  omega
theorem Ey{α:Type}{us:List α}(h:us.length=1):∃a,us=[a]:=by
  cases us with
  |nil=>cases h
  | cons a us =>
    cases us with
    |nil=>exact⟨a,rfl⟩
    |cons _ _=>cases h
theorem ln2{α:Type}{us:List α}(h:us.length=2):∃a b,us=[a,b]:=by
  cases us with
  |nil=>cases h
  | cons a us =>
    obtain⟨b,rfl⟩:=Ey (us:=us) (tO h)
    exact⟨a,b,rfl⟩
theorem Fg{α:Type}{us:List α}(h:us.length=3):∃a b c,us=[a,b,c]:=by
  cases us with
  |nil=>cases h
  | cons a us =>
    obtain⟨b,c,rfl⟩:=ln2 (us:=us) (tO h)
    exact⟨a,b,c,rfl⟩
theorem I0{α:Type}{us:List α}(h:us.length=4):∃a b c d,us=[a,b,c,d]:=by
  cases us with
  |nil=>cases h
  | cons a us =>
    obtain⟨b,c,d,rfl⟩:=Fg (us:=us) (tO h)
    exact⟨a,b,c,d,rfl⟩
theorem ML{α:Type}{us:List α}(h:us.length=5):∃a b c d e,us=[a,b,c,d,e]:=by
  cases us with
  |nil=>cases h
  | cons a us =>
    obtain⟨b,c,d,e,rfl⟩:=I0 (us:=us) (tO h)
    exact⟨a,b,c,d,e,rfl⟩
end L2
set_option maxRecDepth 100000
set_option maxHeartbeats 1000000
namespace L2
open PySem PySem.Spec PyProof.Rows
def jE(xs:Array Nat):Prop:=∀(i j x y:Nat),i<j->xs[i]?=some x->xs[j]?=some y->x<y
theorem Nf{xs:Array Nat}{q:Nat}(hr:jE xs):∀(f lo hi:Nat),hi<=xs.size->lo<=hi->hi-lo<=f->(∀i x,i<lo->xs[i]?=some x->x<q)->(∀i x,hi<=i->xs[i]?=some x->q<=x)->
    lo<=SetTable.below.go xs q f lo hi/\SetTable.below.go xs q f lo hi<=hi/\(∀i x,i<SetTable.below.go xs q f lo hi->xs[i]?=some x->x<q)/\(∀i x,SetTable.below.go xs q f lo hi<=i->xs[i]?=some x->q<=x):=by
  intro f
  induction f with
  | zero =>
    intro lo hi h1 h2 h3 h4 h5
    have e:lo=hi:=by omega
    subst e
    exact⟨aI _,aI _,h4,h5⟩
  | succ f ih =>
    intro lo hi h1 h2 h3 h4 h5
    unfold SetTable.below.go
    by_cases hlt:lo<hi
    · rw[if_pos hlt]
      have hm:(lo+hi)/2<xs.size:=by omega
      have hg:xs[(lo+hi)/2]?=some xs[(lo+hi)/2]:=kq hm
      have hgd:xs.getD ((lo+hi)/2) q=xs[(lo+hi)/2]:=by rw[xC,hg];rfl
      dsimp only
      rw[hgd]
      by_cases hc:xs[(lo+hi)/2]<q
      · rw[if_pos hc]
        obtain⟨a1,a2,a3,a4⟩:=ih ((lo+hi)/2+1) hi h1 (by omega) (by omega) (fun i x hi' e=>by
          rcases Nat.lt_or_ge i ((lo+hi)/2) with z|z
          · exact mD (hr i _ x _ z e hg) hc
          · have:i=(lo+hi)/2:=by omega
            subst this;rw[hg] at e;cases e;exact hc) h5
        exact⟨by omega,a2,a3,a4⟩
      · rw[if_neg hc]
        obtain⟨a1,a2,a3,a4⟩:=ih lo ((lo+hi)/2) (by omega) (by omega) (by omega) h4 (fun i x hi' e=>by
          rcases Nat.lt_or_ge ((lo+hi)/2) i with z|z
          · exact jk (B6 (yF hc) (hr _ i _ x z hg e))
          · have:i=(lo+hi)/2:=by omega
            subst this;rw[hg] at e;cases e;exact yF hc)
        exact⟨a1,by omega,a3,a4⟩
    · rw[if_neg hlt]
      have e:lo=hi:=by omega
      subst e
      exact⟨aI _,aI _,h4,h5⟩
theorem below_at{xs:Array Nat}{q:Nat}(hr:jE xs):SetTable.below xs q<=xs.size/\(∀i x,i<SetTable.below xs q->xs[i]?=some x->x<q)/\(∀i x,SetTable.below xs q<=i->xs[i]?=some x->q<=x):=by
 obtain⟨_,h2,h3,h4⟩:=Nf (q:=q) hr xs.size 0 xs.size (aI _) (dW _) (by omega) (fun i x h=>absurd h (Nat.not_lt_zero _)) (fun i x h e=>by
  have:=(rm.mp e).1;omega)
 exact⟨h2,h3,h4⟩
theorem UZ{α:Type}{xs:Array α}{p:Nat}{x:α}(hp:p<=xs.size)(i:Nat):(SetTable.insertAt xs p x)[i]?=if i<p then xs[i]? else if i=p then some x else xs[i-1]?:=by
 unfold SetTable.insertAt
 rw[Array.getElem?_append]
 have e1:((xs.extract 0 p).push x).size=p+1:=by rw[Array.size_push,tY];omega
 rw[e1]
 by_cases h1:i<p
 ·rw[if_pos (show i<p+1 by omega),if_pos h1,CP,if_neg (by rw[tY];omega),GD (by omega)]
  simp
 ·rw[if_neg h1]
  by_cases h2:i=p
  ·rw[if_pos (show i<p+1 by omega),if_pos h2,CP,if_pos (by rw[tY];omega)]
  ·rw[if_neg (show¬i<p+1 by omega),if_neg h2]
   by_cases h3:i-(p+1)<xs.size-p
   ·rw[GD (by omega),<-kq,show p+(i-(p+1))=i-1 by omega]
   ·rw[wI (by rw[tY];omega),wI (by omega)]
theorem jE.insert{xs:Array Nat}{q:Nat}(hr:jE xs)(hq:xs[SetTable.below xs q]?≠some q):jE (SetTable.insertAt xs (SetTable.below xs q) q):=by
 obtain⟨h1,h2,h3⟩:=below_at (q:=q) hr
 have h3':∀i x,SetTable.below xs q<=i->xs[i]?=some x->q<x:=fun i x hi e=>by
  rcases yX (h3 i x hi e) with z|z
  ·exact z
  ·subst z
   rcases yX hi with z|z
   ·have hb:SetTable.below xs q<xs.size:=eE z (jk (rm.mp e).1)
    have hg:xs[SetTable.below xs q]?=some xs[SetTable.below xs q]:=kq hb
    have:=hr _ i _ q z hg e
    have:=h3 _ _ (aI _) hg
    omega
   ·rw[<-z] at e;exact absurd e hq
 intro i j x y hij ex ey
 rw[UZ h1] at ex ey
 by_cases a:i<SetTable.below xs q
 ·rw[if_pos a] at ex
  by_cases b:j<SetTable.below xs q
  ·rw[if_pos b] at ey;exact hr i j x y hij ex ey
  ·rw[if_neg b] at ey
   by_cases c:j=SetTable.below xs q
   ·rw[if_pos c] at ey;cases ey;exact h2 i x a ex
   ·rw[if_neg c] at ey;exact hr i (j-1) x y (by omega) ex ey
 ·rw[if_neg a] at ex
  by_cases c:i=SetTable.below xs q
  ·rw[if_pos c] at ex;cases ex
   rw[if_neg (by omega),if_neg (by omega)] at ey
   exact h3' (j-1) y (by omega) ey
  ·rw[if_neg c] at ex
   rw[if_neg (by omega),if_neg (by omega)] at ey
   exact hr (i-1) (j-1) x y (by omega) ex ey
theorem Sn{t:SetTable}{ha:Nat->Int}{h:Int}:∀(f:Nat) (p:SetTable.Probe) (j:Nat) (dm:Option Nat),(∀d,p.dummy=some d->t.slot d= .dummy)->SetTable.probe.go t ha h f p=some (.empty j dm)->t.slot j= .empty/\∀d,dm=some d->t.slot d= .dummy:=by
  intro f
  induction f with
  |zero=>intro p j dm _ e;unfold SetTable.probe.go at e;cases e
  | succ f ih =>
    intro p j dm hd e
    have FI:∀p:SetTable.Probe,(t.advance p).dummy=p.dummy:=fun p=>by unfold SetTable.advance;split<;>rfl
    unfold SetTable.probe.go at e
    cases hs:t.slot p.j with
    |empty=>rw[hs] at e;cases e;exact⟨hs,hd⟩
    |dummy=>rw[hs] at e;exact ih _ j dm (fun d h'=>by rw[FI] at h';cases h';exact hs) e
    | live i =>
      rw[hs] at e
      dsimp only at e
      split at e
      · cases e
      · exact ih _ j dm (fun d h'=>by rw[FI] at h';exact hd d h') e
theorem Ef{t:SetTable}{h:Int}{j:Nat}{wd:Bool}(e:t.freeSlot h=some (j,wd)):∀i,t.slot j≠ .live i:=by
 unfold SetTable.freeSlot SetTable.probe at e
 intro i z
 split at e
 ·rename_i j0 dm he
  obtain⟨h1,h2⟩:=Sn (10*SetTable.turns t.mask) (t.probeStart h) j0 dm (fun d h'=>by unfold SetTable.probeStart at h';cases h') he
  cases dm with
  |none=>cases e;simp at z;rw[h1] at z;cases z
  |some d=>cases e;simp at z;rw[h2 d rfl] at z;cases z
 ·cases e
structure eH(bt:Bool)(t:SetTable):Prop where
 led:bt=false->t.led=true
 yS:t.plain=true->jE t.place
theorem eH.standIn{bt:Bool}{t:SetTable}(h:eH bt t)(n:Nat):eH bt (t.standIn n):=⟨h.led,fun z=>by cases z⟩
theorem eH.off{bt:Bool}{t:SetTable}(h:eH bt t):eH bt {t with plain:=false}:=⟨h.led,fun z=>by cases z⟩
theorem eH.put{bt:Bool}{t:SetTable}{j:Nat}(h:eH bt t)(hj:∀i,t.slot j≠ .live i):eH bt (t.put j).1:=by
 refine⟨h.led,fun z=>?_⟩
 refine jE.insert (h.yS z) fun e=>hj (SetTable.below t.place j) ?_
 unfold SetTable.slot
 dsimp only
 rw[if_pos (by rw[e];exact beq_self_eq_true _)]
theorem eH.layNew{bt:Bool}{t:SetTable}{es:Array (Int×Value)}{h:Int}{x:Value}(ok:eH bt t):eH bt (layNew t es h x).2.1:=by
 unfold PySem.layNew
 split
 ·rename_i slot wd e
  dsimp only
  unfold SetTable.orStandIn
  split
  ·exact ok.put (Ef e)
  ·exact(ok.put (Ef e)).standIn _
 ·exact ok.standIn _
theorem S4(n:Nat)(φ:Nat->Option Nat):jE (((List.range n).filterMap fun j=>(φ j).map (j,·)).map (·.1)).toArray:=by
  have hp:(((List.range n).filterMap fun j=>(φ j).map (j,·)).map (·.1)).Pairwise (· < ·):=by
    have hs:List.Sublist (((List.range n).filterMap fun j=>(φ j).map (j,·)).map (·.1)) (List.range n):=by
      induction List.range n with
      |nil=>simp
      | cons a r ih =>
        rw[o6]
        cases φ a with
        |none=>exact ih.cons a
        |some y=>exact ih.cons₂ a
    exact List.pairwise_lt_range.sublist hs
  intro i j x y hij ex ey
  rw[Hl] at ex ey
  obtain⟨hi,rfl⟩:=bQ.mp ex
  obtain⟨hj,rfl⟩:=bQ.mp ey
  exact List.pairwise_iff_getElem.mp hp i j hi hj hij
theorem eH.Sx{bt:Bool}{t:SetTable}{es:Array (Int×Value)}{n:Nat}(ok:eH bt t):eH bt (relayAll t es n).2.1:=by
  unfold relayAll
  split
  · rename_i t' order e
    dsimp only
    split
    · unfold SetTable.relaid SetTable.laid at e
      cases hl:SetTable.layClean (SetTable.sizeAbove n-1) (es.map (·.1)) with
      |none=>rw[hl] at e;cases e
      | some owner =>
        rw[hl] at e
        cases e
        exact⟨ok.led,fun _=>S4 _ _⟩
    · exact ok.standIn _
  · exact ok.standIn _
theorem eH.fresh{bt:Bool}:eH bt (.fresh 0 0 (!bt)):=⟨fun h=>by rw[h];rfl,fun _ i j x y _ e=>by simp[SetTable.fresh] at e⟩
end L2
set_option maxRecDepth 100000
set_option maxHeartbeats 4000000
namespace L2
open PySem PySem.Spec PyProof.Rows
def gk(bt:Bool)(h:Heap)(a:Addr):Prop:=∀o es ep t,h.get? a=some o->o.data= .set es ep t->eH bt t
theorem gk.of{bt:Bool}{h:Heap}{a:Addr}{o:Obj}{es:Array (Int×Value)}{ep:Nat}{t:SetTable}(e:h.get? a=some o)(d:o.data= .set es ep t)(k:eH bt t):gk bt h a:=fun o' es' sL t' e' d'=>by
 rw[e] at e';cases e';rw[d] at d';cases d';exact k
theorem gk.keep{bt:Bool}{h h':Heap}{a:Addr}{o:Obj}(k:gk bt h a)(e:h.get? a=some o)(e':h'.get? a=some o):gk bt h' a:=fun o1 es ep t x d=>by
 rw[e'] at x;cases x;exact k o es ep t e d
section
variable{prog:Program}{w:World}{A:Around}{E:Value->Shared->Prop}{s:Shared}{a:Addr}{bt:Bool}
abbrev IK(prog:Program)(w:World):=intKind prog w
theorem Jf{o:Obj}{es es':Array (Int×Value)}{ep:Nat}{t t':SetTable}{T:Int->Bool}{h:Heap}(g1:h.get? a=some o)(g2:o.ExactSet)(g3:o.data= .set es ep t)(l1:ElemsOf (IK prog w) es'.toList)
  (l2:∀k,T k=true↔∃e∈es'.toList,(IK prog w).is k e.2=true) (l3:es'.size<scanBound) (l4:t'.fits es'.size=true) (tk:eH bt t'):
  (∃o',(h.update a (Obj.putSet es' t')).get? a=some o'/\o'.ExactSet/\o'.data= .set es' (ep+1) t')/\(h.update a (Obj.putSet es' t')).SetOf (IK prog w) a T es'.size/\gk bt (h.update a (Obj.putSet es' t')) a:=by
 obtain⟨q1,q2⟩:=SetOf_store (knd:=IK prog w) (es':=es') (t':=t') (S':=T) g1 g2 g3 l1 l2 l3 l4
 exact⟨⟨_,q1,g2,rfl⟩,q2, .of q1 rfl tk⟩
theorem ID{gg:Bool->Sem Unit}(J1:∀(b:Bool) (s₁:Shared) (Q₁:Unit->Shared->Prop),Q₁ () s₁->wpAny (model prog w) A (gg b) Q₁ E s₁){o:Obj}{es:Array (Int×Value)}{ep:Nat}{t:SetTable}
    (g1:s.heap.get? a=some o) (g2:o.ExactSet) (g3:o.data= .set es ep t) {es1:Array (Int×Value)} {t2:SetTable} {T:Int->Bool} (l1:ElemsOf (IK prog w) es1.toList) (l2:∀k,T k=true↔∃e∈es1.toList,(IK prog w).is k e.2=true)
    (l3:es1.size<scanBound) (l4:t2.fits es1.size=true) (tk:eH bt t2) {wd:Bool} {R:Option Bool->Shared->Prop}
    (fin:∀h',Heap.SameBut a s.heap h'->h'.SetOf (IK prog w) a T es1.size->gk bt h' a->R (some true) {s with heap:=h'}):
    wpAny (model prog w) A (do storeSet a es1 t2
                               if(!wd && t2.tooFull)=true then do
                                 gg (relayAll t2 es1 (SetTable.grown es1.size)).2.2
                                 storeSet a (relayAll t2 es1 (SetTable.grown es1.size)).1 (relayAll t2 es1 (SetTable.grown es1.size)).2.1
                                 pure (some true)
                               else pure (some true)) R E s:=by
  obtain⟨⟨o1,k1,k2,k3⟩,q1,q2⟩:=Jf (T:=T) g1 g2 g3 l1 l2 l3 l4 tk
  have sb:=Heap.SameBut.update s.heap a (Obj.putSet es1 t2)
  refine wpAny_bind (wpAny_storeSet_of g1 g3 ?_ (fits_of_scanBound l3))
  by_cases c:(!wd && t2.tooFull)=true
  · rw[if_pos c]
    have pp:=relayAll_perm t2 es1 (SetTable.grown es1.size)
    have pf:=relayAll_fits t2 es1 (SetTable.grown es1.size)
    have pt:=tk.Sx (es:=es1) (n:=SetTable.grown es1.size)
    generalize relayAll t2 es1 (SetTable.grown es1.size)=Z at pp pf pt⊢
    obtain⟨tQ,t3,NJ⟩:=Z
    dsimp only at pp pf pt⊢
    have sz:tQ.size=es1.size:=by have:=pp.length_eq;rwa[jZ,jZ] at this
    have Nm:∀k,T k=true↔∃e∈tQ.toList,(IK prog w).is k e.2=true:=fun k=>(l2 k).trans ⟨fun⟨e,m,z⟩=>⟨e,pp.mem_iff.mpr m,z⟩,fun⟨e,m,z⟩=>⟨e,pp.mem_iff.mp m,z⟩⟩
    obtain⟨_,r1,r2⟩:=Jf (T:=T) k1 k2 k3 (l1.perm pp) Nm (by rw[sz];exact l3) pf pt
    refine wpAny_bind (J1 _ _ _ (wpAny_bind (wpAny_storeSet_of k1 k3 ?_ (fits_of_scanBound (by rw[sz];exact l3)))))
    rw[sz] at r1
    exact wpAny_pure (fin _ (sb.trans (Heap.SameBut.update _ a _)) r1 r2)
  · rw[if_neg c]
    exact wpAny_pure (fin _ sb q1 q2)
theorem Rk{S:Int->Bool}{n:Nat}{k:Int}{x:Value}{Q:Bool->Shared->Prop}(hx:(IK prog w).is k x=true)(sc:x.scannable=true)(hS:s.heap.SetOf (IK prog w) a S n)(hT:gk bt s.heap a)(room:n+1<scanBound)
    (fin:∀h',Heap.SameBut a s.heap h'->h'.SetOf (IK prog w) a (fun j=>S j||decide (j=k)) (if S k then n else n+1)->gk bt h' a->Q (!S k) {s with heap:=h'}):
    wpAny (model prog w) A (setAddHashed a x ((IK prog w).hash k)) Q E s:=by
  obtain⟨o,es,ep,t,g1,g2,g3,l1,l2,l3,l4,sz⟩:=hS
  have tk:=hT o es ep t g1 g3
  unfold setAddHashed setAddHashedIn
  refine wpAny_holding (wpAny_bind (wpAny_setState_of g1 g3 l4 ?_))
  dsimp only
  rw[if_pos (byScan_of sc l3 l1)]
  unfold setAddByScan
  refine wpAny_bind (wpAny_bind (wpAny_rule (wpAny_bind (wpAny_setScan_of hx g1 g3 l4 l1 ?_))))
  cases fr:List.findIdx? (fun e=>(IK prog w).is k e.2) es.toList with
  | some j =>
    obtain⟨hj,pj,_⟩:=List.findIdx?_eq_some_iff_getElem.mp fr
    have yes:S k=true:=(l2 k).mpr ⟨_,ie hj,pj⟩
    have z:=fin s.heap (.refl a s.heap) ⟨o,es,ep,t,g1,g2,g3,l1,fun j=>by
      rw[Bool.or_eq_true,decide_eq_true_eq,<-l2 j]
      exact⟨fun q=>q.elim id fun e=>e▸yes, .inl⟩,l3,l4,by rw[if_pos yes];exact sz⟩ hT
    rw[yes] at z
    exact wpAny_pure (wpAny_pure z)
  | none =>
    have no:S k=false:=by
      cases q:S k with
      |false=>rfl
      | true =>
        obtain⟨e,m,p⟩:=(l2 k).mp q
        rw[List.findIdx?_eq_none_iff.mp fr e m] at p;cases p
    have pp:=layNew_perm t es ((IK prog w).hash k) x
    have pf:=layNew_fits t es ((IK prog w).hash k) x
    have pt:=tk.layNew (es:=es) (h:=(IK prog w).hash k) (x:=x)
    dsimp only
    generalize layNew t es ((IK prog w).hash k) x=Z at pp pf pt⊢
    obtain⟨es1,t1,wd,NJ⟩:=Z
    dsimp only at pp pf pt⊢
    rw[Array.toList_push] at pp
    have kL:es1.size=n+1:=by have:=pp.length_eq;rw[bP,jZ,jZ,sz] at this;exact this
    have fin':∀h',Heap.SameBut a s.heap h'->h'.SetOf (IK prog w) a (fun j=>S j||decide (j=k)) es1.size->gk bt h' a->Q true {s with heap:=h'}:=fun h' x1 x2 x3=>by
      have:=fin h' x1;rw[no,if_neg dh] at this;rw[kL] at x2;exact this x2 x3
    have gw:∀(b:Bool) (s₁:Shared) (Q₁:Unit->Shared->Prop),Q₁ () s₁->wpAny (model prog w) A (match b with|true=>rule "set.scan.the-table-gave-way" |false=>pure ()) Q₁ E s₁:=fun b s₁ Q₁ q=>by
      cases b
      · exact wpAny_pure q
      · exact wpAny_rule q
    refine wpAny_bind (gw _ _ _ ?_)
    have e1:=(l1.push hx sc).perm pp
    have e2:=mem_push_iff hx l2 pp
    have e3:es1.size<scanBound:=by rw[kL];exact room
    by_cases pl:t1.plain=true
    · rw[if_pos pl,hashByValue_scannable 8 sc]
      refine wpAny_bind (wpAny_pure ?_)
      refine ID gw g1 g2 g3 e1 e2 e3 ?_ ?_ fun h' x1 x2 x3=>wpAny_pure (fin' h' x1 x2 x3)
      · split
        · exact pf
        · exact SetTable.fits_plain_off pf
      · split
        · exact pt
        · exact pt.off
    · rw[if_neg pl]
      refine wpAny_bind (wpAny_pure ?_)
      rw[if_pos rfl]
      exact ID gw g1 g2 g3 e1 e2 e3 pf pt fun h' x1 x2 x3=>wpAny_pure (fin' h' x1 x2 x3)
end
end L2
set_option maxRecDepth 100000
set_option maxHeartbeats 4000000
namespace L2
open PySem PySem.Spec PyProof.Rows
section
variable{prog:Program}{w:World}{A:Around}{R:Result->Shared->Prop}{I:Addr}{fp wr:List Addr}{G:Array GenState->Array GenState->Prop}{n:Nat}{P:Nat->Value->Prop}{St:Nat->Shared->Prop}{bt:Bool}
abbrev met(val:Nat->Int)(i:Nat):Int->Bool:=fun k=>(firstMet val i).any (· ==k)
theorem Td(W:WalksS prog w A.in1 I fp wr G n P St)(C:Addr)(nC:C∉fp)(val:Nat->Int)(hv:∀i v,P i v->∃t,v= .int (val i) t)(room:n+1<scanBound)(fuel:Nat):
    ∀(i:Nat) (s:Shared),n-i=fuel->i<=n->St i s->s.heap.SetOf (IK prog w) C (met val i) (firstMet val i).length->gk bt s.heap C->
      (∀s',Moved (C::wr) G s s'->s'.heap.SetOf (IK prog w) C (met val n) (firstMet val n).length->gk bt s'.heap C->R (.ok (.ret .none)) s')->
      codeAny (model prog w) A (.builtin "set.update.loop" ⟨[.ref C, .ref I],[]⟩) R s:=by
  have nw:C∉wr:=fun z=>nC (W.sub _ z)
  have up:∀b∈wr,b∈C::wr:=fun b z=>cK _ z
  have mv:∀{s s':Shared} {T:Int->Bool} {m:Nat},Moved wr G s s'->s.heap.SetOf (IK prog w) C T m->gk bt s.heap C->s'.heap.SetOf (IK prog w) C T m/\gk bt s'.heap C:=fun mo q tt=>by
    obtain⟨o,es,ep,t,ho,r⟩:=q
    exact⟨⟨o,es,ep,t,mo.heap C _ nw ho,r⟩,tt.keep ho (mo.heap C _ nw ho)⟩
  induction fuel with
  | zero =>
    intro i s e1 e2 st q tt fin
    obtain rfl:i=n:=by omega
    refine codeAny_builtin F.entry_set_update_loop ?_
    rw[lu Ae _]
    refine wpAny_bind (W.done s _ _ st fun s' mo=>?_)
    exact wpAny_pure (fin s' (mo.mono up) (mv mo q tt).1 (mv mo q tt).2)
  | succ fuel ih =>
    intro i s e1 e2 st q tt fin
    have lt:i<n:=by omega
    refine codeAny_builtin F.entry_set_update_loop ?_
    rw[lu Ae _]
    refine wpAny_bind (W.item i s _ _ lt st fun v s' hP st' mo=>?_)
    obtain⟨tok,rfl⟩:=hv i v hP
    obtain⟨q',Q7⟩:=mv mo q tt
    show wpAny _ A.in1 (holding [Value.int (val i) tok] (setAdd C (.int (val i) tok))>>=_) _ _ s'
    unfold setAdd
    refine wpAny_bind (wpAny_holding (wpAny_holding (wpAny_bind ((IK prog w).pyHash (k:=val i) (intKind_is _ _ _ _) ?_))))
    refine Rk (bt:=bt) (s:={s' with toks:=s'.toks+1}) (intKind_is _ _ _ _) rfl q' Q7 (by have:=firstMet_length_le val i;omega) fun h' sb q2 JC=>?_
    have q3:h'.SetOf (IK prog w) C (met val (i+1)) (firstMet val (i+1)).length:=SetOf_congr q2 (fun j=>by unfold met;rw[firstMet_succ,step_any]) (by rw[firstMet_succ,step_length])
    refine wpAny_pure ⟨plainId_quiet Ae _,ih (i+1) _ (by omega) lt (W.frame _ s' _ _ st' (rK _) fun b hb o e=>?_) q3 JC fun s2 Qc q4 QK=>?_⟩
    · rw[sb.2 b fun z:b=C=>nC (z▸hb)];exact e
    · refine fin s2 (Moved.trans W.gtrans ((mo.mono up).then_heap (rK _) fun b o hb e=>?_) Qc) q4 QK
      rw[sb.2 b fun z:b=C=>hb (z▸bA)];exact e
end
section
variable{prog:Program}{w:World}{A:Around}{E:Value->Shared->Prop}{s:Shared}
abbrev fJ(w:World):Bool:=w.params.followText "set-order"
abbrev kF(w:World):Obj:={cls:= .type "set",dict:=none,data:= .set #[] 0 (.fresh 0 0 (!fJ w))}
theorem P8(a:Value){Q₁:Value->Shared->Prop}(fin:Q₁ (.ref s.heap.objs.size) {s with heap:=s.heap.push (kF w)}):codeAny (model prog w) A (.call (.builtin "set.__new__") ⟨[.type "set",a],[]⟩) (wants Q₁ E) s:=by
 refine codeAny_of_tree ?_
 show wpAny _ A.in1 (do checkBuiltinCall "set.__new__" ⟨[.type "set",a],[]⟩;again (.builtin "set.__new__" ⟨[.type "set",a],[]⟩)) _ _ s
 refine wpAny_bind (wpAny_of_eq (F.newCall_set_1 a) (wpAny_pure ⟨plainId_quiet F.plain_set_new _,codeAny_builtin F.entry_set_new ?_⟩))
 rw[lu F.plain_set_new _]
 unfold Builtin.«set.__new__» Builtin.Frozenset.newClass
 have hsub:=sub_set_self
 obtain⟨hp,g,d,tk,os⟩:=s
 dsimp only at fin⊢
 wp_walk
 refine wpAny_askSetting (wpAny_pure ?_)
 dsimp only
 simp only[newObj]
 exact wpAny_bind (wpAny_alloc (wpAny_pure (wpAny_pure fin)))
theorem SO{l:Addr}{items:Array Value}{ns:List Int}{Q:Value->Shared->Prop}(hh:A.handled=none)(hl:s.heap.IsList l items)(hi:IntsAre items.toList ns)(room:items.size+1<scanBound)
    (fin:∀(h':Heap) (tk:Nat),h'.SetOf (IK prog w) s.heap.objs.size (met (fun i=>ns.getD i 0) items.size) (firstMet (fun i=>ns.getD i 0) items.size).length->gk (fJ w) h' s.heap.objs.size->
      (∀b o,b<s.heap.objs.size->s.heap.get? b=some o->h'.get? b=some o)->Q (.ref s.heap.objs.size) {s with heap:=h',toks:=tk}):wpAny (model prog w) A (call (.type "set") [.ref l]) Q E s:=by
  obtain⟨c,tl,Wb⟩:=mC.mro
  have hmade:=mC.made
  have hsub:=mC.sub
  have h1:=mC.notType
  have h2:=mC.canCreate
  have hct:=F.typeCall_set_1 (.ref l)
  refine wpAny_call (codeAny_of_tree ?_)
  show wpAny _ _ (callAny (.type "set") _) _ _ _
  refine wpAny_pure ⟨Code.quiet_builtin _ (by decide+kernel),codeAny_builtin F.entry_type_call ?_⟩
  rw[Around.under_plain (weight_type_call_type "set" [.ref l] []) rfl]
  repeat (any_goals (first|assumption|wp_step))
  refine codeAny_mono (P8 (.ref l) (E:=E) (Q₁:=fun obj s₁=>obj= .ref s.heap.objs.size/\s₁={s with heap:=s.heap.push (kF w)}) ⟨rfl,rfl⟩) fun r s₁ hr=>?_
  cases r with
  |error e=>exact hr
  | ok fl =>
    cases fl with
    | ret obj =>
      obtain⟨rfl,rfl⟩:=hr
      have hS:(s.heap.push (kF w)).get? s.heap.objs.size=some (kF w):=fN _ rfl
      have hT:Shared.TypeIs {s with heap:=s.heap.push (kF w)} (.ref s.heap.objs.size) "set":=⟨_,hS,rfl⟩
      have hli:=mC.init.lookup
      have hbi:=mC.init.bind (.ref s.heap.objs.size)
      repeat (any_goals (first|assumption|wp_step))
      refine codeAny_mono (codeAny_call_builtin (R:=wants (fun r s₂=>r= .none/\∃h' tk,s₂={s with heap:=h',toks:=tk}/\h'.SetOf (IK prog w) s.heap.objs.size (met (fun i=>ns.getD i 0) items.size) (firstMet (fun i=>ns.getD i 0) items.size).length/\gk (fJ w) h' s.heap.objs.size/\
          (∀b o,b<s.heap.objs.size->s.heap.get? b=some o->h'.get? b=some o)) E) mC.init.plain F.entry_set_init (check_set_init_1 hT ?_)) fun r₂ s₂ vO=>?_
      · obtain⟨ol,jI,hcl,nl,hdl⟩:=hl
        obtain⟨Wy,V2,VR,VY⟩:=ol
        simp only at hcl hdl
        subst hcl;subst hdl
        have J7:=bV (kF w) jI
        have Wf:=F.sub_list_set
        have VU:=F.sub_list_frozenset
        have hne:(Value.type "list"==Value.type "dict")=false:=by decide
        have hl1:(s.heap.push (kF w)).IsList l items:=⟨_,J7,rfl,nl,rfl⟩
        unfold Builtin.«set.__init__» noKeywords Builtin.Frozenset.updateFrom
        generalize JU:pyIter=PI
        wp_walk
        subst JU
        refine wpAny_pyIter_list hl1 (wpAny_bind (wpAny_runValue ?_))
        have hlS:l<s.heap.objs.size:=bC jI
        have kL:(s.heap.push (kF w)).objs.size=s.heap.objs.size+1:=mz ..
        have n1:l≠(s.heap.push (kF w)).objs.size:=by rw[kL];exact cV (nP hlS)
        have n2:s.heap.objs.size∉[(s.heap.push (kF w)).objs.size,l]:=by
          rw[kL];intro z;rcases aK.mp z with z|z
          · exact absurd z (cV (r6 _))
          · exact absurd (cg.mp z) (mR hlS)
        have h3:A.in1.in1.in1.handled=none:=by simp[hh]
        have hS':=bV ({cls:= .type "list_iterator",data:= .fields #[.ref l, .int 0 0]}:Obj) hS
        refine Td (bt:=fJ w) ((Walks.list h3 _ l n1 items).toS) s.heap.objs.size n2 (fun i=>ns.getD i 0) (fun i v e=>IntsAre.int_at hi i v (by rw[nX];exact e)) room (items.size-0) 0 _ (by omega) (dW _)
          ⟨⟨_,fN _ rfl,rfl,rfl⟩,(hl1.push _)⟩ (SetOf_congr ((setObjOf_fresh (knd:=IK prog w) (!fJ w)).setOf hS' (by unfold scanBound;omega)) (fun _=>rfl) rfl) (.of hS' rfl .fresh) ?_
        intro s' mo q tt
        obtain⟨h',g',d',tk',os'⟩:=s'
        obtain rfl:g'=s.gens:=mo.gens
        obtain rfl:d'=s.drawn:=mo.drawn
        obtain rfl:os'=s.os:=mo.os
        refine wpAny_pure (wpAny_pure ⟨rfl,h',tk',rfl,q,tt,fun b o hb e=>?_⟩)
        refine mo.heap b o (fun z=>?_) (bV _ (bV _ e))
        rcases aK.mp z with z|z
        · exact absurd z (cV hb)
        · rw[kL] at z;exact absurd (cg.mp z) (cV (nP hb))
      · cases r₂ with
        |error e=>exact vO
        | ok fl₂ =>
          cases fl₂ with
          | ret r =>
            obtain⟨rfl,h',tk,rfl,q1,q2,q3⟩:=vO
            repeat (any_goals (first|assumption|wp_step))
            exact fin _ _ q1 q2 q3
          |_=>exact vO.elim
    |_=>exact hr.elim
end
end L2
set_option maxRecDepth 100000
set_option maxHeartbeats 4000000
namespace L2
open PySem PySem.Spec PyProof.Rows
theorem ja:Slot "set_iterator" "__next__" "set_iterator.__next__":= .of (owner:="set_iterator") (n:="__next__") (by rw[typeLookup_type,builtinLookup_eq_fast];kernel_rfl) (by decide+kernel) (by decide+kernel) (by decide+kernel) (by first|exact .inl (by decide+kernel)|exact .inr (by decide+kernel)) (by rw[isSubtype_type];kernel_rfl)
theorem sA:entryFor table "set_iterator.__next__"=some Builtin.«set_iterator.__next__» :=entryFor_of_tree (by kernel_rfl)
theorem tK(a:Value):argsOk "set_iterator.__next__" ⟨[a],[]⟩:=by unfold argsOk;kernel_rfl
theorem Jh:Slot "set" "__iter__" "set.__iter__":= .of (owner:="set") (n:="__iter__") (by rw[typeLookup_type,builtinLookup_eq_fast];kernel_rfl) (by decide+kernel) (by decide+kernel) (by decide+kernel) (by first|exact .inl (by decide+kernel)|exact .inr (by decide+kernel)) (by rw[isSubtype_type];kernel_rfl)
theorem Oz:entryFor table "set.__iter__"=some Builtin.«frozenset.__iter__» :=entryFor_alias (id':="frozenset.__iter__") (by kernel_rfl) rfl (by decide+kernel) (by kernel_rfl)
theorem Ry(a:Value):argsOk "set.__iter__" ⟨[a],[]⟩:=by unfold argsOk;kernel_rfl
theorem pR:Slot "set_iterator" "__iter__" "set_iterator.__iter__":= .of (owner:="set_iterator") (n:="__iter__") (by rw[typeLookup_type,builtinLookup_eq_fast];kernel_rfl) (by decide+kernel) (by decide+kernel) (by decide+kernel) (by first|exact .inl (by decide+kernel)|exact .inr (by decide+kernel)) (by rw[isSubtype_type];kernel_rfl)
theorem BX:entryFor table "set_iterator.__iter__"=some Builtin.«dict_keyiterator.__iter__» :=entryFor_alias (id':="dict_keyiterator.__iter__") (by kernel_rfl) rfl (by decide+kernel) (by kernel_rfl)
theorem Be(a:Value):argsOk "set_iterator.__iter__" ⟨[a],[]⟩:=by unfold argsOk;kernel_rfl
end L2
set_option maxRecDepth 100000
set_option maxHeartbeats 4000000
namespace L2
open PySem PySem.Spec PyProof.Rows
section
variable{prog:Program}{w:World}{A:Around}{E:Value->Shared->Prop}{s:Shared}{a it tp:Addr}{o:Obj}{es:Array (Int×Value)}{ep:Nat}{t:SetTable}
theorem xD{α:Type}:∀{l:List α} {i:Nat} (h:i<l.length),(l[i]::l.eraseIdx i).Perm l
  |b::r,0,_=>by simp
  | b :: r, i + 1, h => by
    have:=xD (l:=r) (i:=i) (by simpa using h)
    simp only[List.getElem_cons_succ,List.eraseIdx_cons_succ]
    exact(List.Perm.swap b _ _).trans (this.cons b)
theorem AB{α:Type}(nx:Nat->Nat):∀(f k:Nat) (l:List α) (out:Array α),l.length<=f->(pickOrder.go nx f k l out).toList.Perm (out.toList++l):=by
  intro f
  induction f with
  | zero =>
    intro k l out h
    have:l=[]:=oA.mp (by omega)
    subst this
    unfold pickOrder.go
    simp
  | succ f ih =>
    intro k l out h
    unfold pickOrder.go
    cases l with
    |nil=>simp
    | cons b r =>
      have hlt:nx k%(b::r).length<(b::r).length:=tZ _ (by simp)
      rw[aQ hlt]
      dsimp only
      refine(ih (k+1) _ _ (by rw[Eo hlt];omega)).trans ?_
      rw[Array.toList_push,jd]
      refine CQ _ ?_
      exact xD hlt
theorem Io(bt:fJ w=true)(g1:s.heap.get? a=some o)(g3:o.data= .set es ep t)(g4:t.fits es.size=true){i sl:Nat}{Q:Option (Value×Nat)->Shared->Prop}
  (h:Q (((pickOrder (w.params.setOrder a ep) es)[i]?).map fun e=>(e.2,sl)) s):wpAny (model prog w) A (setNext a sl i ep) Q E s:=by
 unfold setNext
 refine wpAny_bind (wpAny_setState_of g1 g3 g4 ?_)
 dsimp only
 unfold setsByText
 refine wpAny_bind (wpAny_bind (wpAny_askSetting (wpAny_pure ?_)))
 show wpAny _ _ (if fJ w=true then _ else _) _ _ _
 rw[if_pos bt]
 rw[if_neg (by simp)]
 refine wpAny_bind ?_
 unfold setWalk
 refine wpAny_bind (wpAny_setState_of g1 g3 g4 ?_)
 dsimp only
 unfold setsByText
 refine wpAny_bind (wpAny_bind (wpAny_askSetting (wpAny_pure ?_)))
 show wpAny _ _ (if fJ w=true then _ else _) _ _ _
 rw[if_pos bt]
 refine wpAny_bind (wpAny_askSetting (wpAny_pure ?_))
 exact wpAny_pure h
theorem DO(bt:fJ w=false)(g1:s.heap.get? a=some o)(g3:o.data= .set es ep t)(g4:t.fits es.size=true)(tk:eH (fJ w) t)(pl:t.plain=true\/es.size<=1){i sl:Nat}{Q:Option (Value×Nat)->Shared->Prop}
  (h:Q (match es[SetTable.below t.place sl]?,t.place[SetTable.below t.place sl]? with|some (_,x),some j=>some (x,j+1)|_,_=>none) s):wpAny (model prog w) A (setNext a sl i ep) Q E s:=by
 unfold setNext
 refine wpAny_bind (wpAny_setState_of g1 g3 g4 ?_)
 dsimp only
 unfold setsByText
 refine wpAny_bind (wpAny_bind (wpAny_askSetting (wpAny_pure ?_)))
 show wpAny _ _ (if fJ w=true then _ else _) _ _ _
 rw[bt,if_neg dh]
 show wpAny _ _ (if(!t.plain && decide (es.size>1))=true then _ else _) _ _ _
 rw[if_neg (by
  intro z
  rw[cP,Bool.not_eq_true',decide_eq_true_eq] at z
  rcases pl with p|p
  ·rw[p] at z;cases z.1
  ·omega)]
 refine wpAny_bind ?_
 show wpAny _ _ (if(!t.led && !es.isEmpty)=true then _ else _) _ _ _
 rw[if_neg (by rw[tk.led bt];simp)]
 refine wpAny_pure ?_
 exact wpAny_pure h
theorem Nd(g1:s.heap.get? a=some o)(g3:o.data= .set es ep t)(g4:t.fits es.size=true){pl:Nat}{hx:Int}{x:Value}{Q:Value->Shared->Prop}(e:es[pl]?=some (hx,x))(h:Q x s):wpAny (model prog w) A (setNextDrawn a pl ep) Q E s:=by
 unfold setNextDrawn
 refine wpAny_bind (wpAny_setState_of g1 g3 g4 ?_)
 dsimp only
 rw[if_neg (by simp)]
 rw[e]
 exact wpAny_pure h
def jA(h:Heap)(it a:Addr)(first:Value)(i n ep:Nat):Prop:=∃o,h.get? it=some o/\o.cls= .type "set_iterator" /\o.data= .fields #[first, .int i 0, .ref a, .int n 0, .int ep 0]
theorem jA.ty{first:Value}{i n:Nat}(h:jA s.heap it a first i n ep):s.TypeIs (.ref it) "set_iterator":=let ⟨o,e,c,_⟩:=h;⟨o,e,c⟩
theorem ud{first:Value}{i n:Nat}{QQ:Fin->Shared->Prop}{EE:Value->Shared->Prop}(hit:jA s.heap it a first i n ep)(g1:s.heap.get? a=some o)(g3:o.data= .set es ep t)(g4:t.fits es.size=true)(hn:es.size=n)
    (h:wpAny (model prog w) A (match first with
      | .int slot _ => (do
        match<-setNext a slot.toNat i ep with
        | some (x, next) => do
          setField (.ref it) 0 (rawInt next)
          setField (.ref it) 1 (rawInt ((i:Int)+1))
          ret x
        | none => do
          setField (.ref it) 2 .none
          raiseNew (<-newExc (.type "StopIteration") []))
      | _ => (do
        let some places<-seqItems? first|unsupported "internal:set_iterator"
        match places[i]? with
        | some (.int place _) => do
          let x<-setNextDrawn a place.toNat ep
          setField (.ref it) 1 (rawInt ((i:Int)+1))
          ret x
        |some _=>unsupported "internal:set_iterator"
        | none => do
          setField (.ref it) 0 (rawInt 0)
          setField (.ref it) 2 .none
          raiseNew (<-newExc (.type "StopIteration") []))) QQ EE s):wpAny (model prog w) A (Builtin.«set_iterator.__next__» ⟨[.ref it],[]⟩) QQ EE s:=by
  obtain⟨oi,ho,hc,hd⟩:=hit
  unfold Builtin.«set_iterator.__next__»
  refine wpAny_bind (wpAny_pure ?_)
  refine wpAny_bind (wpAny_fieldsOf ho hd ?_)
  dsimp only
  refine wpAny_bind (wpAny_setEntries_of g1 g3 g4 ?_)
  rw[if_neg (by rw[hn];simp)]
  cases first<;>exact h
theorem uP{h:Heap}{first:Value}{i n k:Nat}{x:Value}{oi:Obj}{vs:Array Value}(ho:h.get? it=some oi)(hc:oi.cls= .type "set_iterator")(hd:oi.data= .fields vs):
  (h.update it (Obj.mapFields (·.setIfInBounds k x))).get? it=some (Obj.mapFields (·.setIfInBounds k x) oi)/\(Obj.mapFields (·.setIfInBounds k x) oi).cls= .type "set_iterator" /\(Obj.mapFields (·.setIfInBounds k x) oi).data= .fields (vs.setIfInBounds k x):=by
 refine⟨tU _ ho (Obj.isFreed_of_fields (Obj.data_mapFields hd _)),(Obj.cls_mapFields ..).trans hc,Obj.data_mapFields hd _⟩
theorem DI{sl i n nx:Nat}{x:Value}{Q:Option Value->Shared->Prop}(hit:jA s.heap it a (.int sl 0) i n ep)(g1:s.heap.get? a=some o)(g3:o.data= .set es ep t)(g4:t.fits es.size=true)(hn:es.size=n)
  (hN:∀(Q:Option (Value×Nat)->Shared->Prop) (E:Value->Shared->Prop),Q (some (x,nx)) s->wpAny (model prog w) A.in1 (setNext a sl i ep) Q E s)
  (hQ:∀h',jA h' it a (.int nx 0) (i+1) n ep->(∀b,b≠it->h'.get? b=s.heap.get? b)->Q (some x) {s with heap:=h'}):wpAny (model prog w) A (pyNext (.ref it)) Q E s:=by
 obtain⟨oi,ho,hc,hd⟩:=id hit
 unfold pyNext
 refine wpAny_bind (wpAny_attempt (wpAny_callSpecial?_slot (name:=Str.ofString "__next__") hit.ty ja (wpAny_call_entry ja hit.ty sA ?_ (tK _))))
 refine ud hit g1 g3 g4 hn ?_
 dsimp only
 refine wpAny_bind (hN _ _ ?_)
 dsimp only
 obtain⟨u1,u2,u3⟩:=uP (first:= .none) (i:=0) (n:=0) (k:=0) (x:=rawInt nx) ho hc hd
 obtain⟨w1,w2,w3⟩:=uP (first:= .none) (i:=0) (n:=0) (k:=1) (x:=rawInt ((i:Int)+1)) u1 u2 u3
 refine wpAny_bind (wpAny_setField ho hd (by simp) ?_)
 refine wpAny_bind (wpAny_setField u1 u3 (by simp) ?_)
 refine wpAny_pure ⟨x,rfl,wpAny_pure (hQ _ ⟨_,w1,w2,?_⟩ fun b hb=>?_)⟩
 ·rw[w3];simp[rawInt]
 ·exact((j7 _ _ (bM hb))).trans (j7 _ _ (bM hb))
theorem EO{QQ:Fin->Shared->Prop}{B:Around}{Q:Option Value->Shared->Prop}(hh:B.handled=none)(hQ:∀o1 o2,Q none {s with heap:=(s.heap.push o1).push o2}):wpAny (model prog w) B (do raiseNew (<-newExc (.type "StopIteration") [])) QQ
  (fun e s'=>wpAny (model prog w) A (do if<-isInstance e (.type "StopIteration") then pure none else throw e) Q E s') s:=by
 refine wpAny_bind ?_
 simp only[newExc,newTuple]
 refine wpAny_bind (wpAny_newObj_type ?_ (by size_fits))
 refine wpAny_bind (m:=firstArgMember _ _) (wpAny_of_eq (a:=Value.none) (by first|rfl|(simp only[firstArgMember];rfl)) (wpAny_newObj_type ?_ (by size_fits)))
 simp only[raiseNew]
 refine wpAny_bind (wpAny_handled ?_)
 rw[hh]
 refine wpAny_bind (wpAny_pure (wpAny_throw ?_))
 refine wpAny_bind (wpAny_isInstance (b:=true) (T:="StopIteration") ⟨_,fN _ rfl,rfl⟩ isSubtype_stop ?_)
 exact wpAny_pure (hQ _ _)
theorem Gf{sl i n:Nat}{Q:Option Value->Shared->Prop}(hh:A.handled=none)(hit:jA s.heap it a (.int sl 0) i n ep)(g1:s.heap.get? a=some o)(g3:o.data= .set es ep t)(g4:t.fits es.size=true)(hn:es.size=n)
  (hN:∀(Q:Option (Value×Nat)->Shared->Prop) (E:Value->Shared->Prop),Q none s->wpAny (model prog w) A.in1 (setNext a sl i ep) Q E s)
  (hQ:∀h',(∀b o,b≠it->s.heap.get? b=some o->h'.get? b=some o)->Q none {s with heap:=h'}):wpAny (model prog w) A (pyNext (.ref it)) Q E s:=by
 obtain⟨oi,ho,hc,hd⟩:=id hit
 unfold pyNext
 refine wpAny_bind (wpAny_attempt (wpAny_callSpecial?_slot (name:=Str.ofString "__next__") hit.ty ja (wpAny_call_entry ja hit.ty sA ?_ (tK _))))
 refine ud hit g1 g3 g4 hn ?_
 dsimp only
 refine wpAny_bind (hN _ _ ?_)
 dsimp only
 refine wpAny_bind (wpAny_setField ho hd (by simp) ?_)
 exact EO (B:=A.in1) hh fun o1 o2=>hQ _ fun b o hb e=>bV _ (bV _ ((j7 _ _ (bM hb)).trans e))
theorem Tz{i n pl:Nat}{hx:Int}{x:Value}{c6:Array Value}{Q:Option Value->Shared->Prop}(hit:jA s.heap it a (.ref tp) i n ep)(g1:s.heap.get? a=some o)(g3:o.data= .set es ep t)(g4:t.fits es.size=true)(hn:es.size=n)
  (htp:∃ot m,s.heap.get? tp=some ot/\ot.data= .seq c6 m) (hp:c6[i]?=some (.int pl 0)) (he:es[pl]?=some (hx,x))
  (hQ:∀h',jA h' it a (.ref tp) (i+1) n ep->(∀b,b≠it->h'.get? b=s.heap.get? b)->Q (some x) {s with heap:=h'}):wpAny (model prog w) A (pyNext (.ref it)) Q E s:=by
 obtain⟨oi,ho,hc,hd⟩:=id hit
 obtain⟨ot,m,t1,t2⟩:=htp
 unfold pyNext
 refine wpAny_bind (wpAny_attempt (wpAny_callSpecial?_slot (name:=Str.ofString "__next__") hit.ty ja (wpAny_call_entry ja hit.ty sA ?_ (tK _))))
 refine ud hit g1 g3 g4 hn ?_
 dsimp only
 refine wpAny_bind (wpAny_seqItems t1 t2 ?_)
 dsimp only
 rw[hp]
 dsimp only
 refine wpAny_bind (Nd g1 g3 g4 (by simpa using he) ?_)
 obtain⟨w1,w2,w3⟩:=uP (first:= .none) (i:=0) (n:=0) (k:=1) (x:=rawInt ((i:Int)+1)) ho hc hd
 refine wpAny_bind (wpAny_setField ho hd (by simp) (wpAny_pure ⟨x,rfl,wpAny_pure (hQ _ ⟨_,w1,w2,?_⟩ fun b hb=>j7 _ _ (bM hb))⟩))
 rw[w3];simp[rawInt]
theorem Si{i n:Nat}{c6:Array Value}{Q:Option Value->Shared->Prop}(hh:A.handled=none)(hit:jA s.heap it a (.ref tp) i n ep)(g1:s.heap.get? a=some o)(g3:o.data= .set es ep t)(g4:t.fits es.size=true)(hn:es.size=n)
  (htp:∃ot m,s.heap.get? tp=some ot/\ot.data= .seq c6 m) (hp:c6[i]?=none)
  (hQ:∀h',(∀b o,b≠it->s.heap.get? b=some o->h'.get? b=some o)->Q none {s with heap:=h'}):wpAny (model prog w) A (pyNext (.ref it)) Q E s:=by
 obtain⟨oi,ho,hc,hd⟩:=id hit
 obtain⟨ot,m,t1,t2⟩:=htp
 unfold pyNext
 refine wpAny_bind (wpAny_attempt (wpAny_callSpecial?_slot (name:=Str.ofString "__next__") hit.ty ja (wpAny_call_entry ja hit.ty sA ?_ (tK _))))
 refine ud hit g1 g3 g4 hn ?_
 dsimp only
 refine wpAny_bind (wpAny_seqItems t1 t2 ?_)
 dsimp only
 rw[hp]
 dsimp only
 obtain⟨u1,u2,u3⟩:=uP (first:= .none) (i:=0) (n:=0) (k:=0) (x:=rawInt 0) ho hc hd
 refine wpAny_bind (wpAny_setField ho hd (by simp) (wpAny_bind (wpAny_setField u1 u3 (by simp) ?_)))
 exact EO (B:=A.in1) hh fun o1 o2=>hQ _ fun b o hb e=>bV _ (bV _ ((j7 _ _ (bM hb)).trans ((j7 _ _ (bM hb)).trans e)))
end
end L2
set_option maxRecDepth 100000
set_option maxHeartbeats 4000000
namespace L2
open PySem PySem.Spec PyProof.Rows
def slotAt(xs:Array Nat):Nat->Nat
 |0=>0
 |i+1=>xs.getD i 0+1
theorem Np(xs:Array Nat):slotAt xs 0=0:=rfl
theorem Gy(xs:Array Nat)(i:Nat):slotAt xs (i+1)=xs.getD i 0+1:=rfl
theorem Iv{xs:Array Nat}(hr:jE xs){i:Nat}(hi:i<=xs.size):SetTable.below xs (slotAt xs i)=i:=by
  obtain⟨h1,h2,h3⟩:=below_at (q:=slotAt xs i) hr
  have g:∀{j:Nat},j<xs.size->∃y,xs[j]?=some y/\xs.getD j 0=y:=fun{j} hj=>⟨xs[j],kq hj,by rw[xC,kq hj];rfl⟩
  rcases xG (SetTable.below xs (slotAt xs i)) i with z|z|z
  · obtain⟨y,e,_⟩:=g (eE z hi)
    have:=h3 _ y (aI _) e
    cases i with
    |zero=>omega
    | succ i =>
      obtain⟨y',e',d'⟩:=g (j:=i) (by omega)
      have es:=Gy xs i
      rw[d'] at es
      rcases yX (Nat.le_of_lt_succ z) with z|z
      · have:=hr _ _ _ _ z e e';omega
      · rw[z,e'] at e;cases e;omega
  · exact z
  · obtain⟨y,e,d⟩:=g (j:=i) (by omega)
    have:=h2 i y z e
    cases i with
    |zero=>rw[Np] at this;omega
    | succ i =>
      obtain⟨y',e',d'⟩:=g (j:=i) (by omega)
      rw[Gy,d'] at this
      have:=hr i (i+1) _ _ (by omega) e' e
      omega
section
variable{prog:Program}{w:World}{a I tp:Addr}{o:Obj}{es:Array (Int×Value)}{ep:Nat}{t:SetTable}
theorem FF(h:t.fits es.size=true):t.place.size=es.size:=by
 unfold SetTable.fits at h
 rw[cP] at h
 exact eq_of_beq h.1
theorem RC{A:Around}(hh:A.handled=none)(bt:fJ w=true)(g3:o.data= .set es ep t)(g4:t.fits es.size=true)(hne:a≠I):
  Walks prog w A I [I,a] [I] es.size (fun i v=>((pickOrder (w.params.setOrder a ep) es).toList.map (·.2))[i]?=some v) (fun i h=>jA h I a (.int (0:Nat) 0) i es.size ep/\h.get? a=some o) where
 sub:=fun b hb=>by simp at hb;simp[hb]
 frame:=fun i h h' st hk=>by
  obtain⟨⟨oi,h1,h2,h3⟩,h4⟩:=st
  exact⟨⟨oi,hk I (by simp) _ h1,h2,h3⟩,hk a (by simp) _ h4⟩
 item:=fun i s Q E hi st hQ=>by
  have hsz:(pickOrder (w.params.setOrder a ep) es).toList.length=es.size:=by
   have:=(AB (w.params.setOrder a ep) es.size 0 es.toList #[] (by simp)).length_eq
   simpa[pickOrder] using this
  have hlt:i<(pickOrder (w.params.setOrder a ep) es).toList.length:=by omega
  have e1:(pickOrder (w.params.setOrder a ep) es)[i]?=some (pickOrder (w.params.setOrder a ep) es).toList[i]:=by rw[<-nX];exact aQ hlt
  refine DI st.1 st.2 g3 g4 rfl (x:=(pickOrder (w.params.setOrder a ep) es).toList[i].2) (nx:=0) (fun Q E q=>Io bt st.2 g3 g4 (by rw[e1];exact q)) fun h' x1 x2=>?_
  refine hQ _ h' s.toks (by rw[aX,aQ hlt];rfl) ⟨x1,(x2 a hne).trans st.2⟩ fun b o' hb e=>(x2 b (fun z=>hb (by simp[z]))).trans e
 done:=fun s Q E st hQ=>by
  have hsz:(pickOrder (w.params.setOrder a ep) es).toList.length=es.size:=by
   have:=(AB (w.params.setOrder a ep) es.size 0 es.toList #[] (by simp)).length_eq
   simpa[pickOrder] using this
  refine Gf hh st.1 st.2 g3 g4 rfl (fun Q E q=>Io bt st.2 g3 g4 (by rw[<-nX,gC (by omega)];exact q)) fun h' x1=>hQ h' s.toks fun b o' hb e=>x1 b o' (fun z=>hb (by simp[z])) e
 self:=fun i s Q E st hQ=>by
  refine wpAny_pyIter_slot st.1.ty pR (wpAny_call_entry pR st.1.ty BX ?_ (Be _))
  exact wpAny_pure ⟨_,rfl,"set_iterator",_,st.1.ty,ja.lookup,hQ⟩
theorem LY{A:Around}(hh:A.handled=none)(bt:fJ w=false)(g3:o.data= .set es ep t)(g4:t.fits es.size=true)(tk:eH (fJ w) t)(pl:t.plain=true\/es.size<=1)(hne:a≠I):
  Walks prog w A I [I,a] [I] es.size (fun i v=>(es.toList.map (·.2))[i]?=some v) (fun i h=>jA h I a (.int (slotAt t.place i) 0) i es.size ep/\h.get? a=some o) where
 sub:=fun b hb=>by simp at hb;simp[hb]
 frame:=fun i h h' st hk=>by
  obtain⟨⟨oi,h1,h2,h3⟩,h4⟩:=st
  exact⟨⟨oi,hk I (by simp) _ h1,h2,h3⟩,hk a (by simp) _ h4⟩
 item:=fun i s Q E hi st hQ=>by
  have hps:=FF g4
  have hr:jE t.place:=by
   rcases pl with p|p
   ·exact tk.yS p
   ·intro i j x y hij ex ey
    have:=(rm.mp ey).1;omega
  have hlt:i<es.toList.length:=by simpa using hi
  have e1:es[i]?=some es.toList[i]:=by rw[<-nX];exact aQ hlt
  have e2:t.place[i]?=some (t.place.getD i 0):=by rw[xC,kq (by omega)];rfl
  refine DI st.1 st.2 g3 g4 rfl (x:=es.toList[i].2) (nx:=slotAt t.place (i+1)) (fun Q E q=>DO bt st.2 g3 g4 tk pl (by rw[Iv hr (by omega),e1,e2];exact q)) fun h' x1 x2=>?_
  refine hQ _ h' s.toks (by rw[aX,aQ hlt];rfl) ⟨x1,(x2 a hne).trans st.2⟩ fun b o' hb e=>(x2 b (fun z=>hb (by simp[z]))).trans e
 done:=fun s Q E st hQ=>by
  have hps:=FF g4
  have hr:jE t.place:=by
   rcases pl with p|p
   ·exact tk.yS p
   ·intro i j x y hij ex ey
    have:=(rm.mp ey).1;omega
  refine Gf hh st.1 st.2 g3 g4 rfl (fun Q E q=>DO bt st.2 g3 g4 tk pl (by rw[Iv hr (by omega),wI (aI _)];exact q)) fun h' x1=>hQ h' s.toks fun b o' hb e=>x1 b o' (fun z=>hb (by simp[z])) e
 self:=fun i s Q E st hQ=>by
  refine wpAny_pyIter_slot st.1.ty pR (wpAny_call_entry pR st.1.ty BX ?_ (Be _))
  exact wpAny_pure ⟨_,rfl,"set_iterator",_,st.1.ty,ja.lookup,hQ⟩
theorem KJ{A:Around}{ks:List Nat}(hh:A.handled=none)(g3:o.data= .set es ep t)(g4:t.fits es.size=true)(hk:ks.Perm (List.range es.size))(hne:a≠I)(hnt:tp≠I):
    Walks prog w A I [I,a,tp] [I] es.size (fun i v=>((ks.filterMap (es[·]?)).map (·.2))[i]?=some v) (fun i h=>jA h I a (.ref tp) i es.size ep/\h.get? a=some o/\∃ot m,h.get? tp=some ot/\ot.data= .seq (ks.map fun(k:Nat)=>rawInt k).toArray m) where
  sub:=fun b hb=>by simp at hb;simp[hb]
  frame:=fun i h h' st hk=>by
    obtain⟨⟨oi,h1,h2,h3⟩,h4,ot,m,h5,h6⟩:=st
    exact⟨⟨oi,hk I (by simp) _ h1,h2,h3⟩,hk a (by simp) _ h4,ot,m,hk tp (by simp) _ h5,h6⟩
  item:=fun i s Q E hi st hQ=>by
    have hlen:ks.length=es.size:=by rw[hk.length_eq];simp
    have hin:∀k∈ks,k<es.size:=fun k m=>by simpa using hk.mem_iff.mp m
    have hi':i<ks.length:=by omega
    have hki:=hin ks[i] (ie hi')
    have e1:es[ks[i]]?=some es[ks[i]]:=kq hki
    have fm:∀(l:List Nat),(∀k∈l,k<es.size)->∀j (hj:j<l.length),(l.filterMap (es[·]?))[j]?=es[l[j]]?:=by
      intro l
      induction l with
      |nil=>intro _ j hj;simp at hj
      | cons b r ih =>
        intro hl j hj
        have hb:=hl b (bA ..)
        rw[o6,kq hb]
        cases j with
        |zero=>simp[kq hb]
        |succ j=>simpa using ih (fun k m=>hl k (cK _ m)) j (by simpa using hj)
    refine Tz st.1 st.2.1 g3 g4 rfl st.2.2 (pl:=ks[i]) (hx:=es[ks[i]].1) (x:=es[ks[i]].2) (by simp[aQ hi',rawInt]) e1 fun h' x1 x2=>?_
    obtain⟨ot,m,t1,t2⟩:=st.2.2
    refine hQ _ h' s.toks ?_ ⟨x1,(x2 a hne).trans st.2.1,ot,m,(x2 tp hnt).trans t1,t2⟩ fun b o' hb e=>(x2 b (fun z=>hb (by simp[z]))).trans e
    rw[aX,fm ks hin i hi',e1];rfl
  done:=fun s Q E st hQ=>by
    have hlen:ks.length=es.size:=by rw[hk.length_eq];simp
    exact Si hh st.1 st.2.1 g3 g4 rfl st.2.2 (by simp;omega) fun h' x1=>hQ h' s.toks fun b o' hb e=>x1 b o' (fun z=>hb (by simp[z])) e
  self:=fun i s Q E st hQ=>by
    refine wpAny_pyIter_slot st.1.ty pR (wpAny_call_entry pR st.1.ty BX ?_ (Be _))
    exact wpAny_pure ⟨_,rfl,"set_iterator",_,st.1.ty,ja.lookup,hQ⟩
end
section
variable{prog:Program}{w:World}{A:Around}{E:Value->Shared->Prop}{s:Shared}{a:Addr}{o:Obj}{es:Array (Int×Value)}{ep:Nat}{t:SetTable}
theorem Ip{α:Type}:∀l:List α,(List.range l.length).filterMap (fun i=>l[i]?)=l
  |[]=>rfl
  | x :: l => by
    have:=Ip l
    rw[fM,wo,o6,List.filterMap_map]
    simpa[Function.comp_def] using this
theorem Sj{src:Source}{n:Nat}{Q:Nat->Shared->Prop}(hn:n≠0)(h:∀i d',i<n->Q i {s with drawn:=d'}):wpAny (model prog w) A (choose src n) Q E s:=fun Γ p _=>⟨hn,h _ _ (tZ _ (Nat.pos_of_ne_zero hn))⟩
theorem IU{α:Type}:∀(n:Nat) (xs:List α) (s:Shared) (Q:List α->Shared->Prop),xs.length<=n->(∀ks d',ks.Perm xs->Q ks {s with drawn:=d'})->wpAny (model prog w) A (drawOrder n xs) Q E s
  | 0, xs, s, Q, hl, h => by
    have:xs=[]:=oA.mp (by omega)
    subst this
    unfold drawOrder
    exact wpAny_pure (h [] s.drawn .nil)
  | n + 1, [], s, Q, hl, h => by
    unfold drawOrder
    exact wpAny_pure (h [] s.drawn .nil)
  | n + 1, x :: xs, s, Q, hl, h => by
    unfold drawOrder
    refine wpAny_bind (Sj (by simp) fun i d' hi=>?_)
    rw[aQ hi]
    dsimp only
    refine wpAny_bind (IU n _ _ _ (by rw[Eo hi];simp at hl⊢;omega) fun ks d2 hk=>?_)
    exact wpAny_pure (h _ d2 ((hk.cons _).trans (xD hi)))
theorem T4(g1:s.heap.get? a=some o)(g3:o.data= .set es ep t)(g4:t.fits es.size=true){Q:Bool->Shared->Prop}(h:Q (!fJ w &&(!t.plain && decide (es.size>1))) s):wpAny (model prog w) A (setDrawn a) Q E s:=by
 unfold setDrawn
 refine wpAny_bind (wpAny_setState_of g1 g3 g4 ?_)
 dsimp only
 unfold setsByText
 refine wpAny_bind (wpAny_bind (wpAny_askSetting (wpAny_pure ?_)))
 exact wpAny_pure h
theorem GB(g1:s.heap.get? a=some o)(g3:o.data= .set es ep t)(g4:t.fits es.size=true){Q:Nat->Shared->Prop}(h:Q ep s):wpAny (model prog w) A (setEpoch a) Q E s:=by
 unfold setEpoch
 exact wpAny_bind (wpAny_setState_of g1 g3 g4 (wpAny_pure h))
theorem SV{Q:Value->Shared->Prop}(hb:es.size<scanBound)(g1:s.heap.get? a=some o)(g2:o.ExactSet)(g3:o.data= .set es ep t)(g4:t.fits es.size=true)(tk:eH (fJ w) t)
    (hQ:∀(I:Addr) (h':Heap) d' (items:List Value) (fp:List Addr) (St:Nat->Heap->Prop),(∀b o,s.heap.get? b=some o->h'.get? b=some o)->s.heap.objs.size<=I->(∀b∈fp,b=a\/s.heap.objs.size<=b)->I∈fp->(∀b∈fp,b<h'.objs.size)->items.Perm (es.toList.map (·.2))->
      (∀B:Around,B.handled=none->Walks prog w B I fp [I] items.length (fun i v=>items[i]?=some v) St)->St 0 h'->Q (.ref I) {s with heap:=h',drawn:=d'}):wpAny (model prog w) A (pyIter (.ref a)) Q E s:=by
  have hT:s.TypeIs (.ref a) "set":=⟨o,g1,g2.1⟩
  have hlt:=bC g1
  refine wpAny_pyIter_slot hT Jh (wpAny_call_entry Jh hT Oz ?_ (Ry _))
  unfold Builtin.«frozenset.__iter__»
  unfold Builtin.Frozenset.slot0 slotArgs
  simp only[List.isEmpty_nil,Bool.not_true,zC,↓reduceIte,bind_assoc,List.length_nil,bne_self_eq_false]
  unfold Builtin.Frozenset.addrOf Builtin.Frozenset.sizeOf
  refine wpAny_bind (wpAny_pure ?_)
  try dsimp only
  refine wpAny_bind (wpAny_pure ?_)
  refine wpAny_bind (wpAny_bind (wpAny_setEntries_of g1 g3 g4 (wpAny_pure ?_)))
  refine wpAny_bind (T4 g1 g3 g4 ?_)
  by_cases c:(!fJ w &&(!t.plain && decide (es.size>1)))=true
  · rw[if_pos c]
    refine wpAny_bind (IU es.size (List.range es.size) s _ (by simp) fun ks d' hk=>?_)
    unfold newTuple
    refine wpAny_bind (wpAny_newObj_type ?_ ?_)
    rotate_left
    · have hk0:ks.length=es.size:=by rw[hk.length_eq];simp
      show(List.map (fun(i:Nat)=>rawInt i) ks).toArray.size<=sizeLine
      rw[dO,ak,hk0]
      exact fits_of_scanBound hb
    have o4:=bV ({cls:= .type "tuple",data:= .seq (ks.map fun(i:Nat)=>rawInt i).toArray}:Obj) g1
    refine wpAny_bind (GB (s:={s with heap:=_,drawn:=d'}) o4 g3 g4 ?_)
    unfold newFields
    refine wpAny_bind (wpAny_newObj_type ?_)
    have hk0:ks.length=es.size:=by rw[hk.length_eq];simp
    have fin:=hQ
    clear hQ
    have kL:(s.heap.push ({cls:= .type "tuple",data:= .seq (ks.map fun(i:Nat)=>rawInt i).toArray}:Obj)).objs.size=s.heap.objs.size+1:=mz ..
    have gT:(s.heap.push ({cls:= .type "tuple",data:= .seq (ks.map fun(i:Nat)=>rawInt i).toArray}:Obj)).get? s.heap.objs.size=some {cls:= .type "tuple",data:= .seq (ks.map fun(i:Nat)=>rawInt i).toArray}:=fN _ rfl
    have gO:∀b o,s.heap.get? b=some o->(s.heap.push ({cls:= .type "tuple",data:= .seq (ks.map fun(i:Nat)=>rawInt i).toArray}:Obj)).get? b=some o:=fun b o e=>bV _ e
    generalize Qz:s.heap.push ({cls:= .type "tuple",data:= .seq (ks.map fun(i:Nat)=>rawInt i).toArray}:Obj)=h1 at o4 kL gT gO⊢
    have gI:(h1.push ({cls:= .type "set_iterator",data:= .fields #[.ref s.heap.objs.size,rawInt 0, .ref a,rawInt es.size,rawInt ep]}:Obj)).get? h1.objs.size=some {cls:= .type "set_iterator",data:= .fields #[.ref s.heap.objs.size,rawInt 0, .ref a,rawInt es.size,rawInt ep]}:=fN _ rfl
    have gS:=bV ({cls:= .type "set_iterator",data:= .fields #[.ref s.heap.objs.size,rawInt 0, .ref a,rawInt es.size,rawInt ep]}:Obj) o4
    have Ow:=bV ({cls:= .type "set_iterator",data:= .fields #[.ref s.heap.objs.size,rawInt 0, .ref a,rawInt es.size,rawInt ep]}:Obj) gT
    have MN:(h1.push ({cls:= .type "set_iterator",data:= .fields #[.ref s.heap.objs.size,rawInt 0, .ref a,rawInt es.size,rawInt ep]}:Obj)).objs.size=h1.objs.size+1:=mz ..
    subst Qz
    refine wpAny_pure ⟨_,rfl,"set_iterator",_,⟨_,gI,rfl⟩,ja.lookup,?_⟩
    have pp:(ks.filterMap (es[·]?)).Perm es.toList:=by
      have:=hk.filterMap (es[·]?)
      have e:(List.range es.size).filterMap (es[·]?)=es.toList:=by
        have:=Ip es.toList
        simpa using this
      rwa[e] at this
    have hn:((ks.filterMap (es[·]?)).map (·.2)).length=es.size:=by rw[ak,pp.length_eq];simp
    have o7:=wu (r6 s.heap.objs.size) kL.symm
    refine fin _ _ d' ((ks.filterMap (es[·]?)).map (·.2)) [_,a,s.heap.objs.size] _ (fun b o e=>bV _ (gO b o e)) (jk o7) (fun b m=>?_) (bA ..) (fun b m=>?_) (pp.map _) (fun B hB=>by rw[hn];exact KJ hB g3 g4 hk (cV (mD hlt o7)) (cV o7)) ?_
    · rcases aK.mp m with e|m
      · exact .inr (by rw[e];exact jk o7)
      · rcases aK.mp m with e|m
        · exact .inl e
        · exact .inr (uG (cg.mp m).symm)
    · refine wu ?_ MN.symm
      rcases aK.mp m with e|m
      · rw[e];exact r6 _
      · rcases aK.mp m with e|m
        · rw[e];exact nP (mD hlt o7)
        · rw[cg.mp m];exact nP o7
    · exact⟨⟨_,gI,rfl,rfl⟩,gS,_,_,Ow,rfl⟩
  · rw[if_neg c]
    refine wpAny_bind (wpAny_pure ?_)
    refine wpAny_bind (GB g1 g3 g4 ?_)
    unfold newFields
    refine wpAny_bind (wpAny_newObj_type ?_)
    have gI:(s.heap.push ({cls:= .type "set_iterator",data:= .fields #[rawInt 0,rawInt 0, .ref a,rawInt es.size,rawInt ep]}:Obj)).get? s.heap.objs.size=some {cls:= .type "set_iterator",data:= .fields #[rawInt 0,rawInt 0, .ref a,rawInt es.size,rawInt ep]}:=fN _ rfl
    have gS:=bV ({cls:= .type "set_iterator",data:= .fields #[rawInt 0,rawInt 0, .ref a,rawInt es.size,rawInt ep]}:Obj) g1
    have hfp:∀b∈[s.heap.objs.size,a],b=a\/s.heap.objs.size<=b:=fun b m=>by
      rcases aK.mp m with e|m
      · exact .inr (uG e.symm)
      · exact .inl (cg.mp m)
    have hsz:(s.heap.push ({cls:= .type "set_iterator",data:= .fields #[rawInt 0,rawInt 0, .ref a,rawInt es.size,rawInt ep]}:Obj)).objs.size=s.heap.objs.size+1:=mz ..
    have G6:∀b∈[s.heap.objs.size,a],b<(s.heap.push ({cls:= .type "set_iterator",data:= .fields #[rawInt 0,rawInt 0, .ref a,rawInt es.size,rawInt ep]}:Obj)).objs.size:=fun b m=>by
      rw[hsz]
      rcases aK.mp m with e|m
      · rw[e];exact r6 _
      · rw[cg.mp m];exact nP hlt
    refine wpAny_pure ⟨_,rfl,"set_iterator",_,⟨_,gI,rfl⟩,ja.lookup,?_⟩
    cases bt:fJ w with
    | true =>
      have pp:(pickOrder (w.params.setOrder a ep) es).toList.Perm es.toList:=by simpa[pickOrder] using AB (w.params.setOrder a ep) es.size 0 es.toList #[] (by simp)
      have hn:((pickOrder (w.params.setOrder a ep) es).toList.map (·.2)).length=es.size:=by rw[ak,pp.length_eq];simp
      refine hQ _ _ s.drawn ((pickOrder (w.params.setOrder a ep) es).toList.map (·.2)) [s.heap.objs.size,a] _ (fun b o e=>bV _ e) (aI _) hfp (by simp) G6 (pp.map _) (fun B hB=>by rw[hn];exact RC hB bt g3 g4 (cV hlt)) ?_
      exact⟨⟨_,gI,rfl,rfl⟩,gS⟩
    | false =>
      have pl:t.plain=true\/es.size<=1:=by
        rw[bt,Bool.not_false,qZ] at c
        cases hp:t.plain with
        |true=>exact .inl rfl
        | false =>
          rw[hp,Bool.not_false,qZ,decide_eq_true_eq] at c
          exact .inr (by omega)
      have hn:(es.toList.map (·.2)).length=es.size:=by simp
      refine hQ _ _ s.drawn (es.toList.map (·.2)) [s.heap.objs.size,a] _ (fun b o e=>bV _ e) (aI _) hfp (by simp) G6 (.refl _) (fun B hB=>by rw[hn];exact LY hB bt g3 g4 tk pl (cV hlt)) ?_
      exact⟨⟨_,gI,rfl,rfl⟩,gS⟩
end
end L2
set_option maxRecDepth 100000
set_option maxHeartbeats 4000000
namespace L2
open PySem PySem.Spec PyProof.Rows
section
variable{prog:Program}{w:World}{A:Around}{E:Value->Shared->Prop}{s:Shared}{a:Addr}{o:Obj}{es:Array (Int×Value)}{ep:Nat}{t:SetTable}
theorem K1{Q:Bool->Shared->Prop}(hT:s.TypeIs (.ref a) "set")(h:Q false s):wpAny (model prog w) A (Builtin.List.listLengthHint (.ref a)) Q E s:=by
 unfold Builtin.List.listLengthHint
 refine wpAny_bind (wpAny_specialOf hT PySem.F.slot_set_len.lookup ?_)
 generalize hid:("set.__len__":String)=id0
 wp_delta
 rw[show splitId id0=some ("set","__len__") from by subst hid;decide+kernel]
 subst hid
 refine wpAny_bind (wpAny_isInstance (b:=true) (T:="set") hT (by rw[isSubtype_type];kernel_rfl) ?_)
 refine wpAny_ite_split (fun z=>absurd z (by decide)) fun _=>wpAny_ite_split (fun _=>?_) fun z=>absurd (by decide+kernel) z
 exact wpAny_bind (wpAny_typeOf hT (wpAny_pure h))
theorem RK{items:List Value}{acc:Array Value}(h:ItemsOf (fun i v=>items[i]?=some v) acc items.length):acc.toList=items:=by
 apply iw
 intro i
 by_cases hi:i<acc.size
 ·have e:acc[i]?=some acc[i]:=kq hi
  rw[nX,e,h.2 i _ e]
 ·have:=h.1
  rw[gC (by simp;omega),gC (by omega)]
theorem Lv{Q:List Value->Shared->Prop}(hh:A.handled=none)(hb:es.size<scanBound)(g1:s.heap.get? a=some o)(g2:o.ExactSet)(g3:o.data= .set es ep t)(g4:t.fits es.size=true)(tk:eH (fJ w) t)
  (hQ:∀h' d' tk' items,(∀b o,s.heap.get? b=some o->h'.get? b=some o)->s.heap.objs.size<=h'.objs.size->items.Perm (es.toList.map (·.2))->Q items {s with heap:=h',drawn:=d',toks:=tk'}):wpAny (model prog w) A (collect (.ref a)) Q E s:=by
 have hlt:=bC g1
 unfold collect
 refine wpAny_bind (wpAny_runValue (codeAny_builtin HQ ?_))
 rw[lu IZ _]
 show wpAny _ A.in1 (newList []>>=fun l=>again (.builtin "list.__iadd__" ⟨[l, .ref a],[]⟩)) _ _ s
 refine wpAny_bind (wpAny_newObj_type ?_)
 refine wpAny_pure ⟨plainId_quiet uf _,codeAny_builtin Dv ?_⟩
 rw[lu uf _]
 have gL:(s.heap.push ({cls:= .type "list",data:= .seq ([]:List Value).toArray}:Obj)).get? s.heap.objs.size=some {cls:= .type "list",data:= .seq ([]:List Value).toArray}:=fN _ rfl
 have gA:=bV ({cls:= .type "list",data:= .seq ([]:List Value).toArray}:Obj) g1
 have Jv:(s.heap.push ({cls:= .type "list",data:= .seq ([]:List Value).toArray}:Obj)).objs.size=s.heap.objs.size+1:=mz ..
 show wpAny _ A.in1 (Builtin.List.listExtendWith (.ref s.heap.objs.size) (.ref a) (.ref s.heap.objs.size)) _ _ {s with heap:=s.heap.push ({cls:= .type "list",data:= .seq ([]:List Value).toArray}:Obj)}
 have hkeep:∀b o,s.heap.get? b=some o->(s.heap.push ({cls:= .type "list",data:= .seq ([]:List Value).toArray}:Obj)).get? b=some o:=fun b o e=>bV _ e
 generalize s.heap.push ({cls:= .type "list",data:= .seq ([]:List Value).toArray}:Obj)=h1 at gL gA Jv hkeep⊢
 unfold Builtin.List.listExtendWith
 refine wpAny_bind (wpAny_typeOf (T:="set") ⟨o,gA,g2.1⟩ ?_)
 have n1:Builtin.List.listSameRef (.ref s.heap.objs.size) (.ref a)=false:=by
  show(s.heap.objs.size==a)=false
  exact beq_eq_false_iff_ne.mpr (mR hlt)
 have n2:(Value.type "set"==Value.type "list")=false:=by decide
 have n3:(Value.type "set"==Value.type "tuple")=false:=by decide
 simp only[n1,n2,n3,nL,zC,if_false]
 refine wpAny_bind (SV (s:={s with heap:=h1}) hb gA g2 g3 g4 tk fun I h2 d' items fp St k1 k2 k3 k4 k5 pp W st=>?_)
 have PJ:=k1 _ _ gA
 have v8:=k1 _ _ gL
 refine wpAny_bind (wpAny_holding (K1 (s:={s with heap:=h2,drawn:=d'}) ⟨o,PJ,g2.1⟩ ?_))
 have lS:s.heap.objs.size<h1.objs.size:=wu (r6 _) Jv.symm
 have nS:s.heap.objs.size∉fp:=fun m=>by
  rcases k3 _ m with e|e
  ·exact absurd e (mR hlt)
  ·exact absurd (eE lS e) (jo _)
 have hil:items.length<=sizeLine:=by
  rw[pp.length_eq,ak,jZ];exact fits_of_scanBound hb
 have key:∀(h3:Heap) (c:Nat),St 0 h3->(∀b o,b≠s.heap.objs.size->h2.get? b=some o->h3.get? b=some o)->h3.get? s.heap.objs.size=some {cls:= .type "list",data:= .seq #[] c}->
   codeAny (model prog w) A (.builtin "list.extend.loop" ⟨[.ref s.heap.objs.size, .ref I, .ref s.heap.objs.size],[]⟩) (fun r s'=>match r with
    | .ok (.ret v)=>wpAny (model prog w) A (match v with| .ref x=>(do match(<-load x).data with| .seq xs _=>pure xs.toList|_=>unsupported "internal:collect")|_=>unsupported "internal:collect") Q E s'
    | .ok _=>False
    | .error e=>E e s') {s with heap:=h3,drawn:=d'}:=by
  intro h3 c st3 q1 q2
  refine codeAny_extend_loopS ((W A.in1 hh).toS) hil _ nS _ items.length 0 _ #[] c rfl (dW _) st3 q2 (ItemsOf.nil _) fun s' acc c' mo q3 q4=>?_
  refine wpAny_bind (wpAny_load q3 (wpAny_pure ?_))
  rw[RK q4,Moved.eq_with mo]
  refine hQ s'.heap d' s'.toks items (fun b o e=>?_) ?_ pp
  ·have nb:b≠s.heap.objs.size:=cV (bC e)
   refine mo.heap b o (fun m=>?_) (q1 b o nb (k1 b o (hkeep b o e)))
   rcases aK.mp m with z|z
   ·exact nb z
   ·have z:=cg.mp z
    rw[z] at e
    exact absurd (eE (mD (bC e) lS) k2) (jo _)
  ·exact jk (bC q3)
 refine wpAny_ite_split (fun _=>?_) fun _=>wpAny_pure ⟨plainId_quiet EZ _,key h2 _ st (fun _ _ _ e=>e) v8⟩
 refine wpAny_bind (wpAny_rule (wpAny_bind ?_))
 show wpAny _ A.in1 (updateSeq s.heap.objs.size (·.push .none)>>=fun _=>updateSeq s.heap.objs.size (·.pop)) _ _ _
 have u1:=tU (Obj.mapSeq (·.push Value.none)) v8 rfl
 have u2:=tU (Obj.mapSeq (·.pop)) u1 rfl
 refine wpAny_bind (wpAny_updateSeq v8 rfl (wpAny_updateSeq (hz:=by seq_fits) u1 rfl ?_))
 have Dz:∀b o,b≠s.heap.objs.size->h2.get? b=some o->((h2.update s.heap.objs.size (Obj.mapSeq (·.push Value.none))).update s.heap.objs.size (Obj.mapSeq (·.pop))).get? b=some o:=fun b o nb e=>(j7 _ _ (bM nb)).trans ((j7 _ _ (bM nb)).trans e)
 exact wpAny_pure ⟨plainId_quiet EZ _,key _ _ ((W A.in1 hh).frame 0 _ _ st fun b m o e=>Dz b o (fun z=>nS (z▸m)) e) Dz u2⟩
theorem Er{ks:List Int->Prop}:∀{vs:List Value},(∀v∈vs,∃k t,v= .int k t)->∃ns,IntsAre vs ns
  |[],_=>⟨[], .nil⟩
  | v :: vs, h => by
    obtain⟨k,t,rfl⟩:=h v (bA ..)
    obtain⟨ns,hn⟩:=Er (ks:=ks) fun v m=>h v (cK _ m)
    exact⟨k::ns, .cons k t hn⟩
theorem Cy:∀{vs:List Value} {ns:List Int},IntsAre vs ns->∀k,k∈ns↔∃t, .int k t∈vs
  |_,_, .nil,k=>by simp
  | _, _, .cons j t h, k => by
    rw[aK,Cy h k]
    constructor
    · rintro(rfl|⟨t',m⟩)
      · exact⟨_,bA ..⟩
      · exact⟨t',cK _ m⟩
    · rintro⟨t',m⟩
      rcases aK.mp m with e|m
      · cases e;exact .inl rfl
      · exact .inr ⟨t',m⟩
theorem Qq{S:Int->Bool}{n:Nat}{Q:Value->Shared->Prop}(hh:A.handled=none)(hS:s.heap.SetOf (IK prog w) a S n)(hT:gk (fJ w) s.heap a)(h64:n<64)
  (h : ∀ h' d' tk' (l : Addr) (out : List Value) (ns : List Int) (e : Nat), (∀ b o, s.heap.get? b = some o -> h'.get? b = some o) -> s.heap.objs.size <= l -> h'.get? l = some (seqObj "list" out.toArray e) -> IntsAre out ns -> ns.Pairwise (· <= ·) -> (∀ k, S k = true ↔ k ∈ ns) -> ns.length = n ->
   Q (.ref l) {s with heap:=h',drawn:=d',toks:=tk'}):wpAny (model prog w) A (call (.builtin "sorted") [.ref a]) Q E s:=by
 obtain⟨o,es,ep,t,g1,g2,g3,l1,l2,l3,l4,sz⟩:=hS
 refine Dc kind_sorted plain_sorted entry_sorted (args_sorted1 _) ?_
 unfold Builtin.«sorted»
 refine wpAny_bind (m:=checkCount "sorted" 1 1 _) (wpAny_pure (wpAny_bind ?_))
 refine Lv (A:=A.in1) hh l3 g1 g2 g3 l4 (hT o es ep t g1 g3) fun h1 d1 AL items k1 k2 pp=>?_
 have hint:∀v∈items,∃k t,v= .int k t:=fun v m=>by
  obtain⟨e,m',rfl⟩:=bW.mp (pp.mem_iff.mp m)
  obtain⟨⟨k,hk,_⟩,_⟩:=l1 e m'
  obtain⟨t,ht⟩:=rP hk
  exact⟨k,t,ht⟩
 obtain⟨ns,hI⟩:=Er (ks:=fun _=>True) hint
 have hlen:items.length=n:=by rw[pp.length_eq,ak,jZ,sz]
 refine wpAny_bind (wpAny_newList ?_)
 have gL:(h1.push (seqObj "list" items.toArray 0)).get? h1.objs.size=some (seqObj "list" items.toArray 0):=fN _ rfl
 refine wpAny_bind (wpAny_holding (wpAny_call_entry slot_list_sort ⟨_,gL,rfl⟩ entry_list_sort (list_sort_tree gL hI (by omega) fun out ns' a1 a2 a3=>⟨_,rfl,?_⟩) (args_list_sort _)))
 obtain⟨e,he⟩:=sortedHeap_at (out:=out) gL
 refine wpAny_pure ⟨_,rfl,h _ d1 AL h1.objs.size out.toList ns' e (fun b o q=>?_) k2 (by simpa using he) a1 a3 (fun k=>?_) ?_⟩
 ·have lb:=bC (k1 b o q)
  rw[sortedHeap_old (cV lb) (by rw[mz];exact nP lb)]
  exact bV _ (k1 b o q)
 ·rw[a2.mem_iff,Cy hI,l2 k]
  constructor
  ·rintro⟨e,m,q⟩
   obtain⟨t,ht⟩:=rP q
   exact⟨t,pp.mem_iff.mpr (ht▸bW.mpr ⟨e,m,rfl⟩)⟩
  ·rintro⟨t,m⟩
   obtain⟨e,m',q⟩:=bW.mp (pp.mem_iff.mp m)
   exact⟨e,m',by rw[q];exact intKind_is _ _ _ _⟩
 ·rw[a2.length_eq,<-hI.length,hlen]
end
end L2
set_option maxRecDepth 100000
set_option maxHeartbeats 4000000
namespace L2
open PySem PySem.Spec PyProof.Rows
def qI(P:Program)(w:World)(a:Addr)(S:Int->Bool)(n:Nat):HO:= .ext fun h=>h.SetOf (IK P w) a S n/\gk (fJ w) h a
theorem Inv.dr{X:Cx}{pins:List (Addr×Obj)}{σ:St}{H:Hp}{s:Shared}(I:Inv X pins σ H s)(d:Drawn):Inv X pins σ H {s with drawn:=d}:=
 ⟨I.ok,I.os,I.bare,I.base,I.loc,I.cell,I.free,I.i8,I.pin,I.hok,I.len⟩
theorem vN:∀{ns:List Int} {us:List Value},Vals (ns.map V.int) us->IntsAre us ns
  |[],_, .nil=> .nil
  | n :: ns, _, .cons r t => by
    obtain⟨k,rfl⟩:=r
    exact .cons n k (vN t)
theorem BV:∀{us:List Value} {ns:List Int},IntsAre us ns->Vals (ns.map V.int) us
 |_,_, .nil=> .nil
 |_,_, .cons k t h=> .cons ⟨t,rfl⟩ (BV h)
theorem Kr{σ:List Int}{k:Int}(h:σ.Nodup):(step_dedup σ k).Nodup:=by
 unfold step_dedup
 split
 ·exact h
 ·rename_i q
  rw[zR]
  refine⟨h,by simp,fun x hx y hy=>?_⟩
  rw[cg.mp hy]
  intro e
  subst e
  exact q (by simp[hx])
theorem Fz(val:Nat->Int):∀i,(firstMet val i).Nodup
 |0=>BN
 |i+1=>by rw[firstMet_succ];exact Kr (Fz val i)
theorem HM:∀{ds ns:List Int},ds.Nodup->(∀k∈ds,k∈ns)->ns.length<=ds.length->ds.Perm ns
  | [], ns, _, _, hl => by
    have:ns=[]:=oA.mp (by simpa using hl)
    rw[this]
  | d :: ds, ns, hd, hs, hl => by
    have hm:=hs d (bA ..)
    obtain⟨h1,h2⟩:=iK.mp hd
    have hp:=List.perm_cons_erase hm
    refine(List.Perm.cons d (HM h2 (fun k hk=>?_) ?_)).trans hp.symm
    · rcases aK.mp (hp.mem_iff.mp (hs k (cK _ hk))) with e|e
      · subst e;exact absurd hk h1
      · exact e
    · have:=hp.length_eq;simp at this hl⊢;omega
def uI(P:Program)(w:World)(K:PySem.W.Frag):List V->Hp->VK->Prop:=fun xs H Q=>∃p,∃ns:List Int,xs=[.ref p]/\aW K H p (ns.map V.int)/\ns.length<=4000/\∀a (ms:List Int),H a=none->ms.Nodup->(∀k,k∈ms↔k∈ns)->Q (.ref a) (upd H a (qI P w a (fun k=>ms.any (· ==k)) ms.length))
def uV(P:Program)(w:World):List V->Hp->VK->Prop:=fun xs H Q=>∃a,∃ms:List Int,xs=[.ref a]/\H a=some (qI P w a (fun k=>ms.any (· ==k)) ms.length)/\ms.Nodup/\ms.length<64/\
 ∀l (rs:List Int),H l=none->rs.Pairwise (· < ·)->(∀k,k∈rs↔k∈ms)->Q (.ref l) (upd H l (.lst (rs.map V.int)))
section
variable{X:Cx}
theorem DU(hc:X.calm=true):eV X (.type "set") (uI X.prog X.w X.K):=by
 intro pins s σ H xs us Q I rv h
 obtain⟨p,ns,rfl,hp,hn,q⟩:=h
 obtain⟨u,rfl,ru⟩:=vals1 rv
 cases ru
 obtain⟨its,rs,il,hz⟩:=I.list hp
 have hI:=vN rs
 have hlen:=hI.length
 refine SO (I.ok.hd hc) il.isList (by simpa using hI) (by rw[dO];unfold scanBound;omega) fun h' tk q1 q2 q3=>?_
 have hmem:∀k,k∈firstMet (fun i=>ns.getD i 0) its.toArray.size↔k∈ns:=fun k=>by
  have e:=firstMet_any (fun i=>ns.getD i 0) its.toArray.size k
  have e2:(List.range its.toArray.size).map (fun i=>ns.getD i 0)=ns:=by
   rw[dO,hlen]
   apply List.ext_getElem
   ·simp
   ·intro i h1 h2
    simp[eO,aQ h2]
  rw[e2] at e
  have a1:∀(l:List Int),(l.any (· ==k))=true↔k∈l:=fun l=>by
   rw[su]
   exact⟨fun⟨x,m,z⟩=>(beq_iff_eq.mp z)▸m,fun m=>⟨k,m,beq_self_eq_true _⟩⟩
  rw[<-a1,<-a1,e]
 have kp:∀b u,s.heap.get? b=some u->h'.get? b=some u:=fun b u e=>q3 b u (bC e) e
 have new:bT X.prog X.w (upd H s.heap.objs.size (qI X.prog X.w s.heap.objs.size (fun k=>(firstMet (fun i=>ns.getD i 0) its.toArray.size).any (· ==k)) (firstMet (fun i=>ns.getD i 0) its.toArray.size).length)) h' s.heap.objs.size (qI X.prog X.w s.heap.objs.size (fun k=>(firstMet (fun i=>ns.getD i 0) its.toArray.size).any (· ==k)) (firstMet (fun i=>ns.getD i 0) its.toArray.size).length):=by
  refine⟨⟨q1,q2⟩,?_,fun h1 h2 z k=>?_⟩
  ·obtain⟨o,_,_,_,ho,_⟩:=q1;exact⟨o,ho⟩
  ·obtain⟨⟨o,es,ep,t,ho,r⟩,tt⟩:=z
   exact⟨⟨o,es,ep,t,k o ho,r⟩,tt.keep ho (k o ho)⟩
 exact⟨.ref s.heap.objs.size,_,I.laid (t':=tk) kp (aI _) new,rfl,q _ _ (I.hok.fresh (aI _)) (Fz _ _) hmem⟩
theorem DP(hc:X.calm=true):eV X (.builtin "sorted") (uV X.prog X.w):=by
 intro pins s σ H xs us Q I rv h
 obtain⟨a,ms,rfl,hH,nd,h64,q⟩:=h
 obtain⟨u,rfl,ru⟩:=vals1 rv
 cases ru
 obtain⟨⟨q1,q2⟩,_,_⟩:=I.hok a _ hH
 refine Qq (I.ok.hd hc) q1 q2 h64 fun h' d' tk' l out ns e kp hl gl hI pw hm hn=>?_
 have a1:∀k,(ms.any (· ==k))=true↔k∈ms:=fun k=>by
  rw[su]
  exact⟨fun⟨x,m,z⟩=>(beq_iff_eq.mp z)▸m,fun m=>⟨k,m,beq_self_eq_true _⟩⟩
 have hm':∀k,k∈ns↔k∈ms:=fun k=>by rw[<-hm k,a1]
 have pp:=HM nd (fun k m=>(hm' k).mpr m) (uG hn)
 have LD:ns.Nodup:=pp.nodup_iff.mp nd
 have lt:ns.Pairwise (· < ·):=by
  have:=pw.and LD
  exact this.imp fun⟨x,y⟩=>by omega
 have new:bT X.prog X.w (upd H l (.lst (ns.map V.int))) h' l (.lst (ns.map V.int)):=by
  refine⟨?_,out,e,BV hI,gl⟩
  rw[ak,hn];exact ez (jk h64) (by decide)
 exact⟨.ref l,_,(I.laid (t':=tk') kp hl new).dr d',rfl,q _ _ (I.hok.fresh hl) lt hm'⟩
end
theorem aG.FD{G:Gx}{ρ:Rh}{te:TE}{P:Program}{w:World}{K:PySem.W.Frag}{Θ:Bool->List PyData->Prop}(h:Ev G ρ te fun _ x=>∃ns:List Int,x= .list (ns.map .int)/\ns.length<64/\∀rs:List Int,rs.Pairwise (· < ·)->(∀k,k∈rs↔k∈ns)->Θ true (rs.map .int)):
  aG G ρ (e7 (uV P w) (bJ (e7 (uI P w K) (bJ te cF)) cF)) Θ:=fun nb σ H Q W z=>
 h nb σ H _ W fun f v H1 x ⟨ns,ex,hn,q⟩ s1 hv=>by
  subst ex
  obtain⟨a,xs,rfl,na,hx,hd⟩:=hv.fB
  have e:=qV hd
  subst e
  refine⟨a,ns,rfl, .of hx,by omega,fun b ms hb nd hm=>?_⟩
  have hms:ms.length<=ns.length:=u6 nd fun k m=>(hm k).mp m
  refine⟨b,ms,rfl,aY,nd,by omega,fun l rs hl lt hm'=>?_⟩
  have s2:Step G.B H1 (upd H1 b (qI P w b (fun k=>ms.any (· ==k)) ms.length)):= .same s1.2 (dI hb)
  exact aG.fin (f:=true) W (s1.trans s2) hl (sS rs) (q rs lt fun k=>(hm' k).trans (hm k)) z
end L2
set_option maxRecDepth 100000
set_option maxHeartbeats 4000000
set_option maxRecDepth 100000
set_option maxHeartbeats 4000000
set_option maxRecDepth 100000
set_option maxHeartbeats 4000000
set_option maxRecDepth 100000
set_option maxHeartbeats 4000000
set_option maxRecDepth 100000
set_option maxHeartbeats 4000000
set_option maxRecDepth 100000
set_option maxHeartbeats 4000000
namespace L2
open PySem PySem.Spec PyProof.Rows
def kd(x:Keyed):Int:=match x.1 with| .int n _=>n|_=>0
end L2
set_option maxRecDepth 100000
set_option maxHeartbeats 4000000
set_option maxRecDepth 100000
set_option maxHeartbeats 4000000
set_option maxRecDepth 100000
set_option maxHeartbeats 4000000
set_option maxRecDepth 100000
set_option maxHeartbeats 4000000
set_option maxRecDepth 100000
set_option maxHeartbeats 4000000
set_option maxRecDepth 100000
set_option maxHeartbeats 4000000
namespace L2
open PySem PySem.Spec PyProof.Rows
def EA:List V->Hp->VK->Prop:=fun xs H Q=>∃j:Int,xs=[.int j]/\∀a,H a=none->Q (.ref a) (upd H a (.lJ 0 j))
def DN:List V->Hp->VK->Prop:=fun xs H Q=>∃(a:Addr) (lo hi:Int),xs=[.ref a]/\H a=some (.lJ lo hi)/\(-10000<=lo/\lo<=10000/\ -10000<=hi/\hi<=10000)/\∀l,H l=none->Q (.ref l) (upd H l (.lst (((List.range (hi-lo).toNat).map fun(i:Nat)=>lo+(i:Int)).map V.int)))
def xg(K:PySem.W.Frag):List V->Hp->VK->Prop:=fun xs H Q=>∃p,∃ns:List Int,xs=[.ref p]/\aW K H p (ns.map V.int)/\Q (.int ns.sum) H
def Aw(K:PySem.W.Frag):List V->Hp->VK->Prop:=fun xs H Q=>∃p,∃bs:List Bool,xs=[.ref p]/\aW K H p (bs.map V.bl)/\Q (.bl (bs.all id)) H
section
variable{X:Cx}
theorem Ss:eV X (.type "range") EA:=by
 intro pins s σ H xs us Q I rv h
 obtain⟨j,rfl,q⟩:=h
 obtain⟨u,rfl,ru⟩:=vals1 rv
 obtain⟨t,rfl⟩:=ru
 refine call_range_1 ?_
 exact⟨.ref s.heap.objs.size,_,I.laid (t':=s.toks+1+1) (o:= .lJ 0 j) (fun b o e=>bV _ e) (aI _) ⟨_,_,_,fN _ rfl⟩,rfl,q _ (I.hok.fresh (aI _))⟩
theorem NP(hc:X.calm=true):eV X (.type "list") DN:=by
  intro pins s σ H xs us Q I rv h
  obtain⟨a,lo,hi,rfl,hH,hb,q⟩:=h
  obtain⟨u,rfl,ru⟩:=vals1 rv
  cases ru
  obtain⟨t,u,v,e⟩:=(show bT X.prog X.w H s.heap a (.lJ lo hi) from I.hok a _ hH)
  refine call_list_range (n:=(hi-lo).toNat) (I.ok.hd hc) (show IsRange s.heap a lo hi 1 t u v from e) (small_one (by omega) (by omega) (by omega) (by omega)) (rangeSize_nat lo hi) (by omega) fun h' tk acc c' kp hl hi'=>?_
  have vv:Vals (((List.range (hi-lo).toNat).map fun(i:Nat)=>lo+(i:Int)).map V.int) acc.toList:=by
    have key:∀(n:Nat) (l:List Value),l.length=n->∀b:Int,(∀(j:Nat) (v:Value),l[j]?=some v->∃t,v=Value.int (b+(j:Int)) t)->Vals (((List.range n).map fun(i:Nat)=>b+(i:Int)).map V.int) l:=by
      intro n
      induction n with
      |zero=>intro l hl b _;rw[oA.mp hl];exact .nil
      | succ n ih =>
        intro l hl b hv
        cases l with
        |nil=>cases hl
        | cons x r =>
          obtain⟨t,e⟩:=hv 0 x rfl
          rw[wo,bR,bR]
          refine .cons ⟨t,by simpa using e⟩ ?_
          have:=ih r (by simpa using hl) (b+1) (fun j v e=>by
            obtain⟨t,z⟩:=hv (j+1) v (by simpa using e)
            exact⟨t,by rw[z];congr 1;omega⟩)
          rw[dz] at this⊢
          rw[dz]
          have e:∀i:Nat,((V.int∘fun(i:Nat)=>b+(i:Int))∘Nat.succ) i=(V.int∘fun(i:Nat)=>b+1+(i:Int)) i:=fun i=>by
            show V.int (b+((i+1:Nat):Int))=V.int (b+1+(i:Int));congr 1;omega
          rw[fQ fun i _=>e i]
          exact this
    refine key _ _ (by rw[jZ];exact hi'.1) lo fun j v e=>?_
    obtain⟨t,z⟩:=hi'.2 j v (by rw[<-nX];exact e)
    exact⟨t,by rw[z];congr 1;omega⟩
  refine⟨.ref s.heap.objs.size,_,I.laid (t':=tk) (o:= .lst (((List.range (hi-lo).toNat).map fun(i:Nat)=>lo+(i:Int)).map V.int)) kp (aI _) ⟨?_,acc.toList,c',vv,by simpa using hl⟩,rfl,q _ (I.hok.fresh (aI _))⟩
  rw[ak,ak,List.length_range]
  exact ez (show(hi-lo).toNat<=20000 by omega) (by decide)
theorem QI(hc:X.calm=true):eV X (.builtin "sum") (xg X.K):=by
 intro pins s σ H xs us Q I rv h
 obtain⟨p,ns,rfl,hp,q⟩:=h
 obtain⟨u,rfl,ru⟩:=vals1 rv
 cases ru
 obtain⟨its,rs,il,hz⟩:=I.list hp
 have hI:=vN rs
 obtain⟨ys,e⟩:=hI.allInts.items
 have hn:=hI.numsOf
 refine sum_intListG (xs:=ys) (I.ok.hd hc) (by rw[<-e];exact il.isList) fun h' tk t' kp=>?_
 have e2:preSum (numAt ys) ys.size=ns.sum:=by
  rw[preSum_eq,yU (by simp),<-nums_intItems,<-e,<-hn]
 rw[e2]
 exact⟨.int ns.sum,H,I.kept kp,⟨_,rfl⟩,q⟩
theorem Rx(hc:X.calm=true):eV X (.builtin "all") (Aw X.K):=by
  intro pins s σ H xs us Q I rv h
  obtain⟨p,bs,rfl,hp,q⟩:=h
  obtain⟨u,rfl,ru⟩:=vals1 rv
  cases ru
  obtain⟨its,rs,il,hz⟩:=I.list hp
  have hl:=rs.length
  have hv:∀(i:Nat) (v:Value),its.toArray[i]?=some v->v= .bool (bs.getD i false):=fun i v e=>by
    have hi:i<bs.length:=by
      have:=(rm.mp e).1
      rw[ak] at hl
      simp at this;omega
    obtain⟨u,hu,ru⟩:=rs.get (i:=i) (x:= .bl bs[i]) (by rw[aX,aQ hi];rfl)
    rw[Hl,hu] at e
    cases e
    rw[eO,aQ hi]
    exact ru
  have ll:=il.isList
  have hlt:p<s.heap.objs.size:=by obtain⟨o,e,_⟩:=ll;exact bC e
  refine call_all_walk (wpAny_pyIter_list ll ⟨s.heap.objs.size,_,_,_,_,_,fun i=>bs.getD i false,rfl,Walks.list (A:=X.A.in1) (I.ok.hd hc) _ p (cV hlt) its.toArray,⟨⟨_,fN _ rfl,rfl,rfl⟩,ll.push _⟩,fun i v s Q E hP hQ=>?_,fun h' tk kp=>?_⟩)
  · rw[hv i v hP];exact wpAny_truthy_bool hQ
  · have e:(List.range its.toArray.size).all (fun i=>bs.getD i false)=bs.all id:=by
      have hs:its.toArray.size=bs.length:=by rw[ak] at hl;simp;omega
      rw[hs]
      clear hv hl rs q hp hs hz
      induction bs with
      |nil=>rfl
      | cons b r ih =>
        rw[fM,wo,oU,oU,List.all_map]
        simpa[Function.comp_def] using congrArg (b && ·) ih
    rw[e]
    refine⟨.bl (bs.all id),H,I.kept fun b o q=>kp b o (fun m=>?_) (bV _ q),rfl,q⟩
    have:=cg.mp m
    rw[this] at q
    exact absurd (bC q) (jo _)
end
section
variable{G:Gx}{ρ:Rh}{te:TE}{K:PySem.W.Frag}{Φ:Pd}
theorem aG.Rl{Θ:Bool->List PyData->Prop}(h:Ev G ρ te fun _ x=>∃n:Int,x= .int n/\ -10000<=n/\n<=10000/\Θ true (((List.range n.toNat).map fun(i:Nat)=>(0:Int)+(i:Int)).map .int)):aG G ρ (e7 DN (bJ (e7 EA (bJ te cF)) cF)) Θ:=fun nb σ H Q W z=>
 h nb σ H _ W fun f v H1 x ⟨n,ex,h1,h2,q⟩ s1 hv=>by
  subst ex
  rw[hv.cD]
  refine⟨n,rfl,fun a ha=>⟨a,0,n,rfl,aY,by omega,fun l hl=>?_⟩⟩
  rw[tN]
  exact aG.fin (f:=true) W (s1.trans (.same s1.2 (dI ha))) hl (sS _) q z
theorem Ev.sum(h:Ev G ρ te fun _ x=>∃ns:List Int,x= .list (ns.map .int)/\Φ true (.int ns.sum)):Ev G ρ (e7 (xg K) (bJ te cF)) Φ:=fun nb σ H Q W z=>
 h nb σ H _ W fun f v H1 x ⟨ns,ex,q⟩ s1 hv=>by
  subst ex
  obtain⟨a,xs,rfl,na,hx,hd⟩:=hv.fB
  have e:=qV hd
  subst e
  exact⟨a,ns,rfl, .of hx,z true _ H1 _ q s1 (.int _)⟩
theorem EC{nb:Addr->Prop}{H:Hp}:∀{is:List Bool} {xs:List V},ah nb H (is.map PyData.bool) xs->xs=is.map V.bl
  |[],_,h=>by unfold List.map ah at h;exact h
  | i :: is, _, h => by
    rw[bR] at h
    unfold ah at h
    obtain⟨y,ys,rfl,h1,h2⟩:=h
    unfold aj at h1
    rw[bR,h1,EC h2]
theorem Ev.all(h:Ev G ρ te fun _ x=>∃bs:List Bool,x= .list (bs.map .bool)/\Φ true (.bool (bs.all id))):Ev G ρ (e7 (Aw K) (bJ te cF)) Φ:=fun nb σ H Q W z=>
 h nb σ H _ W fun f v H1 x ⟨bs,ex,q⟩ s1 hv=>by
  subst ex
  obtain⟨a,xs,rfl,na,hx,hd⟩:=hv.fB
  have e:=EC hd
  subst e
  exact⟨a,bs,rfl, .of hx,z true _ H1 _ q s1 (.bl _)⟩
end
end L2
set_option maxRecDepth 100000
set_option maxHeartbeats 4000000
namespace L2
open PySem PySem.Spec PyProof.Rows
def iO:PyData->String->Bool
 | .bool _,T=>T=="bool" ||T=="int"
 | .int _,T=>T=="int"
 | .str _,T=>T=="str"
 | .list _,T=>T=="list"
 | .tuple _,T=>T=="tuple"
 |_,_=>false
def Cq:PyData->String
 | .none=> "NoneType" | .bool _=> "bool" | .int _=> "int" | .str _=> "str" | .list _=> "list" | .tuple _=> "tuple" | .dict _=> "dict"
theorem G5(ds:List PyData):iO (.list ds) "list"=true/\iO (.list ds) "tuple"=false:=⟨rfl,rfl⟩
theorem Eb(ds:List PyData):iO (.tuple ds) "list"=false/\iO (.tuple ds) "tuple"=true:=⟨rfl,rfl⟩
theorem LF{K:PySem.W.Frag}{nb:Addr->Prop}{H:Hp}{d:PyData}{v:V}(h:aj nb H d v):iz K H v (.type (Cq d)):=by
 cases d<;>unfold aj at h
 ·subst h;exact .aM
 ·subst h;exact .bl _
 ·subst h;exact .int _
 ·subst h;exact .str _
 ·obtain⟨a,xs,rfl,_,e,_⟩:=h;exact .lst e
 ·obtain⟨a,xs,rfl,_,e,_⟩:=h;exact .tup e
 ·obtain⟨a,xs,rfl,_,e,_⟩:=h;exact e.elim .dK fun⟨_,e⟩=> .Gk e
def pG(T:String):Prop:=T="int" \/T="bool" \/T="list" \/T="tuple" \/T="str"
theorem Fe{K:PySem.W.Frag}{d:PyData}{T:String}(hT:pG T):PySem.W.kitOne K (.type (Cq d)) (.type T)=some (iO d T):=by
 rcases hT with rfl|rfl|rfl|rfl|rfl<;>cases d<;>(with_unfolding_all rfl)
theorem IW{K:PySem.W.Frag}{d:PyData}:∀{Ts:List String},(∀T∈Ts,pG T)->PySem.W.kitAny K (.type (Cq d)) (Ts.map Value.type)=some (Ts.any (iO d))
  |[],_=>rfl
  | T :: r, h => by
    rw[bR]
    unfold PySem.W.kitAny
    rw[Fe (h T (bA ..)),mZ]
    cases iO d T with
    |true=>rfl
    |false=>exact IW fun T m=>h T (cK _ m)
def uD:List V->Hp->VK->Prop:=fun xs H Q=>∃(x:V) (tp:Addr) (Ts:List String) (nb:Addr->Prop) (d:PyData),xs=[x, .ref tp]/\H tp=some (.tup (Ts.map V.ty))/\aj nb H d x/\(∀T∈Ts,pG T)/\Q (.bl (Ts.any (iO d))) H
theorem D7:∀{Ts:List String} {us:List Value},Vals (Ts.map V.ty) us->us=Ts.map Value.type
 |[],_, .nil=>rfl
 |T::r,_, .cons h t=>by rw[bR,D7 t,show _=Value.type T from h]
section
variable{X:Cx}
theorem De:eV X (.builtin "isinstance") uD:=by
 intro pins s σ H xs us Q I rv h
 obtain⟨x,tp,Ts,nb,d,rfl,ht,hd,h5,q⟩:=h
 obtain⟨u,v,rfl,ru,rv⟩:=rv.two
 cases (show v=Value.ref tp from rv)
 obtain⟨_,its,vt,o,ho,hc,n,hdat⟩:=(show bT X.prog X.w H s.heap tp (.tup (Ts.map V.ty)) from I.hok tp _ ht)
 have e:=D7 vt
 subst e
 obtain⟨c0,d0,dt,sl⟩:=o
 dsimp only at hc hdat
 subst hc hdat
 have fin:∀tk,EP X pins σ Q (.bool (Ts.any (iO d))) {s with toks:=tk}:=fun tk=>⟨.bl _,H,I.tok tk,rfl,q⟩
 have ka:=IW (K:=X.K) (d:=d) h5
 cases d<;>unfold aj at hd
 ·subst hd;cases (show u=Value.none from ru);exact nZ PySem.W.kitx_none I.eB True.intro ho ka (fun z=>nomatch z) fin
 ·subst hd;cases (show u=Value.bool _ from ru);exact nZ PySem.W.kitx_bool I.eB True.intro ho ka (fun z=>nomatch z) fin
 ·subst hd;obtain⟨t,rfl⟩:=(show∃t,u=Value.int _ t from ru);exact nZ PySem.W.kitx_int I.eB True.intro ho ka (fun z=>nomatch z) fin
 ·subst hd;obtain⟨t,rfl⟩:=(show∃t,u=Value.str _ t from ru);exact nZ PySem.W.kitx_str I.eB True.intro ho ka (fun z=>nomatch z) fin
 ·obtain⟨a,ys,rfl,_,ea,_⟩:=hd
  cases (show u=Value.ref a from ru)
  obtain⟨_,_,n,_,h1⟩:=(show bT X.prog X.w H s.heap a (.lst ys) from I.hok a _ ea)
  exact nZ zF I.eB ⟨_,h1,rfl⟩ ho ka (fun z=>nomatch z) fin
 ·obtain⟨a,ys,rfl,_,ea,_⟩:=hd
  cases (show u=Value.ref a from ru)
  obtain⟨_,_,_,o',h1,h2,_⟩:=(show bT X.prog X.w H s.heap a (.tup ys) from I.hok a _ ea)
  exact nZ PySem.W.kitx_tuple I.eB ⟨o',h1,h2⟩ ho ka (fun z=>nomatch z) fin
 ·obtain⟨a,ys,rfl,_,ea,_⟩:=hd
  cases (show u=Value.ref a from ru)
  obtain⟨_,_,vs,_,dd⟩:=(show bT X.prog X.w H s.heap a (.dK ys) from ea.ok I.hok)
  exact nZ uF I.eB dd.typeIs ho ka (fun z=>nomatch z) fin
end
section
variable{G:Gx}{ρ:Rh}{ta tb te:TE}{K:PySem.W.Frag}{Φ:Pd}{T U:String}
theorem Ev.JS(hT:pG T)(h:Ev G ρ te fun _ x=>Φ true (.bool (iO x T))):Ev G ρ (e7 (kC K) (bJ te (bJ (tC (.ty T)) cF))) Φ:=fun nb σ H Q W z=>
 h nb σ H _ W fun f v H1 d q s1 hv=>⟨v,T,_,_,rfl,LF hv,Fe hT,z true _ H1 _ q s1 (.bl _)⟩
theorem Ev.Qw(hT:pG T)(hU:pG U)(h:Ev G ρ te fun _ x=>Φ true (.bool (iO x T||iO x U))):Ev G ρ (e7 uD (bJ te (bJ (oF (bJ (tC (.ty T)) (bJ (tC (.ty U)) cF))) cF))) Φ:=fun nb σ H Q W z=>
 h nb σ H _ W fun f v H1 d q s1 hv=>by
  refine⟨by show 2<=sizeLine;decide,fun p hp=>⟨v,p,[T,U],G.S nb f,d,rfl,aY,hv.keep (bh.of (dI hp)),fun S m=>?_,?_⟩⟩
  ·rcases aK.mp m with e|m
   ·rw[e];exact hT
   ·rw[cg.mp m];exact hU
  ·rw[mZ,mZ,List.any_nil,nL]
   exact z true _ _ _ q (s1.trans (.same s1.2 (dI hp))) (.bl _)
theorem Ev.LZ(h:Ev G ρ te fun _ x=>∃ds,(x= .list ds\/x= .tuple ds)/\Φ true (.int ds.length)):Ev G ρ (e7 (dg K) (bJ te cF)) Φ:=fun nb σ H Q W z=>
 h nb σ H _ W fun f v H1 d ⟨ds,e,q⟩ s1 hv=>by
  rcases e with e|e
  ·subst e
   obtain⟨a,xs,rfl,n,hx,hd⟩:=hv.fB
   exact⟨a,xs,rfl, .inl (.of hx),by rw[hd.length];exact z true _ H1 _ q s1 (.int _)⟩
  ·subst e
   obtain⟨a,xs,rfl,n,hx,hd⟩:=hv.ofT
   exact⟨a,xs,rfl, .inr (.of hx),by rw[hd.length];exact z true _ H1 _ q s1 (.int _)⟩
theorem Ev.ze(h:Ev G ρ ta fun f x=>∃ds,(x= .list ds\/x= .tuple ds)/\Ev G ρ tb fun _ y=>∃k,y= .int k/\∃e,bx ds k=some e/\Φ f e):Ev G ρ (dN (sJ K) ta tb) Φ:=
 Ev.jg (h.mono fun f x ⟨ds,ex,q⟩=>q.mono fun g y ⟨k,ey,e,he,p⟩ nb σ H u v Q W hu hv z=>by
  subst ey
  rcases ex with ex|ex
  ·subst ex
   obtain⟨a,xs,rfl,n,hx,hd⟩:=hu.fB
   obtain⟨w,hw,hD⟩:=hd.bx he
   exact .inl ⟨a,xs,k,w,rfl,hv.cD, .of hx,hw,z f _ H _ p (.refl W.aA) hD⟩
  ·subst ex
   obtain⟨a,xs,rfl,n,hx,hd⟩:=hu.ofT
   obtain⟨w,hw,hD⟩:=hd.bx he
   exact .inr (.inl ⟨a,xs,k,w,rfl,hv.cD, .of hx,hw,z f _ H _ p (.refl W.aA) hD⟩))
end
theorem Callee.void{P:Program}{w:World}{K:PySem.W.Frag}{mg:Str->Option Value}{base:Heap}{x:Str}{st:Stmt}{k:Nat}{ps:List Str}{sp:Sp}{f:Addr}{fd:FuncData}(F:bL K x x st f fd)(b:Binds K fd ps [])(m:mg x=some (.ref f))(hv:∀vs H Q E,¬sp vs H Q E):Callee P w K mg base x k ps sp:=
 ⟨f,fd,⟨fun vs H Q E h=>(hv vs H Q E h).elim,fun A outer s H args us vs Q E _ _ _ _ h=>(hv vs H Q E h).elim⟩,b,F.kp,m⟩
end L2
set_option maxRecDepth 100000
set_option maxHeartbeats 4000000
namespace L2
open PySem PySem.Spec PyProof.Rows
section
variable{G:Gx}{ρ cZ:Rh}{te:TE}{gt:TG}{n i:Nat}{it:Nat->PyData->Prop}{fi:Bool}{Θ:Bool->List PyData->Prop}{E:DE}
theorem tS(os:List Int):gx (os.map PyData.int)=true:=by
 unfold gx
 rw[uw]
 intro x hx
 obtain⟨y,_,rfl⟩:=bW.mp hx
 rfl
theorem gz.ints(P:Int->Prop)(ht:∀i d,it i d->Gv G cZ gt fi d fun gf=>Wk cZ gf/\Ev G gf te fun _ e=>∃r:Int,e= .int r/\P r)(h:∀os:List Int,os.length=n->(∀x∈os,P x)->Θ true (os.map .int)):gz G cZ n it fi gt oH te Θ:=by
 refine⟨false,fun i ds=>ds.length=i/\∃os:List Int,ds=os.map .int/\∀x∈os,P x,⟨rfl,[],rfl,fun _ h=>nomatch h⟩,?_,?_⟩
 ·rintro i d ds hd hl ⟨hl2,os,rfl,ho⟩
  refine fun nb σ H v Q W hv z=>ht i d hd nb σ H v Q W hv fun σ' ρ' ⟨w,q⟩ W'=>z σ' ρ' ⟨w,Tv.qS (uQ (q.mono fun f e ⟨r,ee,hr⟩=>⟨fun z=>(by cases z),?_,os++[r],?_,fun x hx=>?_⟩))⟩ W'
  ·rw[bP,fE,hl2]
  ·rw[ee];simp
  ·rcases gP.mp hx with h|h
   ·exact ho x h
   ·rw[cg.mp h];exact hr
 ·rintro ds hl ⟨hl2,os,rfl,ho⟩
  rw[tS,rj]
  exact h os (by rw[ak] at hl2;exact hl2) ho
theorem gz.rel{α:Type}(φ:α->PyData)(fl:Bool)(P:Nat->α->Prop)(ht:∀i d,it i d->Gv G cZ gt fi d fun gf=>Wk cZ gf/\Ev G gf te fun f e=>(fl=true->f=true)/\∃r:α,e=φ r/\P i r)
  (h:∀os:List α,os.length=n->(∀(i:Nat) x,os[i]?=some x->P i x)->Θ (fl||gx (os.map φ)) (os.map φ)):gz G cZ n it fi gt oH te Θ:=by
 refine⟨fl,fun i ds=>ds.length=i/\∃os:List α,ds=os.map φ/\∀(i:Nat) x,os[i]?=some x->P i x,⟨rfl,[],rfl,fun j x e=>by simp at e⟩,?_,?_⟩
 ·rintro i d ds hd hl ⟨hl2,os,rfl,ho⟩
  refine fun nb σ H v Q W hv z=>ht i d hd nb σ H v Q W hv fun σ' ρ' ⟨w,q⟩ W'=>z σ' ρ' ⟨w,Tv.qS (uQ (q.mono fun f e ⟨hf,r,ee,hr⟩=>⟨hf,?_,os++[r],?_,fun j x hj=>?_⟩))⟩ W'
  ·rw[bP,fE,hl2]
  ·rw[ee];simp
  ·rw[ak] at hl2
   rcases xG j os.length with h|h|h
   ·exact ho j x (by rwa[iB h] at hj)
   ·subst h
    simp at hj
    subst hj
    rw[hl2];exact hr
   ·rw[gC (by rw[bP,fE];omega)] at hj
    cases hj
 ·rintro ds hl ⟨hl2,os,rfl,ho⟩
  exact h os (by rw[ak] at hl2;exact hl2) ho
theorem Sv.Qt(h:∀a,E.nx (ρ.set i (.own a true []))):Sv G ρ (iJ (mX cF) (fG i)) E:=Sv.w5 (aG.lst (Av.nil ⟨by decide,fun a=>h a⟩))
end
def Ph:R2:=fun x y H Q=>∃a b:Bool,x= .bl a/\y= .bl b/\Q (.bl (a==b)) H
theorem Ev.Wx{G:Gx}{ρ:Rh}{ta:TE}{b:Bool}{Φ:Pd}(h:Ev G ρ ta fun _ x=>∃a,x= .bool a/\Φ true (.bool (a==b))):Ev G ρ (dN Ph ta (tC (.bl b))) Φ:=fun nb σ H Q W z=>
 h nb σ H _ W fun f v H1 d ⟨a,e,q⟩ s1 hv=>by
  subst e
  unfold aj at hv
  subst hv
  exact⟨a,b,rfl,rfl,z true _ H1 _ q s1 (.bl _)⟩
theorem kE{X:Cx}{K:PySem.W.Frag}{a:Expr}{ta:TE}(hK:X.K=K)(ha:PE X a ta)(he:∀whole,isTrue a X.env whole=(do let v<-whole;standAt a.pos;holding [v] (truthy v))):PT X a (Jb K ta):=by
 subst hK
 exact Qa ha he
theorem iF{X:Cx}{K:PySem.W.Frag}{es:List Expr}{k:Nat}{t:ic}{n:Nat}{pos:Pos}(hK:X.K=K)(hc:X.calm=true)(h:rq X es t)(hn:(assignEach es X.env).length=n:=by rfl)(hst:(assignEach es X.env).findIdx? (·.1)=none:=by rfl):PG X (.Tuple es k pos) (sW K n t):=by
 subst hK
 exact Jc hc h hn hst
theorem QD(cs:List aq):PyData.depthAll (cs.map dw)<=2/\PyData.canLayAll0 (cs.map dw)=true:=by
  induction cs with
  |nil=>simp[PyData.depthAll,PyData.canLayAll0]
  | cons a r ih =>
    have h:=O9 a
    simp[PyData.depthAll,PyData.depth,PyData.canLayAll0,PyData.canLay0,ih.2,h.2.2]
    have:=ih.1
    have:=h.2.1
    omega
theorem Di{α:Type}{xs:List α}{lo hi:Option Int}:(eZ xs lo hi).length<=xs.length:=by
 unfold eZ
 rw[iQ,Ct];omega
def QO(p:Int):Prop:=2<=p/\p<=10^60
theorem pick{L:List Int}{k:Int}(h0:0<=k)(h1:k<L.length)(P:Int->Prop)(hP:∀x∈L,P x):∃x,bx (L.map PyData.int) k=some (.int x)/\P x:=by
 have hL:k.toNat<L.length:=by omega
 exact⟨L[k.toNat],gY h0 (by rw[aX,aQ hL];rfl),hP _ (ie hL)⟩
end L2
set_option maxRecDepth 100000
set_option maxHeartbeats 4000000
namespace L2
open PySem PySem.Spec PyProof.Rows
theorem PF{α:Type}{xs:List α}{k:Int}(h0:0<=k)(h1:k<=xs.length):eZ xs none (some k)=xs.take k.toNat:=by
 unfold eZ HT.dS
 simp only[Bm,Nat.sub_zero]
 congr 1
 first|omega|(split<;>omega)
theorem LC{α:Type}{xs:List α}{k:Int}(h0:0<=k)(h1:k<=xs.length):eZ xs (some k) none=xs.drop k.toNat:=by
 have e:HT.dS xs.length 0 (some k)=k.toNat:=by
  show(if k<0 then _ else _)=_
  rw[if_neg (by omega)];omega
 unfold eZ
 rw[e,HT.S0]
 exact yU (by rw[Ct];omega)
theorem LS{α:Type}{xs:List α}{k:Int}{y:α}(h0:0<=k)(h1:k<xs.length):eZ xs none (some k)++[y]++eZ xs (some (k+1)) none=xs.set k.toNat y:=by
 rw[PF h0 (by omega),LC (by omega) (by omega),List.set_eq_take_append_cons_drop,if_pos (by omega),jd]
 congr 2
 show[y]++_=_
 rw[show(k+1).toNat=k.toNat+1 by omega]
 rfl
end L2
set_option maxRecDepth 100000
set_option maxHeartbeats 4000000
set_option maxRecDepth 100000
set_option maxHeartbeats 4000000
namespace L2
open PySem PySem.Spec PyProof.Rows
def DK(K:PySem.W.Frag)(te:TE)(ts:TO):TE:=fun σ H Q=>te σ H fun x H1=>ts σ H1 fun k H2=>k=some (-1)/\∃a xs,x= .ref a/\aW K H2 a xs/\∀p,H2 p=none->Q (.ref p) (upd H2 p (.lst xs.reverse))
theorem ah.rev{nb:Addr->Prop}{H:Hp}:∀{ds:List PyData} {xs:List V},ah nb H ds xs->ah nb H ds.reverse xs.reverse
  |[],xs,h=>by unfold ah at h;subst h;exact .nil
  | d :: ds, xs, h => by
    unfold ah at h
    obtain⟨y,ys,e,h1,h2⟩:=h
    subst e
    rw[List.reverse_cons,List.reverse_cons]
    exact ah.append (ah.rev h2) (.cons h1 .nil)
section
variable{G:Gx}{ρ:Rh}{Φ:Pd}{ta tb te:TE}{K:PySem.W.Frag}
theorem aG.rev{ts:TO}{Θ:Bool->List PyData->Prop}(h:Ev G ρ te fun f x=>∃ds,x= .list ds/\Ov G ρ ts fun o=>o=some (-1)/\Θ (f||gx ds.reverse) ds.reverse):aG G ρ (DK K te ts) Θ:=fun nb σ H Q W z=>
 h nb σ H _ W fun f v H1 d ⟨ds,e,q⟩ s1 hv=>q nb σ H1 _ (W.step s1) fun o H2 ⟨eo,q2⟩ s2=>by
  subst e
  obtain⟨a,xs,rfl,n,hx,hd⟩:=(hv.keep s2.eg).fB
  exact⟨eo,a,xs,rfl, .of hx,fun p hp=>aG.fin W (s1.trans s2) hp hd.rev q2 z⟩
theorem Ev.rev{ts:TO}(h:Ev G ρ te fun f x=>∃ds,x= .list ds/\Ov G ρ ts fun o=>o=some (-1)/\Φ (f||gx ds.reverse) (.list ds.reverse)):Ev G ρ (DK K te ts) Φ:=(aG.rev (Θ:=fun f ds=>Φ f (.list ds)) h).ev
theorem Ev.WI{ng:Bool}(h:Ev G ρ ta fun _ x=>∃k:Int,x= .int k/\Ev G ρ tb fun _ y=>∃ns:List Int,y= .list (ns.map .int)/\Φ true (.bool (decide (k∈ns) !=ng))):Ev G ρ (dN (U8 K ng) ta tb) Φ:=fun nb σ H Q W z=>
 h nb σ H _ W fun f v H1 d ⟨k,e,q⟩ s1 hv=>q nb σ H1 _ (W.step s1) fun g u H2 d2 ⟨ns,e2,p⟩ s2 hu=>by
  subst e e2
  have hk:=hv.cD
  subst hk
  obtain⟨a,xs,rfl,na,hx,hd⟩:=hu.fB
  have ex:=qV hd
  subst ex
  refine⟨a,ns.map V.int,rfl, .inl (.of hx),rfl,?_,?_⟩
  ·rw[uw]
   intro x hx
   obtain⟨o,_,rfl⟩:=bW.mp hx
   rfl
  ·have e:oJ (V.int k) (ns.map V.int)=decide (k∈ns):=by
    unfold oJ
    rw[List.any_map,mh,su,decide_eq_true_eq]
    constructor
    ·rintro⟨o,m,h⟩
     have:o=k:=eq_of_beq h
     exact this▸m
    ·intro m
     exact⟨k,m,beq_self_eq_true k⟩
   have e2:(if ng=true then !oJ (V.int k) (ns.map V.int) else oJ (V.int k) (ns.map V.int))=(decide (k∈ns) !=ng):=by
    rw[e]
    cases ng<;>simp
   rw[e2]
   exact z true _ H2 _ p (s1.trans s2) (.bl _)
end
end L2
set_option maxRecDepth 100000
set_option maxHeartbeats 1000000
namespace PC
def aH(n:Nat):Prop:=2<=n/\∀d,d∣n->d=1\/d=n
def tr(q:Nat):Nat->Nat->Bool
 |0,_=>false
 |f+1,d=>if q<d*d then true else if q%d=0 then false else tr q f (d+1)
theorem Hv{q:Nat}:∀{f d:Nat},tr q f d=true->∀e,d<=e->e*e<=q->q%e≠0
  |0,_,h=>by simp[tr] at h
  | f + 1, d, h => by
    intro e hde hee
    unfold tr at h
    by_cases h1:q<d*d
    · have:=Nat.mul_le_mul hde hde
      omega
    · rw[if_neg h1] at h
      by_cases h2:q%d=0
      · rw[if_pos h2] at h;cases h
      · rw[if_neg h2] at h
        by_cases h3:d=e
        · rw[<-h3];exact h2
        · exact Hv h e (by omega) hee
theorem EH{q:Nat}(h2:2<=q)(h:∀e,2<=e->e*e<=q->q%e≠0):aH q:=by
 refine⟨h2,fun d hd=>?_⟩
 obtain⟨e,he⟩:=hd
 by_cases d1:d=1
 ·exact .inl d1
 by_cases e1:e=1
 ·right;rw[he,e1,yr]
 exfalso
 have d0:d≠0:=fun z=>by rw[z,wD] at he;omega
 have e0:e≠0:=fun z=>by rw[z,Nat.mul_zero] at he;omega
 by_cases hle:d<=e
 ·refine h d (by omega) (by rw[he];exact Nat.mul_le_mul_left d hle) ?_
  rw[he];exact Nat.mul_mod_right d e
 ·refine h e (by omega) (by rw[he];exact Nat.mul_le_mul_right e (by omega)) ?_
  rw[he];exact Nat.mul_mod_left d e
theorem cB(f:Nat){q:Nat}(h2:2<=q)(h:tr q f 2=true):aH q:=EH h2 (Hv h)
def pw(N:Nat):Nat->Nat->Nat->Nat->Nat
 |0,_,_,acc=>acc
 |f+1,e,g,acc=>pw N f (e/2) (g*g%N) (if e%2=1 then acc*g%N else acc)
theorem Gp{N:Nat}:∀(f e g acc:Nat),e<2^f->pw N f e g acc%N=acc*g^e%N
  | 0, e, g, acc, h => by
    have:e=0:=by simp at h;exact h
    subst this
    simp[pw]
  | f + 1, e, g, acc, h => by
    have h2:e/2<2^f:=by rw[Nat.pow_succ] at h;omega
    unfold pw
    rw[Gp f _ _ _ h2]
    have e2:g^e=(g*g)^(e/2)*g^(e%2):=by
      conv=>lhs;rw[<-vX e 2]
      rw[tB,Nat.pow_mul,Nat.pow_two]
    have m1:(g*g%N)^(e/2)%N=(g*g)^(e/2)%N:=(Nat.pow_mod _ _ _).symm
    rw[e2]
    by_cases ho:e%2=1
    · rw[if_pos ho,ho,Nat.pow_one,lg,m1,yj,<-lg]
      congr 1
      rw[rS,qv g]
    · have ho':e%2=0:=by omega
      rw[if_neg ho,ho',Nat.pow_zero,yr,lg,m1,<-lg]
theorem Th{P:Nat->Prop}:∀n,P n->∃m,P m/\∀k,k<m->¬P k:=by
  intro n
  induction n using Nat.strongRecOn with
  | _ n ih =>
    intro h
    by_cases hk:∃k,k<n/\P k
    · obtain⟨k,hk1,hk2⟩:=hk
      exact ih k hk1 hk2
    · exact⟨n,h,fun k hk1 hk2=>hk ⟨k,hk1,hk2⟩⟩
theorem FQ:∀(n:Nat) (f:Nat->Nat),(∀i,i<n+1->f i<n)->∃i j,i<j/\j<n+1/\f i=f j
  |0,f,h=>absurd (h 0 (by omega)) (by omega)
  | n + 1, f, h => by
    by_cases he:∃i,i<n+1/\f i=f (n+1)
    · obtain⟨i,h1,h2⟩:=he
      exact⟨i,n+1,h1,by omega,h2⟩
    · have hne:∀i,i<n+1->f i≠f (n+1):=fun i hi e=>he ⟨i,hi,e⟩
      have sO:=h (n+1) (by omega)
      obtain⟨i,j,h1,h2,h3⟩:=FQ n (fun i=>if f i=n then f (n+1) else f i) (fun i hi=>by
        have g1:=h i (by omega)
        have g2:=hne i hi
        by_cases c:f i=n
        · simp only[c,if_true]
          have:f (n+1)≠n:=fun z=>g2 (c.trans z.symm)
          omega
        · simp only[c,if_false]
          omega)
      refine⟨i,j,h1,by omega,?_⟩
      have gi:=hne i (by omega)
      have gj:=hne j (by omega)
      by_cases ci:f i=n
      · by_cases cj:f j=n
        · rw[ci,cj]
        · simp only[ci,cj,if_true,if_false] at h3
          exact absurd h3.symm gj
      · by_cases cj:f j=n
        · simp only[ci,cj,if_true,if_false] at h3
          exact absurd h3 gi
        · simpa only[ci,cj,if_false] using h3
def jK:List (Nat×Nat)->Nat
 |[]=>1
 |qe::r=>Nat.lcm (qe.1^qe.2) (jK r)
theorem Gs{o:Nat}:∀{fs:List (Nat×Nat)},(∀qe∈fs,qe.1^qe.2∣o)->jK fs∣o
 |[],_=>⟨o,by simp[jK]⟩
 |qe::r,h=>Nat.lcm_dvd (h qe bA) (Gs fun x hx=>h x (cK _ hx))
theorem OF{q m:Nat}(hq:aH q)(h:¬q∣m):Nat.Coprime q m:=by
 rcases hq.2 _ (Nat.gcd_dvd_left q m) with e|e
 ·exact e
 ·exact absurd (e▸Nat.gcd_dvd_right q m) h
theorem Ou{q m:Nat}(h:Nat.Coprime q m)(e:Nat):Nat.Coprime (q^e) m:=Nat.Coprime.pow_left e h
theorem So(a b c d:Nat):(a%d)*(b%d)%d*(c%d)%d=a*b*c%d:=by
 rw[<-lg a b,<-lg (a*b) c]
theorem DS{N g d:Nat}{fs:List (Nat×Nat)}(hN:2<=N)(hd:d∣N)(d1:1<d)(h1:g^(N-1)%N=1%N)
  (hq:∀qe∈fs,aH qe.1/\qe.1^qe.2∣N-1/\Nat.gcd (g^((N-1)/qe.1)%N+(N-1)) N=1):jK fs<d:=by
 have down:∀{a b:Nat},a%N=b%N->a%d=b%d:=fun{a b} e=>by
  rw[<-zq a hd,e,zq b hd]
 have one:1%d=1:=Nat.mod_eq_of_lt d1
 have f1:g^(N-1)%d=1:=by rw[down h1,one]
 obtain⟨o,⟨o0,o1⟩,Ek⟩:=Th (P:=fun k=>0<k/\g^k%d=1) (N-1) ⟨by omega,f1⟩
 have per:∀q r:Nat,g^(o*q+r)%d=g^r%d:=fun q r=>by
  rw[tB,Nat.pow_mul,lg,Nat.pow_mod,o1,Nat.one_pow,one,zS,yj]
 have Rz:∀k,g^k%d=1->o∣k:=fun k hk=>by
  have e:=vX k o
  rw[<-e,per] at hk
  by_cases h0:k%o=0
  ·exact Hu h0
  ·exact absurd ⟨by omega,hk⟩ (Ek (k%o) (tZ _ o0))
 have od:=Rz _ f1
 have parts:jK fs∣o:=Gs fun qe uS=>by
  obtain⟨pq,⟨c,hc⟩,gq⟩:=hq qe uS
  obtain⟨m,hm⟩:=od
  by_cases DQ:qe.1∣m
  ·exfalso
   obtain⟨m',hm'⟩:=DQ
   have q0:0<qe.1:=by have:=pq.1;omega
   have ek:(N-1)/qe.1=o*m':=by
    rw[hm,hm',show o*(qe.1*m')=qe.1*(o*m') by rw[<-rS,qv o,rS],Nat.mul_div_cancel_left _ q0]
   have e1:g^((N-1)/qe.1)%d=1:=by
    have:=per m' 0
    rw[Nat.add_zero,Nat.pow_zero,one] at this
    rw[ek];exact this
   have e2:d∣g^((N-1)/qe.1)%N+(N-1):=by
    have e3:(g^((N-1)/qe.1)%N)%d=1:=by rw[zq _ hd];exact e1
    obtain⟨k,hk⟩:=hd
    have e4:=vX (g^((N-1)/qe.1)%N) d
    rw[e3] at e4
    refine⟨(g^((N-1)/qe.1)%N)/d+k,?_⟩
    rw[Nat.mul_add,<-hk]
    omega
   have e5:=Nat.dvd_gcd e2 hd
   rw[gq] at e5
   have:=AQ (by omega) e5
   omega
  ·have cp:=Ou (OF pq DQ) qe.2
   have L6:qe.1^qe.2∣o*m:=⟨c,by rw[<-hm];exact hc⟩
   exact cp.dvd_of_dvd_mul_right L6
 have Ni:o<d:=by
  refine Nat.lt_of_not_le fun hle=>?_
  have unit:∀i,i<=N-1->(g^i%d)*(g^(N-1-i)%d)%d=1:=fun i hi=>by
   rw[<-lg,<-tB,show i+(N-1-i)=N-1 by omega];exact f1
  have VN:o<=N-1:=AQ (by omega) od
  have pos:∀i,i<o->0<g^i%d:=fun i hi=>by
   refine Nat.pos_of_ne_zero fun z=>?_
   have:=unit i (by omega)
   rw[z,wD,Nat.zero_mod] at this
   cases this
  obtain⟨i,j,h1,h2,h3⟩:=FQ (d-1) (fun i=>g^i%d-1) (fun i hi=>by
   have a1:=pos i (by omega)
   have a2:=tZ (g^i) (show d>0 by omega)
   omega)
  have pi:=pos i (by omega)
  have pj:=pos j (by omega)
  have e:g^i%d=g^j%d:=by omega
  have ej:g^j=g^i*g^(j-i):=by rw[<-tB,show i+(j-i)=j by omega]
  have u:=unit i (by omega)
  have k1:g^(j-i)%d=1:=by
   have w:(g^i%d)*(g^(N-1-i)%d)%d*(g^(j-i)%d)%d=(g^j%d)*(g^(N-1-i)%d)%d:=by
    rw[So,<-lg (g^j),ej]
    congr 1
    rw[rS,rS,qv (g^(N-1-i))]
   rw[u,zS,yj,<-e,u] at w
   exact w
  exact Ek (j-i) (by omega) ⟨by omega,k1⟩
 exact B6 (AQ o0 parts) Ni
theorem Vg{N g:Nat}(fs:List (Nat×Nat))(hN:2<=N)(h1:g^(N-1)%N=1%N)
  (hq:∀qe∈fs,aH qe.1/\qe.1^qe.2∣N-1/\Nat.gcd (g^((N-1)/qe.1)%N+(N-1)) N=1) (hF:N<(jK fs+1)*(jK fs+1)):aH N:=by
 refine⟨hN,fun d hd=>?_⟩
 obtain⟨e,he⟩:=id hd
 by_cases d1:d=1
 ·exact .inl d1
 by_cases e1:e=1
 ·right;rw[he,e1,yr]
 exfalso
 have d0:d≠0:=fun z=>by rw[z,wD] at he;omega
 have e0:e≠0:=fun z=>by rw[z,Nat.mul_zero] at he;omega
 have b1:=DS hN hd (by omega) h1 hq
 have b2:=DS hN ⟨d,by rw[he,qv]⟩ (show 1<e by omega) h1 hq
 have:=Nat.mul_le_mul (show jK fs+1<=d from b1) (show jK fs+1<=e from b2)
 omega
def HB(N g:Nat)(fs:List (Nat×Nat)):Bool:=
 decide (2<=N) && decide (N<2^140) &&(pw N 140 (N-1) g 1%N==1) && fs.all (fun qe=>((N-1)%qe.1^qe.2==0) &&(Nat.gcd (pw N 140 ((N-1)/qe.1) g 1%N+(N-1)) N==1)) && decide (N<(jK fs+1)*(jK fs+1))
theorem cW{N:Nat}(g:Nat)(fs:List (Nat×Nat))(hp:∀qe∈fs,aH qe.1)(h:HB N g fs=true):aH N:=by
 unfold HB at h
 simp only[cP,decide_eq_true_eq,beq_iff_eq,uw] at h
 obtain⟨⟨⟨⟨h1,h2⟩,h3⟩,h4⟩,h5⟩:=h
 have P:∀e,e<=N-1->pw N 140 e g 1%N=g^e%N:=fun e he=>by
  rw[Gp 140 e g 1 (by omega),zS]
 refine Vg (g:=g) fs h1 (by rw[<-P _ (aI _),h3,Nat.mod_eq_of_lt (by omega)]) (fun qe uS=>?_) h5
 obtain⟨g1,g2⟩:=h4 qe uS
 refine⟨hp qe uS,Hu g1,?_⟩
 rw[<-P _ (Nat.div_le_self _ _)]
 exact g2
end PC
set_option maxRecDepth 100000
set_option maxHeartbeats 1000000
namespace PC
theorem zB:aH 2:=cB 4 (by decide) (by decide+kernel)
theorem SY:aH 3:=cB 4 (by decide) (by decide+kernel)
theorem Ub:aH 5:=cB 5 (by decide) (by decide+kernel)
theorem BL:aH 7:=cB 5 (by decide) (by decide+kernel)
theorem UC:aH 11:=cB 6 (by decide) (by decide+kernel)
theorem Ue:aH 101:=cB 13 (by decide) (by decide+kernel)
theorem JE:aH 10007:=cB 103 (by decide) (by decide+kernel)
theorem Rn:aH 65537:=cB 259 (by decide) (by decide+kernel)
theorem Pc:aH 1000003:=cB 1003 (by decide) (by decide+kernel)
theorem Rq:aH 17:=cB 7 (by decide) (by decide+kernel)
theorem Sw:aH 998244353:=cW 3 [(17,1),(7,1),(2,23)] (fun qe h=>by
 simp only[aK,cE,or_false] at h
 rcases h with rfl|rfl|rfl
 ·exact Rq
 ·exact BL
 ·exact zB) (by decide+kernel)
theorem JF:aH 148721:=cB 388 (by decide) (by decide+kernel)
theorem NC:aH 500000003:=cW 2 [(148721,1)] (fun qe h=>by
 simp only[aK,cE,or_false] at h
 subst h;exact JF) (by decide+kernel)
theorem Mk:aH 1000000007:=cW 2 [(500000003,1)] (fun qe h=>by
 simp only[aK,cE,or_false] at h
 subst h;exact NC) (by decide+kernel)
theorem Jx:aH 331:=cB 21 (by decide) (by decide+kernel)
theorem IM:aH 151:=cB 15 (by decide) (by decide+kernel)
theorem JZ:aH 2147483647:=cW 3 [(331,1),(151,1)] (fun qe h=>by
 simp only[aK,cE,or_false] at h
 rcases h with rfl|rfl
 ·exact Jx
 ·exact IM) (by decide+kernel)
theorem NH:aH 250049:=cB 503 (by decide) (by decide+kernel)
theorem UP:aH 26005097:=cW 2 [(250049,1)] (fun qe h=>by
 simp only[aK,cE,or_false] at h
 subst h;exact NH) (by decide+kernel)
theorem J4:aH 1000000000039:=cW 2 [(26005097,1)] (fun qe h=>by
 simp only[aK,cE,or_false] at h
 subst h;exact UP) (by decide+kernel)
theorem Sh:aH 234931:=cB 487 (by decide) (by decide+kernel)
theorem SW:aH 8740842787:=cW 2 [(234931,1)] (fun qe h=>by
 simp only[aK,cE,or_false] at h
 subst h;exact Sh) (by decide+kernel)
theorem JN:aH 52445056723:=cW 2 [(8740842787,1)] (fun qe h=>by
 simp only[aK,cE,or_false] at h
 subst h;exact SW) (by decide+kernel)
theorem Oo:aH 1000000000000000003:=cW 2 [(52445056723,1)] (fun qe h=>by
 simp only[aK,cE,or_false] at h
 subst h;exact JN) (by decide+kernel)
theorem MY:aH 15331:=cB 126 (by decide) (by decide+kernel)
theorem M6:aH 2131:=cB 49 (by decide) (by decide+kernel)
theorem KO:aH 5594472617641:=cW 2 [(15331,1),(2131,1)] (fun qe h=>by
 simp only[aK,cE,or_false] at h
 rcases h with rfl|rfl
 ·exact MY
 ·exact M6) (by decide+kernel)
theorem Uv:aH 18446744073709551557:=cW 2 [(5594472617641,1)] (fun qe h=>by
 simp only[aK,cE,or_false] at h
 subst h;exact KO) (by decide+kernel)
theorem Q9:aH 1321:=cB 39 (by decide) (by decide+kernel)
theorem MV:aH 61:=cB 10 (by decide) (by decide+kernel)
theorem Kq:aH 2305843009213693951:=cW 3 [(1321,1),(331,1),(151,1),(61,1)] (fun qe h=>by
 simp only[aK,cE,or_false] at h
 rcases h with rfl|rfl|rfl|rfl
 ·exact Q9
 ·exact Jx
 ·exact IM
 ·exact MV) (by decide+kernel)
theorem J6:aH 8707:=cB 96 (by decide) (by decide+kernel)
theorem Sg:aH 1913:=cB 46 (by decide) (by decide+kernel)
theorem JT:aH 2931542417:=cW 3 [(8707,1),(1913,1)] (fun qe h=>by
 simp only[aK,cE,or_false] at h
 rcases h with rfl|rfl
 ·exact J6
 ·exact Sg) (by decide+kernel)
theorem O8:aH 2113:=cB 48 (by decide) (by decide+kernel)
theorem NV:aH 683:=cB 29 (by decide) (by decide+kernel)
theorem RT:aH 618970019642690137449562111:=cW 3 [(2931542417,1),(2113,1),(683,1)] (fun qe h=>by
 simp only[aK,cE,or_false] at h
 rcases h with rfl|rfl|rfl
 ·exact JT
 ·exact O8
 ·exact NV) (by decide+kernel)
theorem TH:aH 1097:=cB 36 (by decide) (by decide+kernel)
theorem Nq:aH 131:=cB 14 (by decide) (by decide+kernel)
theorem Lk:aH 67254877:=cW 2 [(1097,1),(131,1)] (fun qe h=>by
 simp only[aK,cE,or_false] at h
 rcases h with rfl|rfl
 ·exact TH
 ·exact Nq) (by decide+kernel)
theorem K7:aH 28059810762433:=cW 3 [(67254877,1)] (fun qe h=>by
 simp only[aK,cE,or_false] at h
 subst h;exact Lk) (by decide+kernel)
theorem QW:aH 53:=cB 10 (by decide) (by decide+kernel)
theorem OU:aH 37:=cB 9 (by decide) (by decide+kernel)
theorem PD:aH 13:=cB 6 (by decide) (by decide+kernel)
theorem NT:aH 20394401:=cW 3 [(53,1),(37,1),(13,1)] (fun qe h=>by
 simp only[aK,cE,or_false] at h
 rcases h with rfl|rfl|rfl
 ·exact QW
 ·exact OU
 ·exact PD) (by decide+kernel)
theorem MS:aH 162259276829213363391578010288127:=cW 3 [(28059810762433,1),(20394401,1)] (fun qe h=>by
 simp only[aK,cE,or_false] at h
 rcases h with rfl|rfl
 ·exact K7
 ·exact NT) (by decide+kernel)
theorem QV:aH 699053:=cB 839 (by decide) (by decide+kernel)
theorem MP:aH 77158673929:=cW 3 [(699053,1)] (fun qe h=>by
 simp only[aK,cE,or_false] at h
 subst h;exact QV) (by decide+kernel)
theorem Pf:aH 649657:=cB 809 (by decide) (by decide+kernel)
theorem OQ:aH 92737:=cB 307 (by decide) (by decide+kernel)
theorem RP:aH 170141183460469231731687303715884105727:=cW 3 [(77158673929,1),(649657,1),(92737,1)] (fun qe h=>by
 simp only[aK,cE,or_false] at h
 rcases h with rfl|rfl|rfl
 ·exact MP
 ·exact Pf
 ·exact OQ) (by decide+kernel)
theorem Ky:aH 7963:=cB 92 (by decide) (by decide+kernel)
theorem Vl:aH 3011:=cB 57 (by decide) (by decide+kernel)
theorem Mt:aH 575438233:=cW 2 [(7963,1),(3011,1)] (fun qe h=>by
 simp only[aK,cE,or_false] at h
 rcases h with rfl|rfl
 ·exact Ky
 ·exact Vl) (by decide+kernel)
theorem Uu:aH 52316542391429:=cW 2 [(575438233,1)] (fun qe h=>by
 simp only[aK,cE,or_false] at h
 subst h;exact Mt) (by decide+kernel)
theorem US:aH 104633084782859:=cW 2 [(52316542391429,1)] (fun qe h=>by
 simp only[aK,cE,or_false] at h
 subst h;exact Uu) (by decide+kernel)
theorem Ka:aH 179:=cB 16 (by decide) (by decide+kernel)
theorem K5:aH 31:=cB 8 (by decide) (by decide+kernel)
theorem N6:aH 7935071:=cW 2 [(179,1),(31,1)] (fun qe h=>by
 simp only[aK,cE,or_false] at h
 rcases h with rfl|rfl
 ·exact Ka
 ·exact K5) (by decide+kernel)
theorem RS:aH 15870143:=cW 2 [(7935071,1)] (fun qe h=>by
 simp only[aK,cE,or_false] at h
 subst h;exact N6) (by decide+kernel)
theorem SH:aH 401321030361983486780957614729:=cW 2 [(104633084782859,1),(15870143,1)] (fun qe h=>by
 simp only[aK,cE,or_false] at h
 rcases h with rfl|rfl
 ·exact US
 ·exact RS) (by decide+kernel)
theorem RI:aH 1000000000000000000000000000000000000003:=cW 2 [(401321030361983486780957614729,1)] (fun qe h=>by
 simp only[aK,cE,or_false] at h
 subst h;exact SH) (by decide+kernel)
theorem Lw:aH 25733:=cB 163 (by decide) (by decide+kernel)
theorem KN:aH 1151:=cB 36 (by decide) (by decide+kernel)
theorem Ll:aH 4916701379:=cW 2 [(25733,1),(1151,1)] (fun qe h=>by
 simp only[aK,cE,or_false] at h
 rcases h with rfl|rfl
 ·exact Lw
 ·exact KN) (by decide+kernel)
theorem TN:aH 83:=cB 12 (by decide) (by decide+kernel)
theorem NS:aH 23:=cB 7 (by decide) (by decide+kernel)
theorem T6:aH 1676254721:=cW 5 [(83,1),(23,1),(7,3)] (fun qe h=>by
 simp only[aK,cE,or_false] at h
 rcases h with rfl|rfl|rfl
 ·exact TN
 ·exact NS
 ·exact BL) (by decide+kernel)
theorem QA:aH 149927568276670622397029177:=cW 2 [(4916701379,1),(1676254721,1)] (fun qe h=>by
 simp only[aK,cE,or_false] at h
 rcases h with rfl|rfl
 ·exact Ll
 ·exact T6) (by decide+kernel)
theorem U1:aH 9999999999999999999999999999999999999983:=cW 2 [(149927568276670622397029177,1)] (fun qe h=>by
 simp only[aK,cE,or_false] at h
 subst h;exact QA) (by decide+kernel)
end PC
namespace L2
open PC
def fO(p:Int):Prop:=2<=p/\∀d:Int,0<d->d∣p->d=1\/d=p
theorem eW{n:Nat}(h:aH n):fO (n:Int):=by
 refine⟨by have:=h.1;omega,fun d d0 hd=>?_⟩
 obtain⟨k,rfl⟩:=z4 (Int.le_of_lt d0)
 rcases h.2 k (Int.natCast_dvd_natCast.mp hd) with e|e
 ·left;rw[e];rfl
 ·right;rw[e]
theorem JA{p:Int}(h2:2<=p)(h:vH p):fO p:=by
 obtain⟨n,rfl⟩:=z4 (show 0<=p by omega)
 refine eW (EH (by omega) fun e e1 e2 e3=>?_)
 refine h (e:Int) (by omega) (by rw[<-Int.natCast_mul];exact Int.ofNat_le.mpr e2) ?_
 have:=congrArg (Nat.cast:Nat->Int) e3
 simpa using this
theorem TR:∀p∈uo,fO p:=by
 intro p hp
 simp only[uo,aK,cE,or_false] at hp
 rcases hp with rfl|rfl|rfl|rfl|rfl|rfl|rfl|rfl|rfl|rfl|rfl|rfl|rfl|rfl|rfl|rfl|rfl|rfl|rfl|rfl|rfl|rfl
 ·exact eW zB
 ·exact eW SY
 ·exact eW Ub
 ·exact eW BL
 ·exact eW zB
 ·exact eW UC
 ·exact eW Ue
 ·exact eW JE
 ·exact eW Rn
 ·exact eW Pc
 ·exact eW Sw
 ·exact eW Mk
 ·exact eW JZ
 ·exact eW J4
 ·exact eW Oo
 ·exact eW Uv
 ·exact eW Kq
 ·exact eW RT
 ·exact eW MS
 ·exact eW RP
 ·exact eW RI
 ·exact eW U1
def zN:Sp:=fun vs H Q _=>∃p b:Int,vs=[.int p, .int b]/\fO p/\p<10^40/\b%p≠0/\∀u:Int,0<=u->u<p->(∃k,u*b=1+p*k)->Q (.int u) H
end L2
set_option maxRecDepth 100000
set_option maxHeartbeats 4000000
namespace L2
open PySem PySem.Spec PyProof.Rows
theorem O7{p a b:Int}(hp:fO p)(h:p∣a*b)(ha:¬p∣a):p∣b:=by
 have p2:=hp.1
 have g1:((Int.gcd a p:Nat):Int)∣p:=Int.gcd_dvd_right ..
 have g2:((Int.gcd a p:Nat):Int)∣a:=Int.gcd_dvd_left ..
 have g0:0<((Int.gcd a p:Nat):Int):=by
  have:Int.gcd a p≠0:=fun z=>by have:=(Jj.mp z).2;omega
  omega
 rcases hp.2 _ g0 g1 with e|e
 ·have c:Nat.Coprime p.natAbs a.natAbs:=by
   show Nat.gcd p.natAbs a.natAbs=1
   have:Int.gcd a p=1:=by omega
   rw[Nat.gcd_comm];exact this
  have h':p.natAbs∣b.natAbs*a.natAbs:=by rw[qv,<-Int.natAbs_mul];exact Dm.mpr h
  exact Dm.mp (c.dvd_of_dvd_mul_right h')
 ·rw[e] at g2;exact absurd g2 ha
theorem JX{p a b:Int}(ha:0<=a)(ha':a<p)(hb:0<=b)(hb':b<p)(h:p∣a-b):a=b:=by
 obtain⟨k,e⟩:=h
 rcases Int.lt_trichotomy k 0 with z|z|z
 ·have:p*k<=p*(-1):=rM (by omega) (by omega)
  omega
 ·subst z;omega
 ·have:p*1<=p*k:=rM (by omega) (by omega)
  omega
end L2
set_option maxRecDepth 100000
set_option maxHeartbeats 4000000
namespace L2
open PySem PySem.Spec PyProof.Rows
section
variable{X:Cx}{pins:List (Addr×Obj)}{σ:List (Option V)}{H:Hp}{s:Shared}{h':Heap}
theorem Inv.LA{t':Nat}{e it T:Addr}{o:HO}(I:Inv X pins σ H s)(k:∀b u,b≠e->b≠it->s.heap.get? b=some u->h'.get? b=some u)(fe:iS X pins H e)(fi:iS X pins H it)(hT:s.heap.objs.size<=T)(j8:T≠e)(Bu:T≠it)
  (le:∃u,s.heap.get? e=some u) (li:∃u,s.heap.get? it=some u) (new:bT X.prog X.w (upd H T o) h' T o):Inv X pins σ (upd H T o) {s with heap:=h',toks:=t'}:=by
 have hn:=I.hok.fresh hT
 obtain⟨e0,e1,e2,e3,e4,e5⟩:=fe
 obtain⟨i0,i1,i2,i3,i4,i5⟩:=fi
 have ne:∀b u,H b=some u->b≠e:=fun b u q z=>by rw[z,e0] at q;cases q
 have ni:∀b u,H b=some u->b≠it:=fun b u q z=>by rw[z,i0] at q;cases q
 have nT:∀b u,H b=some u->b≠T:=fun b u q z=>by rw[z,hn] at q;cases q
 refine I.step (g':=s.gens) (d':=s.drawn) (ch:=[e,it]) (fun b hb=>?_) (fun b o _ _ hc q _=>k b o (fun z=>hc (by simp[z])) (fun z=>hc (by simp[z])) q) (fun b o _ _ hc q _=>⟨o.slots,k b o (fun z=>hc (by simp[z])) (fun z=>hc (by simp[z])) q⟩)
  (fun b o hc q n=>?_) (fun b o hc q=>⟨o,k b o (fun z=>hc (by simp[z])) (fun z=>hc (by simp[z])) q⟩) (fun b xs q=>by rw[az (nT b _ q)];exact q) (fun b o u q=>by rw[az (nT b _ q)];exact q) (fun b ps q=>⟨#[],by rw[az (nT b _ q),q];simp⟩) (fun m hm=>?_) (fun b u q=>?_) I.bare
 ·rcases(show b=e\/b=it by simpa using hb) with z|z
  ·subst z;exact⟨e3,e1,e4,e5⟩
  ·subst z;exact⟨i3,i1,i4,i5⟩
 ·rw[az (fun z=>absurd (eE (bC q) (by rw[z];exact hT)) (jo _))];exact n
 ·obtain⟨o,es,ep,ho,r⟩:=hm
  exact⟨o,es,ep,k _ o (bM e1) (bM i1) ho,r⟩
 ·by_cases hb:b=T
  ·subst hb;rw[aY] at q;cases q;exact new
  ·rw[az hb] at q
   refine(I.hok b u q).stay (fun c v hc z=>?_) (fun c z=>by rw[az (nT c _ z)];exact z) fun c xs z=>by rw[az (nT c _ z)];exact z
   rcases hc with y|y
   ·subst y;exact k _ v (ne _ u q) (ni _ u q) z
   ·exact k c v (ne c _ y) (ni c _ y) z
theorem Inv.QF{t':Nat}{e it:Addr}(I:Inv X pins σ H s)(k:∀b u,b≠e->b≠it->s.heap.get? b=some u->h'.get? b=some u)(fe:iS X pins H e)(fi:iS X pins H it):Inv X pins σ H {s with heap:=h',toks:=t'}:=by
 obtain⟨e0,e1,e2,e3,e4,e5⟩:=fe
 obtain⟨i0,i1,i2,i3,i4,i5⟩:=fi
 have ne:∀b u,H b=some u->b≠e:=fun b u q z=>by rw[z,e0] at q;cases q
 have ni:∀b u,H b=some u->b≠it:=fun b u q z=>by rw[z,i0] at q;cases q
 refine I.step (g':=s.gens) (d':=s.drawn) (ch:=[e,it]) (fun b hb=>?_) (fun b o _ _ hc q _=>k b o (fun z=>hc (by simp[z])) (fun z=>hc (by simp[z])) q) (fun b o _ _ hc q _=>⟨o.slots,k b o (fun z=>hc (by simp[z])) (fun z=>hc (by simp[z])) q⟩)
  (fun _ _ _ _ n=>n) (fun b o hc q=>⟨o,k b o (fun z=>hc (by simp[z])) (fun z=>hc (by simp[z])) q⟩) (fun _ _ q=>q) (fun _ _ _ q=>q) (fun b ps q=>⟨#[],by rw[q];simp⟩) (fun m hm=>?_) (fun b u q=>?_) I.bare
 ·rcases(show b=e\/b=it by simpa using hb) with z|z
  ·subst z;exact⟨e3,e1,e4,e5⟩
  ·subst z;exact⟨i3,i1,i4,i5⟩
 ·obtain⟨o,es,ep,ho,r⟩:=hm
  exact⟨o,es,ep,k _ o (bM e1) (bM i1) ho,r⟩
 ·refine(I.hok b u q).stay (fun c v hc z=>?_) (fun c z=>z) fun c xs z=>z
  rcases hc with y|y
  ·subst y;exact k _ v (ne _ u q) (ni _ u q) z
  ·exact k c v (ne c _ y) (ni c _ y) z
end
def Cf(K:PySem.W.Frag)(a:Addr):It:=
 ⟨fun i H=>∃xs x,aW K H a xs/\xs[i]?=some x,fun i H x H'=>∃p y,x= .ref p/\H p=none/\(∀xs,aW K H a xs->xs[i]?=some y)/\H'=upd H p (.tup [.int i,y]),fun i H=>∃xs,aW K H a xs/\xs.length=i⟩
theorem Pp{P:Program}{w:World}{K:PySem.W.Frag}{elts:List Expr}{k:Nat}{pos:Pos}(a e it:Addr)(hei:e≠it):
  Turn P w K (.Tuple elts k pos) (Cf K a) [e,it] e (fun i h=>(∃old,IsEnum h e it i old)/\h.IsListIter it a i) where
 mem:=by simp
 obj:=fun i h st b hb=>by
  obtain⟨⟨old,s1⟩,⟨o,e1,c,d⟩⟩:=st
  rcases(show b=e\/b=it by simpa using hb) with z|z
  ·subst z
   exact⟨_,s1,fun v z=>by
    have z':Data.fields _=Data.cell v:=z
    cases z'⟩
  ·subst z
   exact⟨o,e1,fun v z=>by rw[d] at z;cases z⟩
 keep:=fun i h h' st k=>⟨let ⟨old,s1⟩:=st.1;⟨old,k e (by simp) _ s1⟩,st.2.at fun o q=>k it (by simp) o q⟩
 item:=by
  intro X hP hw hK hc i pins s σ H E I hf st hg
  subst hP hw hK
  obtain⟨xs,x,hq,hx⟩:=hg
  obtain⟨its,rv,p,hz⟩:=I.list hq
  obtain⟨u,hu,ru⟩:=rv.get hx
  have fe:=hf e (by simp)
  have fi:=hf it (by simp)
  obtain⟨⟨old,s1⟩,s2⟩:=st
  obtain⟨ol,l1,l2,l3⟩:=id p.isList
  obtain⟨oi,i1,i2,i3⟩:=id s2
  have AE:a≠e:=fun z=>by
   subst z
   rw[s1] at l1;cases l1
   exact absurd l2 (by simp)
  have hai:a≠it:=fun z=>by
   subst z
   rw[i1] at l1;cases l1
   rw[i2] at l2
   exact absurd l2 (by simp)
  have W:=WalksT.enumerate (prog:=X.prog) (w:=X.w) (I.ok.hd hc) e it a hei AE hai its.toArray
  have hi:i<its.toArray.size:=by
   have:=(bQ.mp hu).1
   simpa using this
  refine W.item i s _ _ hi ⟨⟨old,s1⟩,s2,p.isList⟩ fun T vals h' tk hv hT Rb Ar kp=>⟨.ref T,rfl,?_⟩
  refine W.go elts k pos i T _ _ _ Ar fun h'' st' CW=>?_
  obtain⟨t,x',hx',QJ⟩:=hv
  have OX:x'=u:=by
   have:its.toArray[i]?=some u:=by simpa using hu
   rw[hx'] at this;exact gn this
  subst OX QJ
  have O0:=W.apart i T h' Ar
  obtain⟨_,_,_,j8,Bu⟩:=Ar
  obtain⟨oT,t1,t2,nT,t3⟩:=Rb
  have t1':=CW T oT O0 t1
  refine⟨.ref T,upd H T (.tup [.int i,x]),I.LA (fun b v h1 h2 q=>CW b v (by simp[h1,h2]) (kp b v (by simp[h1,h2]) q)) fe fi hT j8 Bu ⟨_,s1⟩ ⟨_,i1⟩ ?_,rfl,⟨T,x,rfl,I.hok.fresh hT,fun ys hy=>by rw[I.Hr hy hq];exact hx,rfl⟩,⟨st'.1,st'.2.1⟩,fun b hb=>?_⟩
  ·exact⟨by show 2<=sizeLine;decide,[.int i t,x'], .cons ⟨t,rfl⟩ (.cons ru .nil),oT,t1',t2,nT,t3⟩
  ·rw[az,(hf b hb).1]
   rcases(show b=e\/b=it by simpa using hb) with z|z
   ·rw[z];exact bM j8
   ·rw[z];exact bM Bu
 done:=by
  intro X hP hw hK hc i pins s σ H E I hf st hg
  subst hP hw hK
  obtain⟨xs,hq,hx⟩:=hg
  obtain⟨its,rv,p,hz⟩:=I.list hq
  have fe:=hf e (by simp)
  have fi:=hf it (by simp)
  obtain⟨⟨old,s1⟩,s2⟩:=st
  obtain⟨ol,l1,l2,l3⟩:=id p.isList
  obtain⟨oi,i1,i2,i3⟩:=id s2
  have hl:=rv.length
  have AE:a≠e:=fun z=>by
   subst z
   rw[s1] at l1;cases l1
   exact absurd l2 (by simp)
  have hai:a≠it:=fun z=>by
   subst z
   rw[i1] at l1;cases l1
   rw[i2] at l2
   exact absurd l2 (by simp)
  have W:=WalksT.enumerate (prog:=X.prog) (w:=X.w) (I.ok.hd hc) e it a hei AE hai its.toArray
  have hn:its.toArray.size=i:=by rw[dO];omega
  refine W.done s _ _ (by rw[hn];exact⟨⟨old,s1⟩,s2,p.isList⟩) fun h' tk kp=>⟨rfl,?_⟩
  exact I.QF (fun b v h1 h2 q=>kp b v (by simp[h1,h2]) q) fe fi
 self:=fun _ _ _ _ _ st h=>let ⟨old,s1⟩:=st.1;wpAny_pyIter_enum s1 h
def EF(K:PySem.W.Frag)(tl:TE):TI:=fun σ H R=>tl σ H fun x H1=>∃a,x= .ref a/\(∃xs,aW K H1 a xs)/\R (Cf K a) H1
theorem vY{X:Cx}{K:PySem.W.Frag}{elts:List Expr}{k:Nat}{tpos:Pos}{l:Expr}{tl:TE}{p pos:Pos}(hK:X.K=K)(hg:Gl X "enumerate")(hm:X.mg "enumerate"=none)(hl:PE X l tl)(hs:starEach [l] X.env=[(false,eval l X.env)]:=by rfl):
    PI X (.Tuple elts k tpos) (.Call (.Name "enumerate" p) [l] [] pos) (EF K tl):=by
  subst hK
  intro pins s σ H R I h
  have ha:PA X [l] (bJ tl cF):=aa hl af (by rw[hs];rfl)
  refine Call_ (oM I hg hm boot_enumerate (vE (aT (ha pos pins s σ H (fun vs H1=>match vs with|[x]=>∃a,x= .ref a/\(∃xs,aW X.K H1 a xs)/\R (Cf X.K a) H1|_=>False) I h) fun us s1 ⟨vs,H1,I1,r1,q1⟩=>?_) hs rfl))
  cases r1 with
  |nil=>exact q1.elim
  | cons r rr =>
    cases rr with
    |cons _ _=>exact q1.elim
    |nil=>
    obtain⟨a,e2,⟨xs,hq⟩,q⟩:=q1
    subst e2
    cases r
    obtain⟨its,rv,p,hz⟩:=I1.list hq
    obtain⟨m,hn,_⟩:=I1.loc
    refine enum_rows (h₀:={objs:= #[]}) (L:=X.env.locals) (m:=m) ⟨hn,fun b o z=>?_,dW _⟩ p.isList fun h' e1 e2 e3 e4 kp ne n1 n2 _ _=>?_
    · cases z
    refine wpAny_pyIter_enum e1 ?_
    have I2:Inv X pins σ H1 {s1 with heap:=h'}:=I1.kept (t':=s1.toks) kp
    refine⟨s1.heap.objs.size+1,[s1.heap.objs.size+1,s1.heap.objs.size],_,_,H1,rfl,I2,Pp a _ _ ne,⟨⟨_,e1⟩,e2⟩,fun b hb=>?_,q⟩
    rcases(show b=s1.heap.objs.size+1\/b=s1.heap.objs.size by simpa using hb) with z|z
    · subst z;exact I1.pY (rK _) (I1.hok.fresh (rK _))
    · subst z;exact I1.pY (aI _) (I1.hok.fresh (aI _))
end L2
set_option maxRecDepth 100000
set_option maxHeartbeats 4000000
namespace L2
open PySem PySem.Spec PyProof.Rows
section
variable{G:Gx}{ρ cZ:Rh}{te:TE}{s:TS}{gt:TG}{E:DE}{K:PySem.W.Frag}{Θ:Bool->List PyData->Prop}{tc:TT}{mp:List (Option Nat)}
theorem Sv.AG(h:Ev G ρ te fun f x=>∃ds,x= .list ds/\∀v,oq (G.hd f (.list ds) v) ρ ds.length (fun i d=>∃e,ds[i]?=some e/\d= .tuple [.int i,e]) f gt s E):Sv G ρ (pP (EF K te) gt s) E:=fun nb σ H D W KK=>
 h nb σ H _ W fun f v H1 x ⟨ds,ex,q⟩ s1 hv=>by
  subst ex
  obtain⟨I,h0,ht,he⟩:=q v
  have W1:=(W.step s1).hd hv
  obtain⟨a,xs,rfl,n,hx,hd⟩:=hv.fB
  have key:∀{nb ρ' σ H},Wd (G.hd f (.list ds) (.ref a)) nb ρ' σ H->∃xs,H a=some (.lst xs)/\ah (G.S nb f) H ds xs:=fun W=>by
   obtain⟨a',xs',e',_,h',d'⟩:=W.gW.2.fB
   cases e'
   exact⟨xs',h',d'⟩
  refine⟨a,rfl,⟨xs, .of hx⟩,?_⟩
  refine⟨fun i m σ H=>m=ds.length-i/\i<=ds.length/\∃nb ρ',I i ρ'/\Wd (G.hd f (.list ds) (.ref a)) nb ρ' σ H,⟨ds.length,by simp,dW _,nb,ρ,h0,W1⟩,?_⟩
  rintro i m σ H ⟨rfl,hi,nb,ρ',hI,W⟩
  obtain⟨ys,hy,hD⟩:=key W
  have hl:=hD.length
  by_cases hlt:i<ds.length
  ·refine .inr ⟨⟨ys,ys[i]'(by omega), .of hy,aQ _⟩,fun σ H=>∃nb ρ',I (i+1) ρ'/\Wd (G.hd f (.list ds) (.ref a)) nb ρ' σ H,fun σ' H' q=>⟨ds.length-(i+1),by omega,rfl,hlt,q⟩,fun x H' y=>?_⟩
   obtain⟨p,y,e,hn,hz,e2⟩:=y
   subst e e2
   have hx:=hz ys (.of hy)
   obtain⟨x',hx',dx⟩:=hD.get (aQ hlt)
   rw[hx] at hx';cases hx'
   have st:Step (G.hd f (.list ds) (.ref a)).B H (upd H p (.tup [.int i,y])):= .same W.aA (dI hn)
   refine ht i _ ρ' ⟨_,aQ hlt,rfl⟩ hI nb σ _ _ _ (W.step st) (.tup (W.fresh hn) aY (.cons (.int _) (.cons (dx.keep st.eg) .nil))) fun σ2 gh q W2=>q nb σ2 _ _ W2 ?_
   exact⟨fun nb ρ σ H q W=>⟨nb,ρ,q,W⟩,fun nb ρ σ H q W=>KK.nx nb ρ σ H q W.gW.1,fun nb ρ σ H q W=>⟨nb,ρ,q,W⟩,fun nb ρ σ f v H d q W hv=>KK.rt nb ρ σ f v H d q W.gW.1 hv,fun nb ρ σ v H q W=>KK.rw nb ρ σ v H q W.gW.1⟩
  ·have e:i=ds.length:=by omega
   subst e
   exact .inl ⟨⟨ys, .of hy,by omega⟩,KK.nx nb ρ' σ H (he ρ' hI) W.gW.1⟩
end
end L2
set_option maxRecDepth 100000
set_option maxHeartbeats 4000000
namespace L2
open PySem PySem.Spec PyProof.Rows
section
variable{G:Gx}{ρ:Rh}{Φ:Pd}{te:TE}{t:TA}{i n:Nat}{f:Bool}{ds:List PyData}{Θ:List PyData->Prop}
theorem Ev.tupS(h:Av G ρ t fun es=>es.length<=10000/\Φ (iM es||gx (es.map (·.2))) (.tuple (es.map (·.2)))):Ev G ρ (oF t) Φ:=fun nb σ H Q W z=>
 h nb σ H _ W fun es vs H1 ⟨hl,p⟩ s1 q1=>⟨ez (by rw[q1.len];exact hl) (by decide),fun a ha=>z _ _ _ _ p (s1.trans (.same (W.step s1).aA (dI ha))) (by
  cases hs:gx (es.map (·.2)) with
  |true=>rw[rj];exact .tup ((W.step s1).fresh ha) aY ((q1.all (f:=false) fun z=>by cases z).kZ hs)
  |false=>rw[nL];exact .tup ((W.step s1).fresh ha) aY ((q1.all fun z=>z).keep (bh.of (dI ha))))⟩
theorem Ev.UX(h:Ev G ρ te fun _ x=>∃n:Int,x= .int n/\2<=n/\n<=10002/\∀r:Int,fO r->r<10^40->Φ true (.int r)):Ev G ρ (i9 Ab [] E0 (bJ te cF)) Φ:=fun nb σ H Q W z=>
 h nb σ H _ W fun f v H1 d ⟨n,e,h1,h2,p⟩ s1 hv=>by
  subst e
  exact⟨n,by rw[hv.cD];rfl,h1,h2,fun r H' sm r1 r2 r3=>z true _ H' _ (p r (JA r1 r3) (by omega)) (s1.trans (.same (W.step s1).aA sm)) (.int r)⟩
theorem Ev.str{x:Str}(h:Φ true (.str x)):Ev G ρ (tC (.str x)) Φ:=fun nb σ H Q W z=>z true _ H _ h (.refl W.aA) (by unfold aj;rfl)
end
theorem Eu.fin{p b L lt t:Int}(h:Eu p b L lt 0 t)(hp:fO p)(hb:b%p≠0):∃k,lt%p*b=1+p*k:=by
 obtain⟨g1,g2⟩:=h.dv L (Int.dvd_refl L) (Int.dvd_zero L)
 have m1:=gJ b (show p≠0 by have:=hp.1;omega)
 have m2:=gy b (show 0<p by have:=hp.1;omega)
 have hL:L=1:=by
  rcases hp.2 L h.l0 g1 with e|e
  ·exact e
  ·exfalso
   rw[e] at g2
   have:=Int.le_of_dvd (by omega) g2
   omega
 obtain⟨k,hk⟩:=h.lc
 have e:=rY lt p
 refine⟨-k-lt/p*b,?_⟩
 have e2:lt%p=lt-p*(lt/p):=by omega
 rw[e2,Int.sub_mul,qh,Int.mul_neg,qG]
 omega
noncomputable def sol(p b a:Int):Int:=open Classical in if h:∃x,0<=x/\x<p/\∃k,b*x-a=p*k then Classical.choose h else 0
theorem EJ{p b a x:Int}(hp:fO p)(hb:b%p≠0)(h0:0<=x)(h1:x<p)(hx:∃k,b*x-a=p*k):x=sol p b a:=by
 have ex:∃x,0<=x/\x<p/\∃k,b*x-a=p*k:=⟨x,h0,h1,hx⟩
 unfold sol
 rw[dif_pos ex]
 obtain⟨g0,g1,k',hk'⟩:=qF ex
 generalize Classical.choose ex=y at*
 obtain⟨k,hk⟩:=hx
 refine JX h0 h1 g0 g1 (O7 hp (a:=b) ⟨k-k',?_⟩ fun z=>hb (zj z))
 rw[qh,qh];omega
theorem vJ{p b a:Int}(hp:0<p):0<=sol p b a/\sol p b a<p:=by
 unfold sol
 split
 ·rename_i h
  obtain⟨g0,g1,_⟩:=qF h
  exact⟨g0,g1⟩
 ·omega
theorem MR{X:Cx}{K:PySem.W.Frag}{tg l:Expr}{tl:TE}(hK:X.K=K)(hl:PE X l tl):PI X tg l (qa K tl):=by subst hK;exact fy hl
theorem Vs{env:Env}{n:Str}{l:List (Str×NameKind)}:(List.lookup n l=some .cell\/List.lookup n l=some .free)->
    (List.lookup n (l.map fun x => match x with | (n, k) => if (k == NameKind.free && env.scope.kind == ScopeKind.function && env.kindOf n == some NameKind.cell) = true then (n, NameKind.cell) else (n, k)) = some .cell \/
     List.lookup n (l.map fun x=>match x with|(n,k)=>if(k==NameKind.free && env.scope.kind==ScopeKind.function && env.kindOf n==some NameKind.cell)=true then(n,NameKind.cell) else(n,k))=some .free):=by
  induction l with
  |nil=>intro h;simpa using h
  | cons a r ih =>
    obtain⟨m,k⟩:=a
    intro h
    rw[bR]
    by_cases c:n=m
    · subst c
      rw[AX] at h
      dsimp only
      split
      · rw[AX];exact .inl rfl
      · rw[AX];exact h
    · have hb:(n==m)=false:=by simpa using c
      have e1:List.lookup n ((m,k)::r)=List.lookup n r:=by rw[fZ,hb]
      rw[e1] at h
      dsimp only
      split
      · rw[fZ,hb];exact ih h
      · rw[fZ,hb];exact ih h
theorem cQ.rel{sx:Scope}{env:Env}{NX:List Str}{scope:Scope}{N:List Str}{mp:List (Option Nat)}(h:cQ sx NX scope N mp):cQ (relabel sx env) NX scope N mp:=
 ⟨h.kind,h.cell,h.names,fun y hy e=>Vs (h.free y hy e),h.len,h.look⟩
theorem Pe{X:Cx}{scope:Scope}{C:Addr}{N:List Str}{s₀:Shared}{H₀:Hp}{fp:List Addr}{elt iter tg:Expr}{ifs:List Expr}{qz:Scope}{pos:Pos}{N2:List Str}{mp:List (Option Nat)}{wi:TI}{g:TG}{tc:TT}{te:TE}
  (ok:cQ scope N qz N2 mp) (hi:PI (eX X scope C N s₀ H₀ fp) tg iter wi)
  (hb:∀C' s₀' H₀' fp',PG (eX (eX X scope C N s₀ H₀ fp) qz C' N2 s₀' H₀' fp') tg g/\pF (eX (eX X scope C N s₀ H₀ fp) qz C' N2 s₀' H₀' fp') ifs tc/\PE (eX (eX X scope C N s₀ H₀ fp) qz C' N2 s₀' H₀' fp') elt te) (hc:X.calm=true:=by rfl)
  (hs:∀x,foldedSetIterable iter (eX X scope C N s₀ H₀ fp).env x=pure x:=by intro _;rfl):PE (eX X scope C N s₀ H₀ fp) (.ListComp elt [⟨tg,iter,ifs,0⟩] qz pos) (lO wi g tc te mp):=
 fV (X:=eX X scope C N s₀ H₀ fp) (cQ.rel ok) hi hb hc hs
end L2
set_option maxRecDepth 100000
set_option maxHeartbeats 4000000
namespace L2
open PySem PySem.Spec PyProof.Rows
section
variable{G:Gx}{ρ:Rh}{Φ:Pd}{ta tb te:TE}{E:DE}{K:PySem.W.Frag}
theorem Ev.Wg{tl th:TO}(h:Ev G ρ te fun f x=>∃ds,x= .tuple ds/\Ov G ρ tl fun lo=>Ov G ρ th fun hi=>¬(HT.dS ds.length 0 lo=0/\HT.dS ds.length ds.length hi=ds.length)/\Φ f (.tuple (eZ ds lo hi))):Ev G ρ (rE (M9 K) te tl th) Φ:=fun nb σ H Q W z=>
 h nb σ H _ W fun f v H1 d ⟨ds,e,q⟩ s1 hv=>q nb σ H1 _ (W.step s1) fun lo H2 q2 s2=>q2 nb σ H2 _ ((W.step s1).step s2) fun hi H3 ⟨hn,q3⟩ s3=>by
  subst e
  obtain⟨a,xs,rfl,n,hx,hd⟩:=((hv.keep s2.eg).keep s3.eg).ofT
  have W3:=((W.step s1).step s2).step s3
  refine⟨a,xs,rfl, .of hx,by rw[hd.length];exact hn,fun p hp=>?_⟩
  exact z f _ _ _ q3 (s1.trans (s2.trans (s3.trans (.same W3.aA (dI hp))))) (.tup (W3.fresh hp) aY (hd.cut.keep (bh.of (dI hp))))
theorem Ev.VQ(h:Ev G ρ ta fun f x=>∃ds,x= .tuple ds/\ds≠[]/\Ev G ρ tb fun g y=>∃es,y= .tuple es/\es≠[]/\ds.length+es.length<=10000/\Φ (f && g) (.tuple (ds++es))):Ev G ρ (dN (Ux K) ta tb) Φ:=fun nb σ H Q W z=>
 h nb σ H _ W fun f v H1 d ⟨ds,e,hne,q⟩ s1 hv=>q nb σ H1 _ (W.step s1) fun g u H2 d2 ⟨es,e2,wF,hl,p⟩ s2 hu=>by
  subst e e2
  obtain⟨a,xs,rfl,n,hx,hd⟩:=(hv.keep s2.eg).ofT
  obtain⟨c,ys,rfl,m,hy,hc⟩:=hu.ofT
  have W2:=(W.step s1).step s2
  have mY:=hd.length
  have hyl:=hc.length
  refine⟨a,c,xs,ys,rfl,rfl, .of hx, .of hy,fun z=>hne (oA.mp (by rw[<-mY,z];rfl)),ez (by rw[mY,hyl];exact hl) (by decide),fun z=>absurd (oA.mp (by rw[<-hyl,z];rfl)) wF,fun _ q hq=>?_⟩
  refine z (f && g) _ _ _ p (s1.trans (s2.trans (.same W2.aA (dI hq)))) (.tup (W2.fresh hq) aY ?_)
  exact(ah.append (hd.av (bI (fun z=>(cP _ _▸z).1) fun _ z=>z)) (hc.av (bI (fun z=>(cP _ _▸z).2) fun _ z=>z))).keep (bh.of (dI hq))
end
end L2
set_option maxRecDepth 100000
set_option maxHeartbeats 4000000
namespace L2
open PySem PySem.Spec PyProof.Rows
def vo(es:List Fd):Bool:=es.all fun e=>e.1||ji e.2
section
variable{G:Gx}{ρ:Rh}{Φ:Pd}{t:TA}{te:TE}
theorem ki.Ex{nb:Addr->Prop}{H:Hp}:∀{es:List Fd} {vs:List V} {f:Bool},ki G nb H es vs->(f=true->vo es=true)->ah (G.S nb f) H (es.map (·.2)) vs
  |[],_,_,h,_=>by unfold ki at h;subst h;exact .nil
  | e :: es, _, f, h, hf => by
    obtain⟨v,ws,rfl,h1,h2⟩:=h
    have hh:f=true->(e.1||ji e.2)=true/\vo es=true:=fun z=>by
      have:=hf z
      unfold vo at this
      rw[oU,cP] at this
      exact this
    refine .cons ?_ (h2.Ex fun z=>(hh z).2)
    cases hs:ji e.2 with
    |true=>exact h1.kZ hs
    |false=>exact h1.av (bI (fun z=>by have:=(hh z).1;rw[hs,nL] at this;exact this) fun _ z=>z)
theorem Ev.LM(h:Av G ρ t fun es=>es.length<=10000/\Φ (vo es) (.tuple (es.map (·.2)))):Ev G ρ (oF t) Φ:=fun nb σ H Q W z=>
 h nb σ H _ W fun es vs H1 ⟨hl,p⟩ s1 q1=>⟨ez (by rw[q1.len];exact hl) (by decide),fun a ha=>z _ _ _ _ p (s1.trans (.same (W.step s1).aA (dI ha)))
  (.tup ((W.step s1).fresh ha) aY ((q1.Ex fun z=>z).keep (bh.of (dI ha))))⟩
end
def VH:R2:=fun x y H Q=>∃a b:Bool,x= .bl a/\y= .bl b/\Q (.bl (!(a==b))) H
theorem Ev.VZ{G:Gx}{ρ:Rh}{ta:TE}{b:Bool}{Φ:Pd}(h:Ev G ρ ta fun _ x=>∃a,x= .bool a/\Φ true (.bool (!(a==b)))):Ev G ρ (dN VH ta (tC (.bl b))) Φ:=fun nb σ H Q W z=>
 h nb σ H _ W fun f v H1 d ⟨a,e,q⟩ s1 hv=>by
  subst e
  unfold aj at hv
  subst hv
  exact⟨a,b,rfl,rfl,z true _ H1 _ q s1 (.bl _)⟩
abbrev bO(r:List Int):PyData:= .list (r.map .int)
end L2
set_option maxRecDepth 100000
set_option maxHeartbeats 4000000
set_option maxRecDepth 100000
namespace L2
open PySem PySem.Spec PyProof.Rows
section
variable{κ:Type}[DecidableEq κ]
def fL(kvs:List (κ×V))(k:κ):Option V:=(kvs.find? fun kv=>decide (kv.1=k)).map (·.2)
def putK(kvs:List (κ×V))(k:κ)(v:V):List (κ×V):=
 if(kvs.any fun kv=>decide (kv.1=k))=true then kvs.map (fun kv=>if kv.1=k then(kv.1,v) else kv) else kvs++[(k,v)]
theorem VG{k:κ}:fL ([]:List (κ×V)) k=none:=rfl
theorem qK{p:κ×V}{r:List (κ×V)}{k:κ}(e:p.1=k):fL (p::r) k=some p.2:=by simp[fL,ko,e]
theorem p8{p:κ×V}{r:List (κ×V)}{k:κ}(e:¬p.1=k):fL (p::r) k=fL r k:=by simp[fL,ko,e]
theorem BJ(k:κ):∀kvs:List (κ×V),(kvs.any fun kv=>decide (kv.1=k))=(fL kvs k).isSome
  |[]=>rfl
  | p :: r => by
    rw[mZ]
    by_cases e:p.1=k
    · simp only[qK e,decide_eq_true e,Bool.true_or,Option.isSome_some]
    · rw[p8 e,decide_eq_false e,rT];exact BJ k r
theorem Iq(kvs:List (κ×V))(k:κ)(v:V):(putK kvs k v).length<=kvs.length+1:=by
 unfold putK
 split
 ·rw[ak];omega
 ·rw[bP,fM,List.length_nil];omega
theorem Mq{kvs:List (κ×V)}{k:κ}(v:V)(h:fL kvs k=none):putK kvs k v=kvs++[(k,v)]:=by
 unfold putK
 rw[BJ,h]
 exact if_neg (by decide)
theorem jC.Gb{o:Option V}{u:Option Value}(r:jC o u):o.isSome=u.isSome:=by
  cases o with
  | none => cases u with
    |none=>rfl
    |some _=>exact(show False from r).elim
  | some _ => cases u with
    |none=>exact(show False from r).elim
    |some _=>rfl
theorem jC.getD{o:Option V}{u:Option Value}{d:V}{d':Value}(r:jC o u)(rd:RelV d d'):RelV (o.getD d) (u.getD d'):=by
  cases o with
  | none => cases u with
    |none=>exact rd
    |some _=>exact(show False from r).elim
  | some _ => cases u with
    |none=>exact(show False from r).elim
    |some _=>exact r
theorem KV.val{kvs:List (κ×V)}{vs:List (κ×Value)}(r:KV kvs vs)(k:κ):jC (fL kvs k) (valueAt vs k):=by
  unfold KV at r
  induction r with
  |nil=>exact True.intro
  | @cons p q ps qs h t ih =>
    obtain⟨h1,h2⟩:=h
    by_cases e:p.1=k
    · have e':q.1=k:=h1.symm.trans e
      have b:valueAt (q::qs) k=some q.2:=by simp[valueAt,ko,e']
      rw[qK e,b];exact h2
    · have e':¬q.1=k:=fun z=>e (h1.trans z)
      have b:valueAt (q::qs) k=valueAt qs k:=by simp[valueAt,ko,e']
      rw[p8 e,b];exact ih
theorem KV.any{kvs:List (κ×V)}{vs:List (κ×Value)}(r:KV kvs vs)(k:κ):(kvs.any fun kv=>decide (kv.1=k))=vs.any fun kv=>decide (kv.1=k):=by
 unfold KV at r
 induction r with
 |nil=>rfl
 |cons h t ih=>rw[mZ,mZ,ih,h.1]
theorem KV.repl{kvs:List (κ×V)}{vs:List (κ×Value)}(r:KV kvs vs)(k:κ){y:V}{u:Value}(ry:RelV y u):
    KV (kvs.map fun kv=>if kv.1=k then(kv.1,y) else kv) (vs.map fun kv=>if kv.1=k then(kv.1,u) else kv):=by
  unfold KV at r⊢
  induction r with
  |nil=>exact .nil
  | @cons p q ps qs h t ih =>
    rw[bR,bR]
    refine .cons ?_ ih
    obtain⟨h1,h2⟩:=h
    by_cases e:p.1=k
    · rw[if_pos e,if_pos (h1.symm.trans e)];exact⟨h1,ry⟩
    · rw[if_neg e,if_neg (fun z=>e (h1.trans z))];exact⟨h1,h2⟩
theorem KV.put{kvs:List (κ×V)}{vs:List (κ×Value)}(r:KV kvs vs)(k:κ){y:V}{u:Value}(ry:RelV y u):KV (putK kvs k y) (stored vs k u):=by
 unfold putK stored
 rw[r.any k]
 by_cases e:(vs.any fun kv=>decide (kv.1=k))=true
 ·rw[if_pos e,if_pos e];exact r.repl k ry
 ·rw[if_neg e,if_neg e];exact Paired.snoc r ⟨rfl,ry⟩
theorem KV.keys{kvs:List (κ×V)}{vs:List (κ×Value)}(r:KV kvs vs):kvs.map (·.1)=vs.map (·.1):=by
 unfold KV at r
 induction r with
 |nil=>rfl
 |cons h t ih=>rw[bR,bR,ih,h.1]
theorem KV.length{kvs:List (κ×V)}{vs:List (κ×Value)}(r:KV kvs vs):kvs.length=vs.length:=Paired.length r
end
theorem pS{P:Program}{w:World}{k:Key}{u:Value}(r:RelV (kV k) u):(dJ P w).is k u=true:=by
 cases k with
 |inl i=>obtain⟨t,e⟩:=(show∃t,u=Value.int i t from r);subst e;exact K6 P w i t
 |inr x=>obtain⟨t,e⟩:=(show∃t,u=Value.str x t from r);subst e;exact TZ P w x t
theorem Dk{P:Program}{w:World}:∀{ks:List Key} {us:List Value},Vals (ks.map kV) us->ItemsAre (dJ P w) ks us
  |[],_,r=>by rw[pW] at r;cases r;exact .nil
  | k :: ks, _, r => by
    rw[bR] at r
    cases r with
    |cons h t=>exact .cons (pS h) (Dk t)
abbrev KT(H:Hp):List (List Key×V)->List (List Key×Addr×Value)->Prop:=Paired fun p q=>p.1=q.1/\H q.2.1=some (.tup (p.1.map kV))/\RelV p.2 q.2.2
theorem KT.val{H:Hp}{kvs:List (List Key×V)}{xs:List (List Key×Addr×Value)}(r:KT H kvs xs)(k:List Key):jC (fL kvs k) ((atKey xs k).map (·.2)):=by
  induction r with
  |nil=>exact True.intro
  | @cons p q ps qs h t ih =>
    obtain⟨h1,_,h2⟩:=h
    by_cases e:p.1=k
    · have e':q.1=k:=h1.symm.trans e
      have b:atKey (q::qs) k=some q.2:=by simp[atKey,ko,e']
      rw[qK e,b];exact h2
    · have e':¬q.1=k:=fun z=>e (h1.trans z)
      have b:atKey (q::qs) k=atKey qs k:=by simp[atKey,ko,e']
      rw[p8 e,b];exact ih
section
variable{P:Program}{w:World}{H:Hp}{h:Heap}{a:Addr}
theorem Gq{u:HO}(ok:c8 P w H h)(e:Rd H a u):bT P w H h a u:=e.ok ok
theorem oS{kvs:List (Key×V)}(ok:c8 P w H h)(e:Rd H a (.dK kvs)):kvs.length<=sizeLine/\(a==sysModules)=false/\∃vs,KV kvs vs/\h.DictOf (dJ P w) a vs:=
 show bT P w H h a (.dK kvs) from Gq ok e
theorem FN{kvs:List (Key×V)}(ok:c8 P w H h)(e:H a=some (.dK kvs)):kvs.length<=sizeLine/\(a==sysModules)=false/\∃vs,KV kvs vs/\h.DictOf (dJ P w) a vs:=oS ok (.inl e)
theorem DZ{ks:List Key}(ok:c8 P w H h)(e:H a=some (.tup (ks.map kV))):(tupleKind (dJ P w)).is h ks a:=by
 obtain⟨_,its,r,o,h1,h2,n,h3⟩:=(show bT P w H h a (.tup (ks.map kV)) from ok a _ e)
 exact⟨o,its.toArray,n,h1,h2,h3,by simpa using Dk r⟩
theorem VF{kvs:List (List Key×V)}(ok:c8 P w H h)(e:Rd H a (.dT kvs)):kvs.length<=sizeLine/\(a==sysModules)=false/\
    ∃xs,KT H kvs xs/\h.DictOfH (tupleKind (dJ P w)) a xs:=by
  obtain⟨z,y,xs,r,o,es,ep,h1,h2,h3,h4,h5⟩:=(show bT P w H h a (.dT kvs) from Gq ok e)
  refine⟨z,y,xs,r,o,es,ep,h1,h2,h3,h4,fun x hx=>?_,h5⟩
  have all:∀{l:List (List Key×V)} {m:List (List Key×Addr×Value)},KT H l m->∀x∈m,(tupleKind (dJ P w)).is h x.1 x.2.1:=by
    intro l m q
    induction q with
    |nil=>intro x hx;exact nomatch hx
    | @cons p q ps qs hq t ih =>
      intro x hx
      rcases aK.mp hx with e|hx
      · subst e
        exact DZ ok (by rw[<-hq.1];exact hq.2.1)
      · exact ih x hx
  exact all r x hx
end
def GF(H:Hp)(a:Addr)(y:V)(r:Option V):Prop:=
 (∃kvs k,Rd H a (.dK kvs)/\y=kV k/\r=fL kvs k)\/∃kvs k b,Rd H a (.dT kvs)/\y= .ref b/\H b=some (.tup (k.map kV))/\r=fL kvs k
section
variable{X:Cx}{pins:List (Addr×Obj)}{σ:St}{H:Hp}{s:Shared}{a:Addr}{y v:V}{u r:Value}{o:Option V}{A:Around}{E:Value->Shared->Prop}
theorem Inv.big(I:Inv X pins σ H s):sysModules<s.heap.objs.size:=by
 have h:mainGlobals<s.heap.objs.size:=(I.mod.glob.keeps I.bk).lt
 exact mD (by decide) h
theorem LQ{Q:Value->Shared->Prop}(hu:A.units+1<cLine)(I:Inv X pins σ H s)(g:GF H a y o)(ry:RelV y u)(h:∀s',Inv X pins σ H s'->Q (.bool o.isSome) s'):
  wpAny (model X.prog X.w) A (compareOp .In u (.ref a)) Q E s:=by
 rcases g with ⟨kvs,k,e,ey,l⟩|⟨kvs,k,b,e,ey,eb,l⟩
 ·subst ey
  obtain⟨z,hd,vs,rel,dd⟩:=oS I.hok e
  refine wpAny_in_of (pS ry) hd dd.mapOf ?_
  rw[<-(rel.val k).Gb,<-l]
  exact h _ (I.tok _)
 ·subst ey
  cases (show u=Value.ref b from ry)
  obtain⟨z,hd,xs,rel,dd⟩:=VF I.hok e
  refine wpAny_in_heap (tupleKind_room_in1 hu) (DZ I.hok eb) hd dd ?_
  have q:=(rel.val k).Gb
  rw[Option.isSome_map] at q
  rw[<-q,<-l]
  exact h _ (I.tok _)
theorem R5{h':Heap}{t':Nat}{ob:HO}(I:Inv X pins σ H s)(mu:qT (H a))(hs:Heap.SameBut a s.heap h')(he:∃q,h'.get? a=some q)(new:bT X.prog X.w (upd H a ob) h' a ob):
  Inv X pins σ (upd H a ob) {s with heap:=h',toks:=t'}:=
 I.write (x:=a) (e:=a) mu (.inl rfl) (fun b q hb z=>(hs.2 b hb).trans z) he new
theorem Dl{P:Program}{w:World}{H':Hp}{h':Heap}{kvs:List (Key×V)}{vs:List (Key×Value)}(z:kvs.length<=sizeLine)(hd:(a==sysModules)=false)(rel:KV kvs vs)(dd:h'.DictOf (dJ P w) a vs):
  bT P w H' h' a (.dK kvs):=⟨z,hd,vs,rel,dd⟩
end
theorem S6{P:Program}{w:World}{H:Hp}(h:Heap)(hb:sysModules<h.objs.size):bT P w H (h.push {cls:= .type "dict",data:= .dict #[]}) h.objs.size (.dK []):=
 ⟨dW _,beq_eq_false_iff_ne.mpr (bM (cV hb)),[], .nil,Heap.DictOf.new h⟩
def GJ:TE:=fun _ H Q=>∀p,H p=none->Q (.ref p) (upd H p (.dK []))
section
variable{X:Cx}{pos:Pos}
theorem Nu:PE X (.Dict [] [] pos) GJ:=fun pins s σ H Q I h=>
 wpAny_Dict_empty ⟨.ref s.heap.objs.size,_,I.laid (a:=s.heap.objs.size) (o:= .dK []) (t':=s.toks) (fun _ _ q=>bV _ q) (aI _) (S6 s.heap I.big),rfl,h _ (I.hok.fresh (aI _))⟩
end
def lB(kvs more:List (Key×V)):List (Key×V):=more.foldl (fun acc kv=>putK acc kv.1 kv.2) kvs
theorem KV.merge:∀{more:List (Key×V)} {rs:List (Key×Value)} {kvs:List (Key×V)} {vs:List (Key×Value)},KV more rs->KV kvs vs->KV (lB kvs more) (merged vs rs):=by
  intro more rs kvs vs r
  unfold KV at r
  induction r generalizing kvs vs with
  |nil=>intro q;exact q
  | @cons p q ps qs h t ih =>
    intro r0
    have e:KV (putK kvs p.1 p.2) (stored vs q.1 q.2):=by
      have:=r0.put p.1 h.2
      rw[<-h.1];exact this
    exact ih e
theorem CT:∀(more kvs:List (Key×V)),(lB kvs more).length<=kvs.length+more.length
  |[],kvs=>by show kvs.length<=kvs.length+0;omega
  | p :: r, kvs => by
    have h1:=CT r (putK kvs p.1 p.2)
    have h2:=Iq kvs p.1 p.2
    show(lB (putK kvs p.1 p.2) r).length<=_
    rw[fM];omega
end L2
/-THE LAST THEOREM (shape;LID,My.*are yours):
   My.Adr:a structure of the addresses that your layer names (classes,functions);My.Txt K t:a structure (Prop) of the equations over K;
   My.txt_mk:{K} {implicit addresses ..} (e1:nsIn K mainGlobals "law"=some (some (.ref f))) (e2:K.lookup f=some ⟨oc,od, .func (fnOf "law" "law" params body scope dV kV doc pm an cdv ct),sl⟩) (e3:codeIn K cdv "law"=true) .. :∃t,My.Txt K t
set_option maxRecDepth 100000 in
set_option maxHeartbeats 0 in
(the tactic k_is has no namespace:write k_is)-/
set_option maxRecDepth 100000
set_option maxHeartbeats 4000000
namespace L2
open PySem PySem.Spec PyProof.Rows
section
variable{prog:Program}{w:World}{A:Around}{E:Value->Shared->Prop}{s:Shared}
theorem Te{T:String}{r d:Addr}{n:Nat}{P:Nat->Value->Prop}{OK:Heap->Prop}{Q:List Value->Shared->Prop}(K:PySem.W.KdlSrc prog w T r d n P OK)(hh:A.handled=none)(hok:OK s.heap)(hn:n<=sizeLine)
  (hQ:∀h' tk' items,(∀b o,s.heap.get? b=some o->h'.get? b=some o)->s.heap.objs.size<=h'.objs.size->items.length=n->(∀(i:Nat) v,items[i]?=some v->P i v)->Q items {s with heap:=h',toks:=tk'}):wpAny (model prog w) A (collect (.ref r)) Q E s:=by
 obtain⟨lr,ld⟩:=K.there _ hok
 unfold collect
 refine wpAny_bind (wpAny_runValue (codeAny_builtin HQ ?_))
 rw[lu IZ _]
 show wpAny _ A.in1 (newList []>>=fun l=>again (.builtin "list.__iadd__" ⟨[l, .ref r],[]⟩)) _ _ s
 refine wpAny_bind (wpAny_newObj_type ?_)
 refine wpAny_pure ⟨plainId_quiet uf _,codeAny_builtin Dv ?_⟩
 rw[lu uf _]
 have gL:(s.heap.push ({cls:= .type "list",data:= .seq ([]:List Value).toArray}:Obj)).get? s.heap.objs.size=some {cls:= .type "list",data:= .seq ([]:List Value).toArray}:=fN _ rfl
 show wpAny _ A.in1 (Builtin.List.listExtendWith (.ref s.heap.objs.size) (.ref r) (.ref s.heap.objs.size)) _ _ {s with heap:=s.heap.push ({cls:= .type "list",data:= .seq ([]:List Value).toArray}:Obj)}
 refine PySem.W.kdl_extend (A:=A) (R:=fun r s'=>match r with
    | .ok (.ret v)=>wpAny (model prog w) A (match v with| .ref x=>(do match(<-load x).data with| .seq xs _=>pure xs.toList|_=>unsupported "internal:collect")|_=>unsupported "internal:collect") Q E s'
    | .ok _=>False
    | .error e=>E e s') (s:={s with heap:=s.heap.push ({cls:= .type "list",data:= .seq ([]:List Value).toArray}:Obj)}) K hh (K.keep _ _ hok fun b _ o e=>bV _ e) s.heap.objs.size (mR lr) (mR ld) _ _ gL (fun h' tk acc' c' hk hS hacc=>?_) hn
 refine wpAny_bind (wpAny_load hS (wpAny_pure ?_))
 refine hQ h' tk acc'.toList (fun b o e=>hk b o (cV (bC e)) (bV _ e)) (jk (bC hS)) (by rw[jZ];exact hacc.1) fun i v e=>hacc.2 i v (by rw[<-nX];exact e)
theorem Ml{a:Addr}{vs:List (Key×Value)}{ms:List Int}{Q:Value->Shared->Prop}(hh:A.handled=none)(lo:(a==sysModules)=false)(hd:s.heap.DictOf (dJ prog w) a vs)(hk:vs.map (·.1)=ms.map Sum.inl)(h64:ms.length<64)
    (h:∀h' tk' (l:Addr) (out:List Value) (ns:List Int) (e:Nat),(∀b o,s.heap.get? b=some o->h'.get? b=some o)->s.heap.objs.size<=l->h'.get? l=some (seqObj "list" out.toArray e)->IntsAre out ns->ns.Pairwise (· <= ·)->ns.Perm ms->
      Q (.ref l) {s with heap:=h',toks:=tk'}):wpAny (model prog w) A (call (.builtin "sorted") [.ref a]) Q E s:=by
  obtain⟨ep,hat⟩:=hd.dictAt
  have hvl:vs.length=ms.length:=by have:=congrArg List.length hk;simpa using this
  refine Dc kind_sorted plain_sorted entry_sorted (args_sorted1 _) ?_
  unfold Builtin.«sorted»
  refine wpAny_bind (m:=checkCount "sorted" 1 1 _) (wpAny_pure (wpAny_bind ?_))
  refine Te (A:=A.in1) (PySem.W.kdl_dict lo) hh hat (by rw[hvl];exact ez (jk h64) (by decide)) fun h1 AL items k1 k2 hil hit=>?_
  have hI:IntsAre items ms:=by
    have key:∀(its:List Value) (us:List (Key×Value)) (ms:List Int),us.map (·.1)=ms.map Sum.inl->its.length=us.length->(∀(i:Nat) v,its[i]?=some v->∃k x,us[i]?=some (k,x)/\(dJ prog w).is k v=true)->IntsAre its ms:=by
      intro its
      induction its with
      | nil =>
        intro us ms e l _
        cases us with
        | nil => cases ms with
          |nil=>exact .nil
          |cons _ _=>cases e
        |cons _ _=>cases l
      | cons v its ih =>
        intro us ms e l hp
        cases us with
        |nil=>cases l
        | cons u us => cases ms with
          |nil=>cases e
          | cons m ms =>
            have e1:u.1=Sum.inl m:=by injection e
            have e2:us.map (·.1)=ms.map Sum.inl:=by injection e
            obtain⟨k,x,q1,q2⟩:=hp 0 v rfl
            have q1:u=(k,x):=by simpa using q1
            subst q1
            have e1:k=Sum.inl m:=e1
            subst e1
            obtain⟨t,rfl⟩:=rP (k:=m) (v:=v) q2
            exact .cons m t (ih us ms e2 (by simpa using l) fun i v q=>by simpa using hp (i+1) v (by simpa using q))
    exact key items vs ms hk hil hit
  have hlen:items.length=ms.length:=by rw[hil,hvl]
  refine wpAny_bind (wpAny_newList ?_)
  have gL:(h1.push (seqObj "list" items.toArray 0)).get? h1.objs.size=some (seqObj "list" items.toArray 0):=fN _ rfl
  refine wpAny_bind (wpAny_holding (wpAny_call_entry slot_list_sort ⟨_,gL,rfl⟩ entry_list_sort (list_sort_tree gL hI (by omega) fun out ns' a1 a2 a3=>⟨_,rfl,?_⟩) (args_list_sort _)))
  obtain⟨e,he⟩:=sortedHeap_at (out:=out) gL
  refine wpAny_pure ⟨_,rfl,h _ AL h1.objs.size out.toList ns' e (fun b o q=>?_) k2 (by simpa using he) a1 a3 a2⟩
  have lb:=bC (k1 b o q)
  rw[sortedHeap_old (cV lb) (by rw[mz];exact nP lb)]
  exact bV _ (k1 b o q)
end
def vM:List V->Hp->VK->Prop:=fun xs H Q=>∃a,∃kvs:List (Key×V),∃ms:List Int,xs=[.ref a]/\Rd H a (.dK kvs)/\kvs.map (·.1)=ms.map Sum.inl/\ms.length<64/\
 ∀l (rs:List Int),H l=none->rs.Pairwise (· <= ·)->rs.Perm ms->Q (.ref l) (upd H l (.lst (rs.map V.int)))
theorem DM{X:Cx}(hc:X.calm=true):eV X (.builtin "sorted") vM:=by
 intro pins s σ H xs us Q I rv h
 obtain⟨a,kvs,ms,rfl,hH,hk,h64,q⟩:=h
 obtain⟨u,rfl,ru⟩:=vals1 rv
 cases ru
 obtain⟨z,hd,vs,rel,dd⟩:=oS I.hok hH
 refine Ml (I.ok.hd hc) hd dd (by rw[<-rel.keys];exact hk) h64 fun h' tk' l out ns e kp hl gl hI pw pp=>?_
 have new:bT X.prog X.w (upd H l (.lst (ns.map V.int))) h' l (.lst (ns.map V.int)):=by
  refine⟨?_,out,e,BV hI,gl⟩
  rw[ak,pp.length_eq];exact ez (jk h64) (by decide)
 exact⟨.ref l,_,I.laid (t':=tk') kp hl new,rfl,q _ _ (I.hok.fresh hl) pw pp⟩
section
variable{X:Cx}
def jr:R2:=fun x y H Q=>∃a kvs k v,x= .ref a/\y=kV k/\Rd H a (.dK kvs)/\fL kvs k=some v/\Q v H
theorem mj:kD X jr:=by
 intro value slice pins s σ H x y v u Q I rx ry h hs
 obtain⟨a,kvs,k,z,rfl,rfl,hH,hv,q⟩:=h
 cases rx
 obtain⟨hz,hd,vs,rel,dd⟩:=oS I.hok hH
 have hT:=dd.typeIs (s:=s)
 obtain⟨w',hw,rw'⟩:=jC.some_of (v:=z) (o:=valueAt vs k) (by rw[<-hv];exact rel.val k)
 unfold subscriptTail
 refine wpAny_bind ?_
 rw[getitemInPython_of_ne hT.not_modules]
 refine wpAny_bind (wpAny_specialOf hT PySem.F.slot_dict_getitem.lookup ?_)
 have fin:wpAny (model X.prog X.w) X.A (subscripted slice false (.ref a) u) (fun r s₃=>wpAny (model X.prog X.w) X.A (letTemporaryGo value (.ref a) r>>=fun _=>pure r) (EP X pins σ Q) X.xe s₃) X.xe s:=by
  rw[hs]
  refine wpAny_operating (wpAny_getItem_of (pS ry) dd.mapOf hw ?_)
  exact wpAny_bind (wpAny_letTemporaryGo (wpAny_pure ⟨z,H,I.tok _,rw',q⟩))
 first
  |exact wpAny_pure (wpAny_bind fin)
  |exact wpAny_bind (wpAny_pure (wpAny_bind fin))
  |exact wpAny_bind fin
def yz:V->V->V->Hp->(Hp->Prop)->Prop:=fun o i v H Q=>∃a kvs k,o= .ref a/\i=kV k/\H a=some (.dK kvs)/\kvs.length<sizeLine/\Q (upd H a (.dK (putK kvs k v)))
theorem set_dict:BS X yz:=by
 intro pins s σ H o i v ov iv u Q I ro ri rv h
 obtain⟨a,kvs,k,rfl,rfl,hH,V6,q⟩:=h
 cases ro
 obtain⟨z,hd,vs,rel,dd⟩:=FN I.hok hH
 have hz:vs.length<=sizeLine:=by rw[<-rel.length];exact z
 have hl:(putK kvs k v).length<=sizeLine:=by have:=Iq kvs k v;omega
 refine wpAny_setItem_pairs (hsz:=hz) (pS ri) dd fun h' D6 hs=>?_
 have he:∃q,h'.get? a=some q:=let ⟨q,_,_,hq,_⟩:=D6;⟨q,hq⟩
 exact⟨_,R5 I (by rw[hH];exact True.intro) hs he (Dl hl hd (rel.put k rv) D6),q⟩
def BR:V->List V->Hp->VK->Prop:=fun x vs H Q=>∃a kvs k d,x= .ref a/\vs=[kV k,d]/\Rd H a (.dK kvs)/\Q ((fL kvs k).getD d) H
theorem Ed:qc X "dict.get" BR:=by
  intro pins s σ H x xs v us Q I rx rv h
  obtain⟨a,kvs,k,d,rfl,rfl,hH,q⟩:=h
  cases rx
  cases rv with
  | cons r1 r2 =>
    obtain⟨r,rfl,rd⟩:=vals1 r2
    obtain⟨z,hd,vs,rel,dd⟩:=oS I.hok hH
    refine call_meetsIn Cr dd.typeIs PySem.F.entry_dict_get (PySem.F.args_dict_get_3 _ _ _) (meets_dict_get_default (dJ X.prog X.w) a (pS r1) hd r) ⟨_,dd.mapOf,?_⟩
    exact⟨_,H,I.tok _,(rel.val k).getD rd,q⟩
end
end L2
set_option maxRecDepth 100000
set_option maxHeartbeats 4000000
set_option maxRecDepth 100000
set_option maxHeartbeats 4000000
namespace L2
open PySem PySem.Spec PyProof.Rows
theorem GA:∀{a b:List Int},a.Pairwise (· < ·)->b.Pairwise (· < ·)->(∀k,k∈a↔k∈b)->a=b
  |[],[],_,_,_=>rfl
  |[],y::b,_,_,h=>absurd ((h y).mpr (bA ..)) (by simp)
  |x::a,[],_,_,h=>absurd ((h x).mp (bA ..)) (by simp)
  | x :: a, y :: b, ha, hb, h => by
    obtain⟨ha1,ha2⟩:=B7.mp ha
    obtain⟨hb1,hb2⟩:=B7.mp hb
    have e:x=y:=by
      rcases aK.mp ((h x).mp (bA ..)) with z|z
      · exact z
      · rcases aK.mp ((h y).mpr (bA ..)) with w|w
        · exact w.symm
        · have:=hb1 x z;have:=ha1 y w;omega
    subst e
    have:a=b:=GA ha2 hb2 fun k=>by
      constructor
      · intro hk
        rcases aK.mp ((h k).mp (cK _ hk)) with z|z
        · have:=ha1 k hk;omega
        · exact z
      · intro hk
        rcases aK.mp ((h k).mpr (cK _ hk)) with z|z
        · have:=hb1 k hk;omega
        · exact z
    rw[this]
end L2
namespace L2
abbrev Cn:=List (Int×Int)
structure G1(cs:Cn):Prop where
 lJ:∀c∈cs,0<=c.1/\c.1<=12/\0<=c.2/\c.2<=10^7
 nd:(cs.map (·.1)).Nodup
 len:cs.length<=14
 pos:∃c∈cs,0<c.1/\0<c.2
def Ir:Cn->Rat->Rat
 |[],_=>0
 |c::r,v=>(if 0<c.1 then((c.1*c.2:Int):Rat)*v^(c.1.toNat-1) else 0)+Ir r v
def HE:Cn->Int
 |[]=>0
 |c::r=>c.1*c.2+HE r
def FY(cs:Cn)(v:Rat):Rat:=Ir cs v/(HE cs:Int)
def Vo(l c:Cn)(s v:Rat):Rat:=s*FY l (1-FY c (1-v))
section
variable{l c:Cn}{s:Rat}(hl:G1 l)(hc:G1 c)(s0:0<=s)
include hl hc s0
end
def Ej(x:Rat):Int:= -((-x).floor)
end L2
namespace L2
structure Gw where
 l:Cn
 c:Cn
 s:Rat
 u:Int
def Gw.gr(g:Gw)(x:Int):Rat:=Vo g.l g.c g.s ((x:Rat)/g.u)*g.u
def Gw.lo(g:Gw):Nat->Int
 |0=>(g.s*g.u).floor
 |k+1=>(g.gr (g.lo k)).floor
def Gw.hi(g:Gw):Nat->Int
 |0=>Ej (g.s*g.u)
 |k+1=>Ej (g.gr (g.hi k))
end L2
set_option maxRecDepth 100000
set_option maxHeartbeats 4000000
namespace L2
open PySem PySem.Spec PyProof.Rows
@[reducible] def VW(g:Gw)(k:Nat):PyData:= .tuple [.int (g.lo k), .int (g.hi k)]
@[reducible] def V3(n:Nat):PyData:= .tuple [.str "falls", .int n]
@[reducible] def Wm(x:Int):PyData:= .tuple [.str "stays", .int x]
@[reducible] def VM:PyData:= .tuple [.str "open"]
def Vj(K:PySem.W.Frag)(n:Nat)(t:ic):TG:=fun v σ H Q=>∃a xs,v= .ref a/\aW K H a xs/\xs.length=n/\t xs σ H Q
theorem Gv.lst{G:Gx}{ρ:Rh}{f:Bool}{ds:List PyData}{K:PySem.W.Frag}{Θ:Rh->Prop}{n:Nat}{u:ic}(hl:ds.length=n)(h:lI G ρ u f ds Θ):Gv G ρ (Vj K n u) f (.list ds) Θ:=fun nb σ H v Q W hv z=>by
 obtain⟨a,xs,rfl,m,hx,hd⟩:=hv.fB
 exact⟨a,xs,rfl, .of hx,by rw[hd.length];exact hl,h nb σ H xs Q W hd z⟩
end L2
set_option maxRecDepth 100000
set_option maxHeartbeats 4000000
namespace L2
open PySem PySem.Spec PyProof.Rows PySem.W
section
variable{n:Nat}{cmp:Nat->Nat->(Bool->Shared->Prop)->Shared->Prop}{s:Shared}
variable(h0:0<n)(hc:∀i j C,i<n->j<n->(∀b,C b s)->cmp i j C s)
include h0 hc
end
end L2
set_option maxRecDepth 100000
set_option maxHeartbeats 4000000
namespace L2
open PySem PySem.Spec PyProof.Rows PySem.W
section
variable{n:Nat}{key:Nat->Int}{cmp:Nat->Nat->(Bool->Shared->Prop)->Shared->Prop}{s:Shared}
variable(h0:0<n)(hc:∀i j C,i<n->j<n->C (decide (key i<key j)) s->cmp i j C s)
include h0 hc
end
end L2
set_option maxRecDepth 100000
set_option maxHeartbeats 4000000
set_option maxRecDepth 100000
set_option maxHeartbeats 4000000
namespace L2
open PySem PySem.Spec PyProof.Rows
@[reducible] def Wi(l c:Cn)(u p:Int):Gw:=⟨l,c,(p:Rat)/u,u⟩
end L2
set_option maxRecDepth 100000
set_option maxHeartbeats 4000000
namespace L2
open PySem PySem.Spec PyProof.Rows
theorem Ev.lend{G:Gx}{ρ:Rh}{te:TE}{Φ:Pd}{a:Addr}{f:Bool}{ds:List PyData}(i:Nat)(e:ρ[i]?=some (.own a f ds))(h:Ev G (ρ.set i (.d f (.list ds))) te fun _ d=>ji d=true/\Φ true d):Ev G ρ te Φ:=fun nb σ H Q W z=>
 h _ σ H Q (Sv.share W e) fun f v H' d ⟨hs,p⟩ st hv=>z true v H' d p st (hv.kZ hs)
end L2
set_option maxRecDepth 100000
set_option maxHeartbeats 4000000
namespace L2
open PySem PySem.Spec PyProof.Rows
theorem KG:typeLookup (.type "list") "keys"=pure none:=by rw[typeLookup_type,builtinLookup_eq_fast];kernel_rfl
theorem To:typeLookup (.type "list") "__getattr__"=pure none:=by rw[typeLookup_type,builtinLookup_eq_fast];kernel_rfl
section
variable{prog:Program}{w:World}{A:Around}{E:Value->Shared->Prop}{h:Heap}{g:Array GenState}{d:Drawn}{t:Nat}{os:OsState}{a:Addr}{o:Obj}
theorem MF{tk:Tok}{Q:Fin->Shared->Prop}{xs:Array Value}{n:Nat}(hh:A.handled=none)(hx:h.get? a=some (seqObj "list" xs n))
  (hq:∀h' tk e,Heap.NewAttrErr h h' e (.ref a) "keys" ->E (.ref e) ⟨h',g,d,tk,os⟩):
  wpAny (model prog w) A (Builtin.«object.__getattribute__» ⟨[.ref a, .str "keys" tk],[]⟩) Q E ⟨h,g,d,t,os⟩:=by
 have hT:(⟨h,g,d,t,os⟩:Shared).TypeIs (.ref a) "list":=⟨_,hx,rfl⟩
 have f4:=KG
 unfold Builtin.«object.__getattribute__»
 repeat (any_goals (first|assumption|wp_step))
 exact wpAny_raiseAttrError hh hq (attrMsg_fits (by decide+kernel) (by size_fits))
theorem Li{tk:Tok}{R:Result->Shared->Prop}{xs:Array Value}{n:Nat}(hh:A.handled=none)(hx:h.get? a=some (seqObj "list" xs n))(hq:∀h' tk e,Heap.NewAttrErr h h' e (.ref a) "keys" ->R (.error (.ref e)) ⟨h',g,d,tk,os⟩):
  codeAny (model prog w) A (.call (.builtin "list.__getattribute__") ⟨[.ref a, .str "keys" tk],[]⟩) R ⟨h,g,d,t,os⟩:=
 codeAny_call_builtin sR.plain PySem.F.entry_list_ga (sR.check _ _ _ _ _ _ _ _ (show(⟨h,g,d,t,os⟩:Shared).TypeIs (.ref a) "list" from⟨_,hx,rfl⟩) (PySem.F.args_list_getattribute_2 _ _) (MF (by exact hh) hx hq))
theorem Mm{Q:Option Value->Shared->Prop}{xs:Array Value}{n:Nat}(hh:A.handled=none)(hx:h.get? a=some (seqObj "list" xs n))
  (hq:∀h' tk,(∀b ob,h.get? b=some ob->h'.get? b=some ob)->Q none ⟨h',g,d,tk,os⟩):wpAny (model prog w) A (getAttr? (.ref a) "keys") Q E ⟨h,g,d,t,os⟩:=by
 have hT:(⟨h,g,d,t,os⟩:Shared).TypeIs (.ref a) "list":=⟨_,hx,rfl⟩
 have f1:=sub_AttributeError
 have f2:=sR.lookup
 have f3:=sR.bind (.ref a)
 have f5:=To
 unfold getAttr? getAttrBy? getAttrBy
 repeat (any_goals (first|assumption|wp_step))
 refine Li hh hx fun h' tk e hx'=>?_
 obtain⟨t',u',he⟩:=hx'.there
 unfold getattributeRaised
 repeat (any_goals (first|assumption|wp_step))
 exact hq _ _ hx'.keeps
end
end L2
set_option maxRecDepth 100000
set_option maxHeartbeats 4000000
namespace L2
open PySem PySem.Spec PyProof.Rows
theorem GP:entryFor table "dict.update.loop"=some Builtin.«dict.update.loop» :=entryFor_of_tree (by kernel_rfl)
theorem vn:plainId "dict.update.loop"=true:=by decide+kernel
def uZ(P:Program)(w:World)(h:Heap)(v:Value)(p:Key×Value):Prop:=∃a o m ku,v= .ref a/\h.get? a=some o/\o.cls= .type "tuple" /\o.data= .seq #[ku,p.2] m/\(dJ P w).is p.1 ku=true
section
variable{prog:Program}{w:World}{A:Around}{E:Value->Shared->Prop}{s:Shared}
theorem Lx{R:Result->Shared->Prop}{d it l:Addr}{its:List Value}{ps:List (Key×Value)}(hh:A.in1.handled=none)(hdl:d≠l)(hdi:d≠it)(hil:l≠it)(hlen:its.length=ps.length)(hsz:its.length<=10000):
    ∀(k i:Nat) (s:Shared) (t:Tok),its.length-i=k->i<=its.length->s.heap.IsListIter it l i->s.heap.IsList l its.toArray->(∀(j:Nat) (v:Value) (p:Key×Value),its[j]?=some v->ps[j]?=some p->uZ prog w s.heap v p)->(∀(j:Nat) (v:Value),its[j]?=some v->v≠Value.ref d/\v≠Value.ref it)->
      s.heap.DictOf (dJ prog w) d (merged [] (ps.take i))->(merged [] (ps.take i)).length<=i->
      (∀h' tk,(∀b o,b≠d->b≠it->s.heap.get? b=some o->h'.get? b=some o)->h'.DictOf (dJ prog w) d (merged [] ps)->R (.ok (.ret .none)) {s with heap:=h',toks:=tk})->
      codeAny (model prog w) A (.builtin "dict.update.loop" ⟨[.ref d, .ref it, .int i t, .none],[]⟩) R s:=by
  intro k
  induction k with
  | zero =>
    intro i s t hk hi hit hl hp hne hD hDl hR
    have hin:i=its.length:=by omega
    subst hin
    refine codeAny_builtin GP ?_
    rw[lu vn _]
    show wpAny _ A.in1 (pyNext (.ref it)>>=_) _ _ s
    refine wpAny_bind (wpAny_pyNext_list_end hh hit hl (by simp) fun h' he=>?_)
    show wpAny _ A.in1 (ret Value.none) _ _ _
    rw[hlen,gb] at hD
    exact wpAny_pure (hR h' s.toks (fun b o _ n e=>he b o n e) (hD.extBut he hdi))
  | succ k ih =>
    intro i s t hk hi hit hl hp hne hD hDl hR
    have hlt:i<its.length:=by omega
    obtain⟨v,hv⟩:∃v,its[i]?=some v:=⟨_,aQ hlt⟩
    obtain⟨p,hpp⟩:∃p,ps[i]?=some p:=⟨_,aQ (by omega)⟩
    obtain⟨hn1,hn2⟩:=hne i v hv
    obtain⟨a,o,m,ku,rfl,g1,g2,g3,g4⟩:=hp i v p hv hpp
    have had:a≠d:=fun z=>hn1 (by rw[z])
    have hai:a≠it:=fun z=>hn2 (by rw[z])
    refine codeAny_builtin GP ?_
    rw[lu vn _]
    show wpAny _ A.in1 (pyNext (.ref it)>>=_) _ _ s
    refine wpAny_bind (wpAny_pyNext_list_item hit hl (x:= .ref a) (by simpa using hv) fun h1 Lc xU=>?_)
    have o4:h1.get? a=some o:=(xU.2 a hai).trans g1
    have hT:(⟨h1,s.gens,s.drawn,s.toks,s.os⟩:Shared).TypeIs (.ref a) "tuple":=⟨o,o4,g2⟩
    show wpAny _ A.in1 (holding [Value.ref a] _>>=_) _ _ _
    refine wpAny_bind (wpAny_holding (wpAny_bind (wpAny_tryCatch ?_)))
    show wpAny _ A.in1 (Builtin.Dict.pairItems (.ref a)) _ _ _
    unfold Builtin.Dict.pairItems
    refine wpAny_bind (wpAny_typeOf hT ?_)
    rw[if_pos (by decide)]
    refine wpAny_bind (wpAny_seqItems o4 g3 (wpAny_pure ?_))
    show wpAny _ A.in1 (holding [ku,p.2] (dictSet d ku p.2)) _ _ _
    have ue:h1.DictOf (dJ prog w) d (merged [] (ps.take i)):=hD.sameBut xU hdi
    refine wpAny_holding (wpAny_dictSet_pairs (s:=⟨h1,s.gens,s.drawn,s.toks,s.os⟩) g4 ue (fun h2 HZ GW=>?_) (ez hDl (ez hi (ez hsz (by decide)))))
    have e:stored (merged [] (ps.take i)) p.1 p.2=merged [] (ps.take (i+1)):=by rw[take_snoc hpp];unfold merged;rw[qD];rfl
    rw[e] at HZ
    have kk:∀b o,b≠d->b≠it->s.heap.get? b=some o->h2.get? b=some o:=fun b o n1 n2 z=>(GW.2 b n1).trans ((xU.2 b n2).trans z)
    refine wpAny_pure ⟨plainId_quiet vn _,ih (i+1) ⟨h2,s.gens,s.drawn,s.toks+1,s.os⟩ _ (by omega) hlt ?_ ?_ ?_ hne HZ ?_ fun h' tk k' Bq=>?_⟩
    · exact Lc.at fun o z=>(GW.2 it (bM hdi)).trans z
    · exact hl.at fun o z=>kk l o (bM hdl) hil z
    · intro j v' p' hv' hp'
      obtain⟨hn1,hn2⟩:=hne j v' hv'
      obtain⟨a,o,m,ku,rfl,q1,q2,q3,q4⟩:=hp j v' p' hv' hp'
      exact⟨a,o,m,ku,rfl,kk a o (fun z=>hn1 (by rw[z])) (fun z=>hn2 (by rw[z])) q1,q2,q3,q4⟩
    · rw[<-e]
      unfold stored
      split
      · rw[ak];omega
      · rw[bP,fE];omega
    · exact hR h' tk (fun b o n1 n2 z=>k' b o n1 n2 (kk b o n1 n2 z)) Bq
theorem QH{l:Addr}{its:List Value}{n:Nat}{ps:List (Key×Value)}{Q:Value->Shared->Prop}(hh:A.handled=none)(hlo:s.heap.get? l=some (seqObj "list" its.toArray n))(hlen:its.length=ps.length)(hsz:its.length<=10000)
  (hp:∀(j:Nat) (v:Value) (p:Key×Value),its[j]?=some v->ps[j]?=some p->uZ prog w s.heap v p)
  (h:∀h' tk,h'.DictOf (dJ prog w) s.heap.objs.size (merged [] ps)->(∀b o,s.heap.get? b=some o->h'.get? b=some o)->Q (.ref s.heap.objs.size) {s with heap:=h',toks:=tk}):
  wpAny (model prog w) A (call (.type "dict") [.ref l]) Q E s:=by
 refine callType_codes (Q₁:=fun obj s₁=>obj= .ref s.heap.objs.size/\s₁={s with heap:=s.heap.push {cls:= .type "dict",data:= .dict #[]}}) PySem.F.kt_called_dict (PySem.F.kt_typeCall_dict_1 _) PySem.F.entry_dict_init (kt_code_dict_new _ ⟨rfl,rfl⟩) ?_
 rintro obj s₁ ⟨rfl,rfl⟩
 have hnew:(s.heap.push {cls:= .type "dict",data:= .dict #[]}).DictOf (dJ prog w) s.heap.objs.size []:=Heap.DictOf.new s.heap
 have hl1:(s.heap.push {cls:= .type "dict",data:= .dict #[]}).get? l=some (seqObj "list" its.toArray n):=bV _ hlo
 have DV:l<s.heap.objs.size:=bC hlo
 refine⟨hnew.typeIs,PySem.F.args_dict_init_2 _ _,?_⟩
 unfold Builtin.«dict.__init__»
 refine wpAny_bind ?_
 unfold Builtin.Dict.selfAndRest
 refine wpAny_bind (wpAny_notOrdered_dict hnew.typeIs ?_)
 show wpAny _ _ (pure (s.heap.objs.size,[Value.ref l])) _ _ _
 refine wpAny_pure ?_
 show wpAny _ _ (Builtin.Dict.updateFrom "dict.__init__" s.heap.objs.size (.ref l) [] .none) _ _ _
 unfold Builtin.Dict.updateFrom
 refine wpAny_bind (wpAny_typeOf (T:="list") ⟨_,hl1,rfl⟩ ?_)
 rw[if_pos (by decide)]
 refine wpAny_bind (Mm (A:=A.in1.in1) hh hl1 fun h1 tk k1=>?_)
 rw[if_pos (show(none:Option Value).isNone=true from rfl)]
 refine wpAny_bind (wpAny_rule (wpAny_bind ?_))
 have hl2:h1.get? l=some (seqObj "list" its.toArray n):=k1 _ _ hl1
 have ue:h1.DictOf (dJ prog w) s.heap.objs.size []:=let ⟨o',es,ep,ho,r⟩:=hnew;⟨o',es,ep,k1 _ _ ho,r⟩
 have hs1:s.heap.objs.size<h1.objs.size:=by obtain⟨o',es,ep,ho,_⟩:=ue;exact bC ho
 have DR:h1.IsList l its.toArray:=⟨_,hl2,rfl,n,rfl⟩
 refine wpAny_pyIter_list DR ?_
 refine wpAny_pure ⟨plainId_quiet vn _,?_⟩
 refine Lx (A:=A.in1) (its:=its) (ps:=ps) hh (bM (cV DV)) (cV hs1) (cV (mD DV hs1)) hlen hsz its.length 0 _ _ (by omega) (dW _) ⟨_,fN _ rfl,rfl,rfl⟩ (DR.push _) ?_ ?_ (ue.push _) (aI _) fun h' tk' k' Bq=>?_
 ·intro j v p hv hpp
  obtain⟨a,o,m,ku,rfl,q1,q2,q3,q4⟩:=hp j v p hv hpp
  exact⟨a,o,m,ku,rfl,bV _ (k1 _ _ (bV _ q1)),q2,q3,q4⟩
 ·intro j v hv
  obtain⟨p,hpp⟩:∃p,ps[j]?=some p:=⟨_,aQ (by have:=(bQ.mp hv).1;omega)⟩
  obtain⟨a,o,m,ku,rfl,q1,_⟩:=hp j v p hv hpp
  have la:=bC q1
  refine⟨fun z=>?_,fun z=>?_⟩
  ·cases z;exact absurd la (jo _)
  ·have z':a=h1.objs.size:=by cases z;rfl
   rw[z'] at la
   exact absurd (mD la hs1) (jo _)
 ·refine⟨rfl,h h' tk' Bq fun b o z=>?_⟩
  have lb:=bC z
  exact k' b o (cV lb) (cV (mD lb hs1)) (bV _ (k1 _ _ (bV _ z)))
end
def xh:List V->Hp->VK->Prop:=fun xs H Q=>∃(l:Addr) (ys:List V) (kvs:List (Key×V)),xs=[.ref l]/\H l=some (.lst ys)/\ys.length=kvs.length/\ys.length<=10000/\
 (∀(j:Nat) (y:V) (p:Key×V),ys[j]?=some y->kvs[j]?=some p->∃a,y= .ref a/\H a=some (.tup [kV p.1,p.2]))/\∀d,H d=none->Q (.ref d) (upd H d (.dK (lB [] kvs)))
theorem Ot{X:Cx}(hc:X.calm=true):eV X (.type "dict") xh:=by
  intro pins s σ H xs us Q I rv h
  obtain⟨l,ys,kvs,rfl,hH,hlen,hsz,hy,q⟩:=h
  obtain⟨u,rfl,ru⟩:=vals1 rv
  cases ru
  obtain⟨_,its,n,rs,h1⟩:=(show bT X.prog X.w H s.heap l (.lst ys) from I.hok l _ hH)
  have hli:=rs.length
  have key:∃ps:List (Key×Value),KV kvs ps/\∀(j:Nat) (v:Value) (p:Key×Value),its[j]?=some v->ps[j]?=some p->uZ X.prog X.w s.heap v p:=by
    have gen:∀(ys:List V) (its:List Value) (kvs:List (Key×V)),Vals ys its->ys.length=kvs.length->(∀(j:Nat) (y:V) (p:Key×V),ys[j]?=some y->kvs[j]?=some p->∃a,y= .ref a/\H a=some (.tup [kV p.1,p.2]))->∃ps:List (Key×Value),KV kvs ps/\∀(j:Nat) (v:Value) (p:Key×Value),its[j]?=some v->ps[j]?=some p->uZ X.prog X.w s.heap v p:=by
      intro ys
      induction ys with
      | nil =>
        intro its kvs r e _
        cases r
        cases kvs with
        |nil=>exact⟨[], .nil,fun j v p z=>by simp at z⟩
        |cons _ _=>cases e
      | cons y ys ih =>
        intro its kvs r e hq
        cases r with
        | cons r1 r2 =>
          cases kvs with
          |nil=>cases e
          | cons kv kvs =>
            obtain⟨ps,g1,g2⟩:=ih _ kvs r2 (by simpa using e) fun j y p a b=>hq (j+1) y p (by simpa using a) (by simpa using b)
            obtain⟨a,rfl,ha⟩:=hq 0 y kv rfl rfl
            cases r1
            obtain⟨_,its2,Se,o,w1,w2,m,w3⟩:=(show bT X.prog X.w H s.heap a (.tup [kV kv.1,kv.2]) from I.hok a _ ha)
            cases Se with
            | cons x1 x2 =>
              cases x2 with
              | cons y1 y2 =>
                cases y2
                refine⟨(kv.1,_)::ps, .cons ⟨rfl,y1⟩ g1,fun j v p a b=>?_⟩
                cases j with
                | zero =>
                  simp at a b
                  subst a b
                  exact⟨_,o,m,_,rfl,w1,w2,w3,pS x1⟩
                |succ j=>exact g2 j v p (by simpa using a) (by simpa using b)
    exact gen ys its kvs rs hlen hy
  obtain⟨ps,rel,hps⟩:=key
  have hpl:=rel.length
  refine QH (I.ok.hd hc) h1 (by omega) (by omega) hps fun h' tk' hD k=>?_
  have hml:=CT kvs []
  have new:bT X.prog X.w (upd H s.heap.objs.size (.dK (lB [] kvs))) h' s.heap.objs.size (.dK (lB [] kvs)):=by
    refine Dl (ez hml (ez (show _<=10000 by simp;omega) (by decide))) ?_ (rel.merge .nil) hD
    have hb:=I.big
    have:s.heap.objs.size≠sysModules:=mR hb
    simpa using this
  exact⟨.ref s.heap.objs.size,_,I.laid (t':=tk') k (aI _) new,rfl,q _ (I.hok.fresh (aI _))⟩
end L2
set_option maxRecDepth 100000
set_option maxHeartbeats 4000000
namespace L2
open PySem PySem.Spec PyProof.Rows
abbrev Ks:=List (Int×PyData)
def fU(ks:Ks)(k:Int):Option PyData:=(ks.find? fun p=>decide (p.1=k)).map (·.2)
def nB(ks:Ks)(k:Int):Bool:=ks.any fun p=>decide (p.1=k)
def nG(ks:Ks)(k:Int)(d:PyData):Ks:=if nB ks k then ks.map fun p=>if p.1=k then(p.1,d) else p else ks++[(k,d)]
theorem UK(ks:Ks)(k:Int):(fU ks k).isSome=nB ks k:=by
  unfold fU nB
  rw[Option.isSome_map]
  induction ks with
  |nil=>rfl
  | cons p r ih =>
    rw[ko,mZ]
    by_cases h:p.1=k
    · simp[h]
    · simp only[h,decide_false,rT];exact ih
theorem RW{ks:Ks}{k:Int}:nB ks k=true↔k∈ks.map (·.1):=by
 unfold nB
 rw[su,bW]
 constructor
 ·rintro⟨p,h1,h2⟩;exact⟨p,h1,by simpa using h2⟩
 ·rintro⟨p,h1,h2⟩;exact⟨p,h1,by simpa using h2⟩
theorem Q0{k:Int}:fU [] k=none:=rfl
theorem pV{p:Int×PyData}{r:Ks}{k:Int}:fU (p::r) k=if p.1=k then some p.2 else fU r k:=by
 unfold fU
 rw[ko]
 by_cases h:p.1=k<;>simp[h]
theorem VT{ks:Ks}{k j:Int}{d:PyData}:fU (ks++[(k,d)]) j=match fU ks j with|some x=>some x|none=>if j=k then some d else none:=by
  induction ks with
  | nil =>
    rw[List.nil_append,pV,Q0]
    by_cases h:k=j
    · subst h;simp
    · have h':¬j=k:=fun z=>h z.symm
      simp[h,h']
  | cons p r ih =>
    rw[nu,pV,pV,ih]
    by_cases h:p.1=j<;>simp[h]
section
variable{S:Addr->Prop}{H:Hp}
theorem ay.val:∀{ks:Ks} {ps:List (Key×V)} (k:Int),ay S H (ks.map bZ) ps->match fU ks k with|some d=>∃v,fL ps (Sum.inl k)=some v/\aj S H d v|none=>fL ps (Sum.inl k)=none
  |[],ps,k,h=>by unfold ay at h;subst h;exact VG
  | p :: r, ps, k, h => by
    rw[bR] at h
    unfold ay at h
    obtain⟨q,qs,rfl,h1,h2⟩:=h
    unfold cM at h1
    obtain⟨h3,h4⟩:=h1
    have h3:q.1=Sum.inl p.1:=h3
    rw[pV]
    have ih:=ay.val k h2
    by_cases e:p.1=k
    · rw[if_pos e]
      refine⟨q.2,?_,h4⟩
      rw[qK (by rw[h3,e])]
    · rw[if_neg e,p8 (fun z=>e (by rw[h3] at z;exact xy z))]
      exact ih
theorem ay.snoc:∀{ks:Ks} {ps:List (Key×V)} {k:Int} {d:PyData} {v:V},ay S H (ks.map bZ) ps->aj S H d v->ay S H ((ks++[(k,d)]).map bZ) (ps++[(Sum.inl k,v)])
  | [], ps, k, d, v, h, hd => by
    unfold ay at h;subst h
    show ay S H [bZ (k,d)] [(Sum.inl k,v)]
    unfold ay
    exact⟨_,_,rfl,by unfold cM;exact⟨rfl,hd⟩,by unfold ay;rfl⟩
  | p :: r, ps, k, d, v, h, hd => by
    rw[bR] at h
    unfold ay at h
    obtain⟨q,qs,rfl,h1,h2⟩:=h
    rw[nu,bR,nu]
    unfold ay
    exact⟨q,_,rfl,h1,ay.snoc h2 hd⟩
theorem ay.repl:∀{ks:Ks} {ps:List (Key×V)} {k:Int} {d:PyData} {v:V},ay S H (ks.map bZ) ps->aj S H d v->ay S H ((ks.map fun p=>if p.1=k then(p.1,d) else p).map bZ) (ps.map fun kv=>if kv.1=Sum.inl k then(kv.1,v) else kv)
  |[],ps,k,d,v,h,hd=>by unfold ay at h;subst h;simp only[pW];unfold ay;rfl
  | p :: r, ps, k, d, v, h, hd => by
    rw[bR] at h
    unfold ay at h
    obtain⟨q,qs,rfl,h1,h2⟩:=h
    rw[bR,bR,bR]
    unfold cM at h1
    obtain⟨h3,h4⟩:=h1
    have h3:q.1=Sum.inl p.1:=h3
    unfold ay
    refine⟨_,_,rfl,?_,ay.repl h2 hd⟩
    by_cases e:p.1=k
    · rw[if_pos e,if_pos (by rw[h3,e])]
      unfold cM
      exact⟨h3,hd⟩
    · rw[if_neg e,if_neg (fun z=>e (by rw[h3] at z;exact xy z))]
      unfold cM
      exact⟨h3,h4⟩
theorem ay.any:∀{ks:Ks} {ps:List (Key×V)} (k:Int),ay S H (ks.map bZ) ps->(ps.any fun kv=>decide (kv.1=Sum.inl k))=nB ks k:=fun{ks ps} k h=>by
 rw[BJ,<-UK]
 have:=ay.val k h
 cases hv:fU ks k with
 |none=>rw[hv] at this;rw[this];rfl
 |some d=>rw[hv] at this;obtain⟨v,e,_⟩:=this;rw[e];rfl
theorem ay.put{ks:Ks}{ps:List (Key×V)}{k:Int}{d:PyData}{v:V}(h:ay S H (ks.map bZ) ps)(hd:aj S H d v):ay S H ((nG ks k d).map bZ) (putK ps (Sum.inl k) v):=by
 unfold nG putK
 rw[ay.any k h]
 split
 ·exact ay.repl h hd
 ·exact ay.snoc h hd
theorem ay.len:∀{ks:Ks} {ps:List (Key×V)},ay S H (ks.map bZ) ps->ps.length=ks.length
  |[],ps,h=>by unfold ay at h;subst h;rfl
  | p :: r, ps, h => by
    rw[bR] at h
    unfold ay at h
    obtain⟨q,qs,rfl,_,h2⟩:=h
    simp[ay.len h2]
theorem ay.keys:∀{ks:Ks} {ps:List (Key×V)},ay S H (ks.map bZ) ps->ps.map (·.1)=(ks.map (·.1)).map Sum.inl
  |[],ps,h=>by unfold ay at h;subst h;rfl
  | p :: r, ps, h => by
    rw[bR] at h
    unfold ay at h
    obtain⟨q,qs,rfl,h1,h2⟩:=h
    unfold cM at h1
    have h3:q.1=Sum.inl p.1:=h1.1
    simp[ay.keys h2,h3]
end
def tG(G:Gx)(ρ:Rh)(te:TE)(Φ:Bool->Ks->Prop):Prop:=∀nb σ H (Q:VK),Wd G nb ρ σ H->
 (∀f a ps H' ks,Φ f ks->Step G.B H H'->H a=none->H' a=some (.dK ps)->ay (fun x=>G.S nb f x\/x=a) H' (ks.map bZ) ps->Q (.ref a) H')->te σ H Q
section
variable{G:Gx}{ρ cZ:Rh}{Φ Ψ:Pd}{ta tb te:TE}{t:TA}{i:Nat}{f g:Bool}{d e:PyData}{ks:Ks}{K:PySem.W.Frag}{E:DE}{Θ:Bool->Ks->Prop}
theorem Wd.grow{nb:Addr->Prop}{σ:St}{H H1:Hp}{a:Addr}{o:HO}(W:Wd G nb ρ σ H)(s1:Step G.B H H1)(ha:H a=none)(e:H1 a=some o):Wd G (fun x=>nb x\/x=a) ρ σ H1/\NB G.B a/\∀f x,G.S (fun x=>nb x\/x=a) f x->(G.S nb f x\/x=a):=by
  have hN:NB G.B a:=NB.new W.aA ha
  have hA:∀f x,G.S (fun x=>nb x\/x=a) f x->(G.S nb f x\/x=a):=fun f x z=>by
    rcases z with (z|z)|z|z|z
    · exact .inl (.inl z)
    · exact .inr z
    · exact .inl (.inr (.inl z))
    · exact .inl (.inr (.inr (.inl z)))
    · exact .inl (.inr (.inr (.inr z)))
  have W1:=W.step s1
  refine⟨?_,hN,hA⟩
  refine⟨W1.aA,fun x n=>?_,W1.old,fun x n q=>?_,W.gA,W.len,W.gB,fun h m=>(((W.eG h m).fresh ha).keep (s1.but fun x z=> .inl (.inr (.inr (.inl z))))).av (hA h.1),fun j s e'=>?_,W.apart,W.eN,W.c7⟩
  · rcases n with n|n
    · exact W1.live x n
    · subst n;rw[e];exact jF _
  · rcases n with n|n
    · exact W.cU x n q
    · subst n
      cases z:G.H0 x with
      |none=>rfl
      |some o=>rw[W.old x o q z] at ha;cases ha
  · obtain⟨x,e1,h⟩:=W.ok j s e'
    refine⟨x,e1,?_⟩
    cases s with
    |no=>trivial
    |d f d=>obtain⟨v,e,h⟩:=h;exact⟨v,e,((h.fresh ha).keep (s1.but fun x z=> .inl (.inr (.inr (.inl z))))).av (hA f)⟩
    |own c f es=>obtain⟨e,n,q,xs,hx,hd⟩:=h;exact⟨e, .inl n,q,xs,s1.1 _ _ q hx,((hd.fresh ha).keep (s1.but fun x z=> .inl (.inr (.inr (.inl z))))).av (hA f)⟩
    |aA=>exact h
    |raw v=>exact h
    |bU c f es=>obtain⟨e,n,q,xs,hx,hd⟩:=h;exact⟨e, .inl n,q,xs,s1.1 _ _ q hx,((hd.fresh ha).keep (s1.but fun x z=> .inl (.inr (.inr (.inl z))))).av (hA f)⟩
    | cu c =>
      obtain⟨e,n,q⟩:=h
      refine⟨e,fun a ha=>⟨.inl (n a ha).1,(n a ha).2⟩,c.av (hA c.f) (c.keep (.of fun x o hx e=>s1.1 x o ?_ e) (c.fresh ha q))⟩
      rcases hx with hx|hx
      · exact iX fun z=>hx (.inl (.inr (.inr (.inl z))))
      · exact(n x hx).2
theorem MZ{nb:Addr->Prop}{σ:St}{H H1:Hp}{a:Addr}{ps:List (Key×V)}(W:Wd G nb ρ σ H)(s1:Step G.B H H1)(ha:H a=none)(e:H1 a=some (.dK ps))(hd:ay (fun x=>G.S nb f x\/x=a) H1 (ks.map bZ) ps):
  Wd G (fun x=>nb x\/x=a) (ρ.set i (.bU a f ks)) (σ.set i (some (.ref a))) H1:=by
 obtain⟨W2,hN,hA⟩:=W.grow s1 ha e
 refine W2.set ⟨rfl, .inr rfl,hN,ps,e,hd.av (hA f)⟩ (fun _ _ _ z=>by cases z) ?_ (fun x hx j t hj ht hc=>?_)
 rotate_left
 ·have hx:x=a:=cg.mp hx
  subst hx
  rcases hc with ⟨c,z⟩|⟨c,rfl⟩
  ·cases z
  ·exact fun z=>W.live x ((W.ok j _ ht).choose_spec.2.2.1 x z).1 ha
 rintro a' f' ds' ⟨rfl,rfl,rfl⟩ j c g cs hj hc z
 subst z
 obtain⟨x,e1,h1,h2,h3,ys,hy,_⟩:=W.ok j _ hc
 rw[hy] at ha;cases ha
theorem Sv.Pg(h:tG G ρ te fun f ks=>∀a,E.nx (ρ.set i (.bU a f ks))):Sv G ρ (iJ te (fG i)) E:=fun nb σ H D W K=>h nb σ H _ W fun f a ps H1 ks q s1 ha e hd=>K.nx _ _ _ H1 (q a) (MZ W s1 ha e hd)
theorem tG.new(h:Θ true []):tG G ρ GJ Θ:=fun nb σ H Q W z p hp=>z true p [] _ [] h (.same W.aA (dI hp)) hp aY (by unfold ay;rfl)
@[reducible] def V9(p:Int×PyData):PyData:= .tuple [.int p.1,p.2]
theorem LB{nb:Addr->Prop}{σ:St}{H:Hp}{a:Addr}{ps:List (Key×V)}{ks':Ks}(W:Wd G nb ρ σ H)(e:ρ[i]?=some (.bU a f ks))(hd:ay (G.S nb g) H (ks'.map bZ) ps):Wd G nb (ρ.set i (.bU a g ks')) σ (upd H a (.dK ps)):=by
 obtain⟨x,e1,h1,h2,h3,ys,hy,_⟩:=W.ok i _ e
 subst h1
 have hil:i<ρ.length:=(bQ.mp e).1
 have W0:Wd G nb (ρ.set i .no) (σ.set i (some (.ref a))) H:=W.set trivial fun _ _ _ z=>by cases z
 have W1:Wd G nb (ρ.set i .no) (σ.set i (some (.ref a))) (upd H a (.dK ps)):=W0.write h2 h3 (fun j c f' cs hc z=>by
   subst z
   have hij:i≠j:=fun z=>by subst z;rw[dH hil] at hc;cases hc
   rw[ck hij] at hc
   obtain⟨_,_,_,_,_,ps,hp,_⟩:=W.ok j _ hc
   rw[hy] at hp;cases hp) (fun j c f' cs hc=>by
   by_cases hij:i=j
   ·subst hij;rw[dH hil] at hc;cases hc
   ·rw[ck hij] at hc
    exact(W.eN i j _ _ _ _ _ _ hij e hc).symm) (fun j c hc z=>by
   have hij:i≠j:=fun z=>by subst z;rw[dH hil] at hc;cases hc
   rw[ck hij] at hc
   exact W.c7 j i c _ (bM hij) hc e a z (cg.mpr rfl))
 have W2:=W1.set (i:=i) (s:= .bU a g ks') (x:=some (.ref a)) ⟨rfl,h2,h3,ps,aY,hd.keep (bh.set (.inl h2))⟩ (fun _ _ _ z=>by cases z) (by
  rintro a' f' ds' ⟨rfl,rfl,rfl⟩ j c g' cs hj hc
  rw[ck (bM hj)] at hc
  exact W.eN i j _ _ _ _ _ _ (bM hj) e hc) (fun x hx j t hj ht hc z=>by
  rw[ck (bM hj)] at ht
  have hx:x=a:=cg.mp hx
  subst hx
  rcases hc with ⟨c,q⟩|⟨c,rfl⟩
  ·cases q
  ·exact W.c7 j i c _ hj ht e x z (cg.mpr rfl))
 rw[jB,jB] at W2
 have:σ.set i (some (.ref a))=σ:=by
  apply iw
  intro j
  by_cases hij:i=j
  ·subst hij;rw[dH (by rw[W.len];exact hil),e1]
  ·rw[ck hij]
 rwa[this] at W2
theorem Sv.N9{a:Addr}(e:ρ[i]?=some (.bU a f ks))(h:Ev G ρ te fun g d=>Ev G ρ tb fun _ y=>∃k,y= .int k/\ks.length<10000/\E.nx (ρ.set i (.bU a (f && g) (nG ks k d)))):Sv G ρ (iJ te (qN (fR i) tb yz)) E:=fun nb σ H D W KK=>
 h nb σ H _ W fun g v H1 d q s1 hv=>by
  obtain⟨x,e1,h1,h2,h3,ps,hp,hd⟩:=(W.step s1).ok i _ e
  subst h1
  refine⟨.ref a,e1,q nb σ H1 _ (W.step s1) fun g' u H2 y ⟨k,ey,hl,p⟩ s2 hu=>?_⟩
  subst ey
  have W2:=(W.step s1).step s2
  have hlen:=hd.len
  refine⟨a,ps, .inl k,rfl,hu.cD,s2.1 _ _ h3 hp,eE (by rw[hlen];exact hl) (by decide),KK.nx nb _ _ _ p (LB W2 e ?_)⟩
  exact ay.put ((hd.keep s2.eg).av (bI (fun z=>(cP _ _▸z).1) fun _ z=>z)) ((hv.keep s2.eg).av (bI (fun z=>(cP _ _▸z).2) fun _ z=>z))
namespace Ev
theorem VS{a:Addr}(e:ρ[i]?=some (.bU a f ks))(h:Ev G ρ tb fun _ y=>∃k,y= .int k/\∃d,fU ks k=some d/\Φ f d):Ev G ρ (dN jr (fR i) tb) Φ:=fun nb σ H Q W z=>by
 obtain⟨x,e1,h1,h2,h3,ps,hp,hd⟩:=W.ok i _ e
 subst h1
 refine⟨.ref a,e1,h nb σ H _ W fun g w H1 y ⟨k,ey,d,hv,p⟩ s1 hw=>?_⟩
 subst ey
 have:=ay.val k (hd.keep s1.eg)
 rw[hv] at this
 obtain⟨v,hv',hD⟩:=this
 exact⟨a,ps, .inl k,v,rfl,hw.cD, .inl (s1.1 _ _ h3 hp),hv',z f _ H1 _ p s1 hD⟩
theorem JG{a:Addr}(e:ρ[i]?=some (.bU a f ks))(h:Ev G ρ ta fun _ y=>∃k,y= .int k/\Ev G ρ tb fun g x=>Φ (f && g) ((fU ks k).getD x)):Ev G ρ (qb K "dict" BR (fR i) (bJ ta (bJ tb cF))) Φ:=fun nb σ H Q W z=>by
  obtain⟨x,e1,h1,h2,h3,ps,hp,hd⟩:=W.ok i _ e
  subst h1
  refine⟨.ref a,e1, .inr (.inr (.inl ⟨rfl, .inl ⟨_,hp⟩⟩)),?_⟩
  refine h nb σ H _ W fun g w H1 y ⟨k,ey,q⟩ s1 hw=>q nb σ H1 _ (W.step s1) fun g' u H2 x p s2 hu=>?_
  subst ey
  have hd2:=(hd.keep s1.eg).keep s2.eg
  have hv:=ay.val k hd2
  refine⟨a,ps, .inl k,u,rfl,by rw[hw.cD];rfl, .inl (s2.1 _ _ h3 (s1.1 _ _ h3 hp)),?_⟩
  cases hk:fU ks k with
  | none =>
    rw[hk] at hv p
    rw[hv]
    exact z _ _ H2 _ p (s1.trans s2) (hu.av (bI (fun z=>(cP _ _▸z).2) fun _ z=>z))
  | some d =>
    rw[hk] at hv p
    obtain⟨v,e',hD⟩:=hv
    rw[e']
    exact z _ _ H2 _ p (s1.trans s2) (hD.av (bI (fun z=>(cP _ _▸z).1) fun _ z=>z))
end Ev
end
def EU(ng:Bool):R2:=fun x y H Q=>∃a o,y= .ref a/\GF H a x o/\Q (.bl (o.isSome !=ng)) H
theorem Ng{X:Cx}(hu:X.A.units+64<cLine):dZ X (compareOp .In) (EU false):=by
 intro pins s σ H x y v u Q I rx ry h
 obtain⟨a,o,rfl,g,q⟩:=h
 cases ry
 exact LQ (by omega) I g rx fun s' I'=>⟨.bl o.isSome,H,I',rfl,by simpa using q⟩
section
variable{G:Gx}{ρ:Rh}{Φ:Pd}{ta tb te:TE}{i:Nat}{f:Bool}{ks:Ks}{K:PySem.W.Frag}{E:DE}
theorem PX{nb:Addr->Prop}{σ:St}{H:Hp}{a:Addr}(W:Wd G nb ρ σ H)(e:ρ[i]?=some (.bU a f ks)):Wd G (fun x=>nb x/\x≠a) (ρ.set i (.d f (.dict (ks.map bZ)))) σ H:=by
  obtain⟨x,e1,h1,h2,h3,xs,hx,hd⟩:=W.ok i _ e
  subst h1
  have hil:i<ρ.length:=(bQ.mp e).1
  have W0:Wd G nb (ρ.set i .no) (σ.set i (some (.ref a))) H:=W.set trivial fun _ _ _ z=>by cases z
  have W1:Wd G (fun x=>nb x/\x≠a) (ρ.set i .no) (σ.set i (some (.ref a))) H:=by
    refine⟨W0.aA,fun x n=>W0.live x n.1,W0.old,fun x n=>W0.cU x n.1,W0.gA,W0.len,W0.gB,fun h m=>(W0.eG h m).av (bI (fun z=>z) fun _ z=>z.1),fun j s e'=>?_,W0.apart,W0.eN,W0.c7⟩
    obtain⟨x,iV,h⟩:=W0.ok j s e'
    refine⟨x,iV,?_⟩
    have hij:s≠ .no->i≠j:=fun n z=>by subst z;rw[dH hil] at e';cases e';exact n rfl
    cases s with
    |no=>trivial
    |d f d=>obtain⟨v,e,h⟩:=h;exact⟨v,e,h.av (bI (fun z=>z) fun _ z=>z.1)⟩
    | own c f es =>
      obtain⟨e2,n,q,ys,hy,hd'⟩:=h
      have hca:c≠a:=fun z=>by subst z;rw[hx] at hy;cases hy
      exact⟨e2,⟨n,hca⟩,q,ys,hy,hd'.av (bI (fun z=>z) fun _ z=>z.1)⟩
    |aA=>exact h
    |raw v=>exact h
    | bU c f es =>
      obtain⟨e2,n,q,ps,hp,hd'⟩:=h
      have hij:=hij (by intro z;cases z)
      rw[ck hij] at e'
      exact⟨e2,⟨n,(W.eN i j _ _ _ _ _ _ hij e e').symm⟩,q,ps,hp,hd'.av (bI (fun z=>z) fun _ z=>z.1)⟩
    | cu c =>
      obtain⟨e2,n,q⟩:=h
      have hij:=hij (by intro z;cases z)
      rw[ck hij] at e'
      exact⟨e2,fun x hx=>⟨⟨(n x hx).1,fun z=>W.c7 j i c _ (bM hij) e' e x hx (by rw[z];exact cg.mpr rfl)⟩,(n x hx).2⟩,c.av (bI (fun z=>z) fun _ z=>z.1) q⟩
  have W2:=W1.nF (i:=i) (f:=f) (d:= .dict (ks.map bZ)) (v:= .ref a) (by
    unfold aj
    refine⟨a,xs,rfl,fun z=>?_, .inl hx,hd.av (bI (fun z=>z) fun _ z=>z.1)⟩
    rcases z with z|z|z|z
    · exact z.2 rfl
    · exact W.gA a z (W.cU a h2 h3)
    · exact z h3
    · exact z.2 (W.cU a h2 h3))
  rw[jB,jB] at W2
  have:σ.set i (some (.ref a))=σ:=by
    apply iw
    intro j
    by_cases hij:i=j
    · subst hij;rw[dH (by rw[W.len];exact hil),e1]
    · rw[ck hij]
  rwa[this] at W2
theorem Sv.Mu{s:TS}{a:Addr}(i:Nat)(e:ρ[i]?=some (.bU a f ks))(h:Sv G (ρ.set i (.d f (.dict (ks.map bZ)))) s E):Sv G ρ s E:=fun nb σ H D W K=>h _ σ H D (PX W e) K
theorem Ev.n6(h:Ev G ρ ta fun f x=>∃ks:Ks,x= .dict (ks.map bZ)/\Ev G ρ tb fun _ y=>∃k,y= .int k/\∃d,fU ks k=some d/\Φ f d):Ev G ρ (dN jr ta tb) Φ:=
 Ev.jg (h.mono fun f x ⟨ks,ex,q⟩=>q.mono fun g y ⟨k,ey,d,hv',p⟩ nb σ H u v Q W hu hv z=>by
  subst ex ey
  unfold aj at hu
  obtain⟨a,ps,rfl,n,hp,hd⟩:=hu
  have:=ay.val k hd
  rw[hv'] at this
  obtain⟨w,hw,hD⟩:=this
  exact⟨a,ps, .inl k,w,rfl,hv.cD,hp,hw,z f _ H _ p (.refl W.aA) hD⟩)
end
end L2
set_option maxRecDepth 100000
set_option maxHeartbeats 4000000
set_option maxRecDepth 100000
set_option maxHeartbeats 4000000
namespace L2
open PySem PySem.Spec PyProof.Rows
structure Mw(n:Int)(cs:List aq):Prop where
 n0:1<=n
 n1:n<=10
 c0:cs≠[]
 c1:cs.length<=8
 ok:∀prs∈cs,prs≠[]/\prs.length<=4/\(prs.map (·.1)).Pairwise (· < ·)/\∀pr∈prs,0<=pr.1/\pr.1<n
section
variable{n:Int}{cs:List aq}(h:Mw n cs)
include h
end
end L2
set_option maxRecDepth 100000
set_option maxHeartbeats 4000000
namespace L2
open PySem PySem.Spec PyProof.Rows
theorem SE:∀m n:Nat,∃u v:Int,u*m+v*n=(Nat.gcd m n:Int):=fun m n=>by
  induction m,n using Nat.gcd.induction with
  |H0 n=>exact⟨0,1,by simp⟩
  | H1 m n hm ih =>
    obtain⟨u,v,e⟩:=ih
    rw[Nat.gcd_rec]
    refine⟨v-u*(n/m:Nat),u,?_⟩
    rw[<-e]
    have h:(n:Int)=((n%m:Nat):Int)+(m:Int)*((n/m:Nat):Int):=by exact_mod_cast (Nat.mod_add_div n m).symm
    generalize ((n/m:Nat):Int)=z at h⊢
    generalize ((n%m:Nat):Int)=y at h⊢
    rw[h]
    grind
theorem KQ{p b a:Int}(hp:fO p)(hb:b%p≠0):∃k,b*sol p b a-a=p*k:=by
 have p2:=hp.1
 have hex:∃x,0<=x/\x<p/\∃k,b*x-a=p*k:=by
  have hg:Nat.gcd p.natAbs b.natAbs=1:=by
   have d1:(Int.gcd p b:Int)∣p:=Int.gcd_dvd_left ..
   have d2:(Int.gcd p b:Int)∣b:=Int.gcd_dvd_right ..
   have h0:0<(Int.gcd p b:Int):=by
    have:Int.gcd p b≠0:=fun z=>by have:=(Jj.mp z).1;omega
    omega
   rcases hp.2 _ h0 d1 with e|e
   ·show Int.gcd p b=1
    omega
   ·rw[e] at d2;exact absurd (zj d2) hb
  obtain⟨u,v,e⟩:=SE p.natAbs b.natAbs
  rw[hg] at e
  obtain⟨v',e'⟩:∃v',u*p+v'*b=1:=by
   have Qy:(p.natAbs:Int)=p:=by omega
   rw[Qy] at e
   rcases(show(b.natAbs:Int)=b\/(b.natAbs:Int)= -b by omega) with h|h<;>rw[h] at e
   ·exact⟨v,e⟩
   ·exact⟨-v,by have e2:u*p+v* -b=1:=e;rw[<-e2];grind⟩
  refine⟨(v'*a)%p,gJ _ (by omega),gy _ (by omega),?_⟩
  have h1:=Hh (v'*a) p
  generalize v'*a/p=t at h1
  generalize hx:v'*a%p=x at h1
  refine⟨-u*a-b*t,?_⟩
  have:b*x=b*(v'*a)-b*(p*t):=by rw[<-h1];grind
  rw[this]
  have h2:b*(v'*a)=(1-u*p)*a:=by rw[<-e'];grind
  rw[h2]
  grind
 unfold sol
 rw[dif_pos hex]
 exact(qF hex).2.2
end L2
set_option maxRecDepth 100000
set_option maxHeartbeats 4000000
set_option maxRecDepth 100000
set_option maxHeartbeats 4000000
namespace L2
open PySem PySem.Spec PyProof.Rows
def jy(G:Gx)(ρ:Rh)(te:TE)(Φ:PyData->Prop):Prop:=∀nb σ H (Q:VK),Wd G nb ρ σ H->(∀v H' d,Φ d->Step G.B H H'->aj (fun a=>H a≠none) H' d v->Q v H')->te σ H Q
section
variable{G:Gx}{ρ:Rh}{ta tb te:TE}{t:TA}{E:DE}{i j k m:Nat}{f:Bool}{K:PySem.W.Frag}{Φ:PyData->Prop}
theorem Wd.Gj{nb:Addr->Prop}{σ:St}{H H1:Hp}{a:Addr}(W:Wd G nb ρ σ H)(s:Step G.B H H1)(h:H a≠none):H1 a≠none:=fun e=>h (W.none_of s e)
theorem jy.lG{n:Nat}{F:DF}(hm:cO F)(e:ρ[i]?=some .aA)(h:Av G ρ t fun es=>es.length+1=n/\F (es.map (·.2)) fun f d=>f=true/\Φ d):jy G ρ (i9 (fX n F) [] E0 (bJ (fR i) t)) Φ:=fun nb σ H Q W z=>by
 obtain⟨b,l,hB,e1,B⟩:=W.vd e
 refine⟨.ref b,e1,h nb σ H _ W fun es vs H1 ⟨hl,p⟩ s1 q1=>?_⟩
 have W1:=W.step s1
 show fX n F ((V.ref b::vs)++[]) H1 Q E0
 rw[ig]
 have hb:∀f,G.S nb f b:=fun f=> .inr (.inr (.inl fun n=>n b l hB rfl))
 refine⟨by rw[fM,q1.len,hl],b,l,vs,G.S nb (iM es),es.map (·.2),rfl,W1.aA b l hB,W1.lX,hb _,q1.all fun z=>z,hm _ _ _ p fun f d ⟨hf,hp⟩ v H' bt B' hd=>z v H' d hp (s1.trans (.sV hB bt B')) (hd.av fun a q=>?_)⟩
 exact .inr ⟨hf,W.Gj s1 q⟩
theorem jy.aV{n:Nat}{F:DF}(hm:cO F)(h:Av G ρ t fun es=>es.length=n/\F (es.map (·.2)) fun f d=>f=true/\Φ d):jy G ρ (i9 (aS n F) [] E0 t) Φ:=fun nb σ H Q W z=>
 h nb σ H _ W fun es vs H1 ⟨hl,p⟩ s1 q1=>by
  have W1:=W.step s1
  rw[ig]
  refine⟨by rw[q1.len,hl],G.S nb (iM es),es.map (·.2),W1.lX,q1.all fun z=>z,hm _ _ _ p fun f d ⟨hf,hp⟩ v H' sm hd=>z v H' d hp (s1.trans (.same W1.aA sm)) (hd.av fun a q=>?_)⟩
  exact .inr ⟨hf,W.Gj s1 q⟩
end
end L2
set_option maxRecDepth 100000
set_option maxHeartbeats 1000000
set_option maxRecDepth 100000
set_option maxHeartbeats 4000000
namespace L2
open PySem PySem.Spec PyProof.Rows
def Ox(k7:List Int)(prs:aq):Nat:=(prs.filter fun pr=>decide (pr.1∈k7)).length
def EY(cs:List aq)(k7:List Int):Bool:=cs.all fun prs=>decide (Ox k7 prs≠1)
def j9(L:List Int)(ks:Ks):Prop:=∃ms:List Int,ms.Nodup/\(∀c,c∈ms↔c∈L)/\ks=ms.map fun c=>(c,PyData.int (L.count c))
theorem ou{g:Int->PyData}{c:Int}:∀{ms:List Int},fU (ms.map fun c=>(c,g c)) c=if c∈ms then some (g c) else none
  |[]=>rfl
  | m :: ms => by
    rw[bR,pV,ou]
    by_cases h:m=c
    · subst h;simp
    · have h':¬c=m:=fun z=>h z.symm
      simp[h,h']
theorem j9.nil:j9 [] []:=⟨[],BN,fun _=>rz,rfl⟩
theorem j9.get{L:List Int}{ks:Ks}(h:j9 L ks)(c:Int):(fU ks c).getD (.int 0)= .int (L.count c):=by
 obtain⟨ms,nd,hm,rfl⟩:=h
 rw[ou]
 by_cases e:c∈ms
 ·rw[if_pos e];rfl
 ·rw[if_neg e]
  have:L.count c=0:=vP.mpr fun z=>e ((hm c).mpr z)
  rw[this];rfl
theorem j9.put{L:List Int}{ks:Ks}(h:j9 L ks)(c:Int):j9 (L++[c]) (nG ks c (.int ((L.count c:Int)+1))):=by
 obtain⟨ms,nd,hm,rfl⟩:=h
 have hcc:∀x,(L++[c]).count x=L.count x+if c=x then 1 else 0:=fun x=>by
  rw[List.count_append,ET]
  by_cases e:c=x
  ·subst e;simp
  ·simp[e]
 unfold nG
 have hk:nB (ms.map fun c=>(c,PyData.int (L.count c))) c=decide (c∈ms):=by
  rw[mh,RW,dz,decide_eq_true_eq]
  have:(ms.map ((·.1)∘fun c=>(c,PyData.int (L.count c))))=ms:=List.map_id'' (fun _=>rfl) ms
  rw[this]
 rw[hk]
 by_cases e:c∈ms
 ·rw[if_pos (decide_eq_true e)]
  refine⟨ms,nd,fun x=>?_,?_⟩
  ·rw[gP,cg,hm x]
   exact⟨.inl,fun z=>z.elim id fun z=>by rw[z];exact(hm c).mp e⟩
  ·rw[dz]
   apply fQ
   intro x hx
   show(if x=c then(x,PyData.int ((L.count c:Int)+1)) else(x, .int (L.count x)))=_
   rw[hcc x]
   by_cases z:x=c
   ·subst z;simp
   ·rw[if_neg z,if_neg (fun w=>z w.symm)];rfl
 ·rw[if_neg (by simpa using e)]
  refine⟨ms++[c],?_,fun x=>?_,?_⟩
  ·rw[zR]
   exact⟨nd,by simp,fun a ha b hb z=>by rw[cg.mp hb] at z;exact e (z▸ha)⟩
  ·rw[gP,gP,hm x]
  ·rw[cN]
   congr 1
   ·apply fQ
    intro x hx
    rw[hcc x,if_neg (fun w=>by subst w;exact e hx)];rfl
   ·show[(c,PyData.int ((L.count c:Int)+1))]=[(c,PyData.int (((L++[c]).count c:Nat):Int))]
    rw[hcc c,if_pos rfl];rfl
end L2
set_option maxRecDepth 100000
set_option maxHeartbeats 4000000
set_option maxRecDepth 100000
set_option maxHeartbeats 4000000
namespace L2
open PySem PySem.Spec PyProof.Rows
section
variable{G:Gx}{ρ:Rh}{ta tb te:TE}{t:TA}{E:DE}{i j m n:Nat}{f:Bool}{K K2 K3:PySem.W.Frag}{Φ:Pd}
theorem Ev.Es(h:jy G ρ te fun d=>Φ true d):Ev G ρ te Φ:=fun nb σ H Q W z=>h nb σ H Q W fun v H' d p st hd=>z true v H' d p st (hd.av fun a q=>W.lX a q)
end
structure GY(cs:List aq)(k7 g:List Int):Prop where
 sub:∃q:Int->Bool,g=k7.filter q
 out:EY cs g=true
 max:∀T:List Int,(∀x∈T,x∈k7)->EY cs T=true->∀x∈T,x∈g
@[reducible] def WD(S:List Int):Ks:=S.map fun x=>(x,PyData.bool true)
end L2
set_option maxRecDepth 100000
set_option maxHeartbeats 4000000
namespace L2
open PySem PySem.Spec PyProof.Rows
theorem GY.mem{cs:List aq}{k7 g:List Int}(h:GY cs k7 g):∀x∈g,x∈k7:=fun x hx=>by
 obtain⟨q,e⟩:=h.sub
 rw[e] at hx
 exact(j3.mp hx).1
end L2
set_option maxRecDepth 100000
set_option maxHeartbeats 4000000
namespace L2
open PySem PySem.Spec PyProof.Rows
def Fb(row:List Int):Int:=match row.getLast? with|none=>0|some l=>l+1
def RD(n:Int)(row:List Int):List Int:=(List.range (n-Fb row).toNat).map fun(i:Nat)=>Fb row+(i:Int)
def ext(n:Int)(row:List Int):List (List Int):=(RD n row).map fun p=>row++[p]
@[reducible] def WG:Option (List Int)->PyData
 |none=> .none
 |some r=>bO r
end L2
set_option maxRecDepth 100000
set_option maxHeartbeats 4000000
set_option maxRecDepth 100000
set_option maxHeartbeats 4000000
set_option maxRecDepth 100000
set_option maxHeartbeats 4000000
set_option maxRecDepth 100000
set_option maxHeartbeats 4000000
namespace L2
open PySem PySem.Spec PyProof.Rows
def gI(r:List Int)(i:Nat):Int:=r.getD i 0
theorem Ev.inv{G:Gx}{ρ:Rh}{t:TA}{Φ:Pd}(h:Av G ρ t fun es=>∃p b:Int,es.map (·.2)=[.int p, .int b]/\fO p/\p<10^40/\b%p≠0/\∀u:Int,0<=u->u<p->(∃k,u*b=1+p*k)->Φ true (.int u)):
  Ev G ρ (i9 zN [] E0 t) Φ:=fun nb σ H Q W z=>
 h nb σ H _ W fun es vs H1 ⟨p,b,e,h1,h2,h3,q⟩ s1 q1=>by
  have hd:=q1.all (f:=false) (fun z=>by cases z)
  rw[e] at hd
  unfold ah at hd
  obtain⟨x,ys,rfl,d1,hd⟩:=hd
  unfold ah at hd
  obtain⟨y,zs,rfl,d2,hd⟩:=hd
  unfold ah at hd
  subst hd
  rw[d1.cD,d2.cD]
  exact⟨p,b,rfl,h1,h2,h3,fun u u0 u1 u2=>z true _ H1 _ (q u u0 u1 u2) s1 (.int u)⟩
def co(prs:aq)(j:Nat):Int:=(prs.map fun pr=>if pr.1.toNat=j then pr.2 else 0).sum
def jD(p:Int)(m:Nat)(prs:aq):Prop:=(prs.map (·.1)).Nodup/\prs.length<=1000/\∀pr∈prs,0<=pr.1/\pr.1<m/\1<=pr.2/\pr.2<p
theorem jy.ES{G:Gx}{ρ:Rh}{te:TE}{f:Bool}{Ψ:PyData->Prop}{a:Addr}{ds:List PyData}(i:Nat)(e:ρ[i]?=some (.own a f ds))(h:jy G (ρ.set i (.d f (.list ds))) te Ψ):jy G ρ te Ψ:=fun nb σ H Q W z=>h _ σ H Q (Sv.share W e) z
end L2
set_option maxRecDepth 100000
set_option maxHeartbeats 4000000
namespace L2
open PySem PySem.Spec PyProof.Rows
def ny(a:Addr)(o:Obj)(ps:List (Key×V)):It:=
 ⟨fun i H=>H a=some (.bY o (.dK ps))/\i<ps.length,fun i H x H'=>H'=H/\∃p,ps[i]?=some p/\x=kV p.1,fun i H=>H a=some (.bY o (.dK ps))/\ps.length=i⟩
theorem Ln{P:Program}{w:World}{k:Key}{v:Value}(h:(dJ P w).is k v=true):RelV (kV k) v:=by
 cases k with
 |inl i=>obtain⟨t,rfl⟩:=rP (k:=i) (v:=v) h;exact⟨t,rfl⟩
 |inr x=>obtain⟨t,rfl⟩:=Value.isStrOf_shape (v:=v) h;exact⟨t,rfl⟩
theorem J5{P:Program}{w:World}{K:PySem.W.Frag}{tg:Expr}(a it:Addr)(hne:a≠it){o:Obj}{ps:List (Key×V)}{vs:List (Key×Value)}{ep:Nat}(rel:KV ps vs)
  (hD:∀h:Heap,h.get? a=some o->h.DictAt (dJ P w) a vs ep):Turn P w K tg (ny a o ps) [it] it (fun i h=>h.IsKeyIter it a i vs.length ep) where
 mem:=by simp
 obj:=fun i h st b hb=>by
  have e:b=it:=by simpa using hb
  subst e
  obtain⟨o,e,c,d⟩:=st
  exact⟨o,e,fun v z=>by rw[d] at z;cases z⟩
 keep:=fun i h h' st k=>st.at fun o e=>k it (by simp) o e
 item:=by
  intro X hP hw hK hc i pins s σ H E I hf st hg
  subst hP hw hK
  obtain⟨hq,hi⟩:=hg
  obtain⟨ho,_⟩:=(show bT X.prog X.w H s.heap a (.bY o (.dK ps)) from I.hok a _ hq)
  have W:=Walks.dictKeys (knd:=dJ X.prog X.w) (A:=X.A) (I.ok.hd hc) it a hne vs ep
  obtain⟨f0,f1,f2,f3,f4,f5⟩:=hf it (by simp)
  refine W.item i s _ _ (by rw[<-rel.length];exact hi) ⟨st,hD _ ho⟩ fun v h' tk hv st' kp=>?_
  obtain⟨k,x,hk,hkv⟩:=hv
  have I1:Inv X pins σ H {s with heap:=h',toks:=tk}:=I.turned (t':=tk) (fun b o hb e=>kp b o (by simpa using hb) e) f0 f1 f3 f4 f5
  obtain⟨oi,e,c,d⟩:=id st'.1
  have hpk:∃p,ps[i]?=some p/\kV k=kV p.1:=by
   have h1:(ps.map (·.1))[i]?=(vs.map (·.1))[i]?:=by rw[rel.keys]
   rw[aX,aX,hk,aQ hi] at h1
   exact⟨_,aQ hi,congrArg kV (gn h1).symm⟩
  exact⟨v,rfl,Aa (s:={s with heap:=h',toks:=tk}) e c d (by decide) ⟨kV k,H,I1,Ln hkv,⟨rfl,hpk⟩,st'.1,fun b hb=>(hf b hb).1⟩⟩
 done:=by
  intro X hP hw hK hc i pins s σ H E I hf st hg
  subst hP hw hK
  obtain⟨hq,hi⟩:=hg
  obtain⟨ho,_⟩:=(show bT X.prog X.w H s.heap a (.bY o (.dK ps)) from I.hok a _ hq)
  have W:=Walks.dictKeys (knd:=dJ X.prog X.w) (A:=X.A) (I.ok.hd hc) it a hne vs ep
  obtain⟨f0,f1,f2,f3,f4,f5⟩:=hf it (by simp)
  have hl:=rel.length
  refine W.done s _ _ ⟨by rw[<-hl,hi];rw[<-hl,hi] at st;exact st,hD _ ho⟩ fun h' tk kp=>⟨rfl,?_⟩
  exact I.turned (t':=tk) (fun b o hb e=>kp b o (by simpa using hb) e) f0 f1 f3 f4 f5
 self:=fun _ _ _ _ _ st h=>wpAny_pyIter_keyiter st h
def vm(X:Cx)(a:Addr):Prop:=∀o u,X.H₀ a≠some (.bY o u)
section
variable{X:Cx}{pins:List (Addr×Obj)}{σ:List (Option V)}{H:Hp}{s:Shared}
theorem Inv.freeze{a:Addr}{ps:List (Key×V)}{o:Obj}(I:Inv X pins σ H s)(h:H a=some (.dK ps))(ho:s.heap.get? a=some o):Inv X pins σ (upd H a (.bY o (.dK ps))) s:=by
 have ne:∀b u,H b=some u->(∀z,u≠ .dK z)->b≠a:=fun b u q z e=>by subst e;rw[h] at q;cases q;exact z _ rfl
 have nn:∀b,H b=none->b≠a:=fun b q e=>by subst e;rw[h] at q;cases q
 refine I.step (h':=s.heap) (g':=s.gens) (d':=s.drawn) (t':=s.toks) (ch:=[]) (fun _ z=>nomatch z) (fun b o _ _ _ e _=>e) (fun b o _ _ _ e _=>⟨o.slots,e⟩) (fun b o _ e n=>by rw[az (nn b n)];exact n) (fun b o _ e=>⟨o,e⟩)
  (fun b xs q=>by rw[az (ne b _ q (fun z=>nofun))];exact q) (fun b o u q=>by rw[az (ne b _ q (fun z=>nofun))];exact q) (fun b p q=>⟨#[],by rw[az (ne b _ q (fun z=>nofun)),q];simp⟩) (fun m hm=>hm) (fun b u q=>?_) I.bare
 by_cases hb:b=a
 ·subst hb
  rw[aY] at q;cases q
  refine⟨ho,(I.hok b _ h).stay (fun c v hc z=>z) (fun c z=>?_) fun c xs z=>?_⟩
  ·rw[az (ne c _ z (fun z=>nofun))];exact z
  ·rw[az (ne c _ z (fun z=>nofun))];exact z
 ·rw[az hb] at q
  refine(I.hok b u q).stay (fun c v hc z=>z) (fun c z=>?_) fun c xs z=>?_
  ·rw[az (ne c _ z (fun z=>nofun))];exact z
  ·rw[az (ne c _ z (fun z=>nofun))];exact z
theorem Inv.lM{a:Addr}{ps:List (Key×V)}{o:Obj}(I:Inv X pins σ H s)(h:H a=some (.bY o (.dK ps)))(nf:vm X a):Inv X pins σ (upd H a (.dK ps)) s:=by
 have ne:∀b u,H b=some u->(∀z z',u≠ .bY z z')->b≠a:=fun b u q z e=>by subst e;rw[h] at q;cases q;exact z _ _ rfl
 have nn:∀b,H b=none->b≠a:=fun b q e=>by subst e;rw[h] at q;cases q
 refine⟨I.ok,I.os,I.bare,⟨I.base.keep,I.base.slot,fun b o q n hx=>?_,I.base.there,fun b xs q=>?_,fun b o u q=>?_,fun b p q=>?_⟩,I.loc,I.cell,?_,fun x c e=>?_,fun p hp=>?_,fun b u q=>?_,I.len⟩
 ·have z:=I.base.free b o q n hx
  rw[az (nn b z)];exact z
 ·have z:=I.base.tups b xs q
  rw[az (ne b _ z (fun _ z=>nofun))];exact z
 ·have z:=I.base.jU b o u q
  have:b≠a:=fun e=>by subst e;exact nf _ _ q
  rw[az this];exact z
 ·obtain⟨m,z⟩:=I.base.kW b p q
  exact⟨m,by rw[az (ne b _ z (fun _ z=>nofun))];exact z⟩
 ·rw[az (nn _ I.free)];exact I.free
 ·rw[az (nn _ (I.i8 x c e))];exact I.i8 x c e
 ·obtain⟨z1,z2,z3⟩:=I.pin p hp
  exact⟨z1,by rw[az (nn _ z2)];exact z2,z3⟩
 ·by_cases hb:b=a
  ·subst hb
   rw[aY] at q;cases q
   have w:=(show bT X.prog X.w H s.heap b (.dK ps) from(Rd.ok (.inr ⟨o,h⟩) I.hok))
   refine w.stay (fun c v hc z=>z) (fun c z=>?_) fun c xs z=>?_
   ·rw[az (ne c _ z (fun _ z=>nofun))];exact z
   ·rw[az (ne c _ z (fun _ z=>nofun))];exact z
  ·rw[az hb] at q
   refine(I.hok b u q).stay (fun c v hc z=>z) (fun c z=>?_) fun c xs z=>?_
   ·rw[az (ne c _ z (fun _ z=>nofun))];exact z
   ·rw[az (ne c _ z (fun _ z=>nofun))];exact z
end
def kH(NF:Addr->Prop)(Q:Hp->Prop)(H:Hp):Prop:=Q H\/∃a o ps,H a=some (.bY o (.dK ps))/\NF a/\Q (upd H a (.dK ps))
def L4(NF:Addr->Prop)(D:Ends):Ends:={nx:=fun σ=>kH NF (D.nx σ),rt:=fun v=>kH NF (D.rt v),bk:=fun σ=>kH NF (D.bk σ),ct:=fun σ=>kH NF (D.ct σ)}
def DL(NF:Addr->Prop)(ts:TS):TS:=fun D σ H=>ts (L4 NF D) σ H
section
variable{X:Cx}
theorem kH.inv{pins:List (Addr×Obj)}{σ:St}{H:Hp}{s:Shared}{Q:Hp->Prop}(I:Inv X pins σ H s)(h:kH (vm X) Q H):∃H',Inv X pins σ H' s/\Q H':=by
 rcases h with h|⟨a,o,ps,e,nf,q⟩
 ·exact⟨H,I,h⟩
 ·exact⟨_,I.lM e nf,q⟩
theorem Oc{st:Stmt}{ts:TS}(h:PS X st ts):PS X st (DL (vm X) ts):=by
 intro pins s σ H D I q
 refine aT (h pins s σ H _ I q) fun f s7 q7=>?_
 cases f with
 |next=>obtain⟨fT,H7,I7,n7⟩:=q7;obtain⟨H8,I8,q8⟩:=kH.inv I7 n7;exact⟨fT,H8,I8,q8⟩
 |cont=>obtain⟨fT,H7,I7,n7⟩:=q7;obtain⟨H8,I8,q8⟩:=kH.inv I7 n7;exact⟨fT,H8,I8,q8⟩
 |brk=>obtain⟨fT,H7,I7,n7⟩:=q7;obtain⟨H8,I8,q8⟩:=kH.inv I7 n7;exact⟨fT,H8,I8,q8⟩
 |ret v=>obtain⟨x7,fT,H7,I7,r7,n7⟩:=q7;obtain⟨H8,I8,q8⟩:=kH.inv I7 n7;exact⟨x7,fT,H8,I8,r7,q8⟩
def Fw(NF:Addr->Prop)(tl:TE):TI:=fun σ H R=>tl σ H fun x H1=>∃a ps,x= .ref a/\((H1 a=some (.dK ps)/\∀o,NF a->R (ny a o ps) (upd H1 a (.bY o (.dK ps))))\/∃o,H1 a=some (.bY o (.dK ps))/\R (ny a o ps) H1)
theorem Q6{tg l:Expr}{tl:TE}(hl:PE X l tl):PI X tg l (Fw (vm X) tl):=by
 intro pins s σ H R I h
 refine aT (hl pins s σ H _ I h) fun v s1 ⟨x,H1,I1,r1,q1⟩=>?_
 obtain⟨a,ps,e,q⟩:=q1
 subst e
 cases r1
 have key:∃o H2,s1.heap.get? a=some o/\H2 a=some (.bY o (.dK ps))/\Inv X pins σ H2 s1/\R (ny a o ps) H2:=by
  rcases q with ⟨h1,q⟩|⟨o,h1,q⟩
  ·obtain⟨z,hd,vs,rel,o,es,ep,ho,r⟩:=FN I1.hok h1
   refine⟨o,_,ho,aY,I1.freeze h1 ho,q o fun o' u' z=>?_⟩
   rw[I1.base.jU _ _ _ z] at h1;cases h1
  ·obtain⟨ho,_⟩:=(show bT X.prog X.w H1 s1.heap a (.bY o (.dK ps)) from I1.hok a _ h1)
   exact⟨o,H1,ho,h1,I1,q⟩
 obtain⟨o,H2,ho,h2,I2,q⟩:=key
 obtain⟨z,hd,vs,rel,dd⟩:=oS I2.hok (.inr ⟨o,h2⟩)
 obtain⟨ep,hat⟩:=dd.dictAt
 refine wpAny_pyIter_dict hd hat ?_
 refine⟨s1.heap.objs.size,[s1.heap.objs.size],_,_,H2,rfl,I2.kept (t':=s1.toks) fun b o e=>bV _ e,J5 a _ (cV (bC ho)) rel (fun h hh=>hat.at' fun o' e=>by rw[ho] at e;cases e;exact hh),⟨_,fN _ rfl,rfl,rfl⟩,fun b hb=>?_,q⟩
 have e:b=s1.heap.objs.size:=by simpa using hb
 subst e
 exact I2.pY (aI _) (I2.hok.fresh (aI _))
end
structure Mv(H H':Hp):Prop where
 lst:∀b xs,H b=some (.lst xs)->H' b=some (.lst xs)
 tup:∀b xs,H b=some (.tup xs)->H' b=some (.tup xs)
 bU:∀b ps,Rd H b (.dK ps)->Rd H' b (.dK ps)
mutual
theorem aj.mv{S:Addr->Prop}{H H':Hp}(m:Mv H H'):∀{d:PyData} {v:V},aj S H d v->aj S H' d v
 | .none,_,h=>by unfold aj at h⊢;exact h
 | .bool _,_,h=>by unfold aj at h⊢;exact h
 | .int _,_,h=>by unfold aj at h⊢;exact h
 | .str _,_,h=>by unfold aj at h⊢;exact h
 | .list ds,_,h=>by unfold aj at h⊢;obtain⟨a,xs,e,n,s,r⟩:=h;exact⟨a,xs,e,n,m.lst _ _ s,ah.mv m r⟩
 | .tuple ds,_,h=>by unfold aj at h⊢;obtain⟨a,xs,e,n,s,r⟩:=h;exact⟨a,xs,e,n,m.tup _ _ s,ah.mv m r⟩
 | .dict kvs,_,h=>by unfold aj at h⊢;obtain⟨a,xs,e,n,s,r⟩:=h;exact⟨a,xs,e,n,m.bU _ _ s,ay.mv m r⟩
theorem ah.mv{S:Addr->Prop}{H H':Hp}(m:Mv H H'):∀{ds:List PyData} {vs:List V},ah S H ds vs->ah S H' ds vs
 |[],_,h=>by unfold ah at h⊢;exact h
 |d::ds,_,h=>by unfold ah at h⊢;obtain⟨y,ys,e,h1,h2⟩:=h;exact⟨y,ys,e,aj.mv m h1,ah.mv m h2⟩
theorem ay.mv{S:Addr->Prop}{H H':Hp}(m:Mv H H'):∀{ds:List (PyData×PyData)} {vs:List (Key×V)},ay S H ds vs->ay S H' ds vs
 |[],_,h=>by unfold ay at h⊢;exact h
 |d::ds,_,h=>by unfold ay at h⊢;obtain⟨y,ys,e,h1,h2⟩:=h;exact⟨y,ys,e,cM.mv m h1,ay.mv m h2⟩
theorem cM.mv{S:Addr->Prop}{H H':Hp}(m:Mv H H'):∀{d:PyData×PyData} {v:Key×V},cM S H d v->cM S H' d v
 |(k,d),_,h=>by unfold cM at h⊢;exact⟨h.1,aj.mv m h.2⟩
end
theorem Mv.bY{H:Hp}{a:Addr}{o:Obj}{ps:List (Key×V)}(h:H a=some (.dK ps)):Mv H (upd H a (.bY o (.dK ps))) where
 lst:=fun b xs q=>by rw[az (fun e=>by subst e;rw[h] at q;cases q)];exact q
 tup:=fun b xs q=>by rw[az (fun e=>by subst e;rw[h] at q;cases q)];exact q
 bU:=fun b qs q=>by
  by_cases e:b=a
  ·subst e
   rcases q with q|⟨u,q⟩
   ·rw[h] at q;cases q;exact .inr ⟨o,aY⟩
   ·rw[h] at q;cases q
  ·rcases q with q|⟨u,q⟩
   ·exact .inl (by rw[az e];exact q)
   ·exact .inr ⟨u,by rw[az e];exact q⟩
theorem Mv.lM{H:Hp}{a:Addr}{o:Obj}{ps:List (Key×V)}(h:H a=some (.bY o (.dK ps))):Mv H (upd H a (.dK ps)) where
 lst:=fun b xs q=>by rw[az (fun e=>by subst e;rw[h] at q;cases q)];exact q
 tup:=fun b xs q=>by rw[az (fun e=>by subst e;rw[h] at q;cases q)];exact q
 bU:=fun b qs q=>by
  by_cases e:b=a
  ·subst e
   rcases q with q|⟨u,q⟩
   ·rw[h] at q;cases q
   ·rw[h] at q;cases q;exact .inl aY
  ·rcases q with q|⟨u,q⟩
   ·exact .inl (by rw[az e];exact q)
   ·exact .inr ⟨u,by rw[az e];exact q⟩
def jh(a:Addr)(u:HO)(H:Hp):Hp:=fun b=>if b=a/\H a≠none then some u else H b
theorem oW{a b:Addr}{u:HO}{H:Hp}:jh a u H b=none↔H b=none:=by
 unfold jh
 by_cases c:b=a/\H a≠none
 ·rw[if_pos c]
  constructor
  ·intro z;cases z
  ·intro z;rw[c.1] at z;exact absurd z c.2
 ·rw[if_neg c]
theorem sE{a b:Addr}{u:HO}{H:Hp}(h:b≠a):jh a u H b=H b:=by
 unfold jh;rw[if_neg (fun z=>h z.1)]
abbrev Gx.fz(G:Gx)(a:Addr)(o:Obj)(ps:List (Key×V)):Gx:={G with H0:=jh a (.bY o (.dK ps)) G.H0,hold:=(false, .fz o ps, .ref a)::G.hold}
section
variable{G:Gx}{ρ cZ:Rh}{Φ Ψ:Pd}{ta tb te:TE}{t:TA}{i:Nat}{f g:Bool}{d e:PyData}{ds es:List PyData}{K:PySem.W.Frag}{nb:Addr->Prop}{σ:St}{H:Hp}{a:Addr}{o:Obj}{ps:List (Key×V)}
theorem Gx.ur{b:Addr}:(G.fz a o ps).S nb f b↔G.S nb f b:=by
 unfold Gx.S
 constructor
 ·rintro(z|z|z|⟨z,q⟩)
  ·exact .inl z
  ·exact .inr (.inl z)
  ·exact .inr (.inr (.inl z))
  ·exact .inr (.inr (.inr ⟨z,fun w=>q (oW.mpr w)⟩))
 ·rintro(z|z|z|⟨z,q⟩)
  ·exact .inl z
  ·exact .inr (.inl z)
  ·exact .inr (.inr (.inl z))
  ·exact .inr (.inr (.inr ⟨z,fun w=>q (oW.mp w)⟩))
theorem c9.mv{H H':Hp}{b l:Addr}(h:c9 H b l)(k:∀c xs,H c=some (.lst xs)->H' c=some (.lst xs)):c9 H' b l:=by
 obtain⟨ns,x1,x2,x3,x4,h1,h2,h3⟩:=h
 exact⟨ns,x1,x2,x3,x4,k _ _ h1,k _ _ h2,h3⟩
theorem Wd.freeze(W:Wd G nb ρ σ H)(h:H a=some (.dK ps))(hS:¬G.S nb false a)(hT:∀f c v,(f,HD.th c,v)∈G.hold->a∉c.F):Wd (G.fz a o ps) nb ρ σ (upd H a (.bY o (.dK ps))):=by
  have mv:=Mv.bY (o:=o) h
  have hN:NB G.B a:=iX fun z=>hS (.inr (.inr (.inl z)))
  have hnb:¬nb a:=fun z=>hS (.inl z)
  have hG:∀u,G.H0 a=some u->u= .dK ps:=fun u e=>by have:=W.old a u hN e;rw[h] at this;exact(gn this).symm
  have toS:∀f b,(G.fz a o ps).S nb f b->G.S nb f b:=fun f b z=>Gx.ur.mp z
  refine⟨fun b l e=>(W.aA b l e).mv mv.lst,fun b n=>?_,fun b u n e=>?_,fun b n q=>oW.mpr (W.cU b n q),fun b n e=>W.gA b n (oW.mp e),W.len,fun b l e=>(W.gB b l e).mv fun c xs q=>?_,fun x m=>?_,fun i s e=>?_,W.apart,W.eN,W.c7⟩
  · by_cases hb:b=a
    · subst hb;exact absurd n hnb
    · rw[az hb];exact W.live b n
  · by_cases hb:b=a
    · subst hb
      rw[aY]
      change jh b _ G.H0 b=some u at e
      unfold jh at e
      by_cases c:b=b/\G.H0 b≠none
      · rw[if_pos c] at e;exact e
      · rw[if_neg c] at e;exact absurd ⟨rfl,by rw[e];exact jF _⟩ c
    · rw[az hb]
      change jh a _ G.H0 b=some u at e
      rw[sE hb] at e
      exact W.old b u n e
  · have hc:c≠a:=fun z=>by subst z;have:=hG _ q;cases this
    show jh a _ G.H0 c=_
    rw[sE hc];exact q
  · rcases aK.mp m with e|m
    · subst e
      exact⟨a,rfl,fun z=>hS (toS _ _ z),aY⟩
    · have w:=W.eG x m
      obtain⟨f,x,v⟩:=x
      cases x with
      |d x=>exact(aj.mv mv w).av (toS f)
      | fz u qs =>
        obtain⟨c,e1,e2,e3⟩:=w
        by_cases hc:c=a
        · subst hc
          rw[h] at e3;cases e3
        · exact⟨c,e1,fun z=>e2 (toS _ _ z),by rw[az hc];exact e3⟩
      | th c =>
        have hc:=hT f c v m
        obtain⟨e,n,q⟩:=w
        exact⟨e,fun b hb=>⟨fun z=>(n b hb).1 (toS _ _ z),by rw[az (fun z=>by subst z;exact hc hb)];exact(n b hb).2⟩,c.av (toS f) (c.keep ⟨fun b hb o e=>by rw[az (fun z=>by subst z;exact hc hb)];exact e,fun b xs _=>mv.lst b xs,fun b xs _=>mv.tup b xs,fun b qs _=>mv.bU b qs⟩ q)⟩
  · obtain⟨x,e1,w⟩:=W.ok i s e
    refine⟨x,e1,?_⟩
    cases s with
    |no=>trivial
    |d f d=>obtain⟨v,e,w⟩:=w;exact⟨v,e,(aj.mv mv w).av (toS f)⟩
    |own c f es=>obtain⟨e,n,q,xs,hx,hd⟩:=w;exact⟨e,n,q,xs,mv.lst _ _ hx,(ah.mv mv hd).av (toS f)⟩
    |aA=>exact w
    |raw v=>exact w
    | bU c f es =>
      obtain⟨e,n,q,xs,hx,hd⟩:=w
      exact⟨e,n,q,xs,by rw[az (fun z=>by subst z;exact hnb n)];exact hx,(ay.mv mv hd).av (toS f)⟩
    | cu c =>
      obtain⟨e,n,q⟩:=w
      exact⟨e,n,c.av (toS c.f) (c.keep ⟨fun b hb o e=>by rw[az (fun z=>by subst z;exact hnb (n _ hb).1)];exact e,fun b xs _=>mv.lst b xs,fun b xs _=>mv.tup b xs,fun b qs _=>mv.bU b qs⟩ q)⟩
theorem Wd.lM(W:Wd (G.fz a o ps) nb ρ σ H)(hG:∀u,G.H0 a=some u->u= .dK ps)(hF:∀f o' qs v,(f,HD.fz o' qs,v)∈G.hold->v≠ .ref a)(hT:∀f c v,(f,HD.th c,v)∈G.hold->a∉c.F):Wd G nb ρ σ (upd H a (.dK ps))/\H a=some (.bY o (.dK ps)):=by
  obtain⟨a',ea,hS',h⟩:=(show gu ((G.fz a o ps).S nb false) H (.fz o ps) (.ref a) from W.eG _ (bA ..))
  cases ea
  have mv:=Mv.lM h
  have toS:∀f b,G.S nb f b->(G.fz a o ps).S nb f b:=fun f b z=>Gx.ur.mpr z
  have hS:¬G.S nb false a:=fun z=>hS' (toS _ _ z)
  have hN:NB G.B a:=iX fun z=>hS (.inr (.inr (.inl z)))
  have hnb:¬nb a:=fun z=>hS (.inl z)
  refine⟨⟨fun b l e=>(W.aA b l e).mv mv.lst,fun b n=>?_,fun b u n e=>?_,fun b n q=>oW.mp (W.cU b n q),fun b n e=>W.gA b n (oW.mpr e),W.len,fun b l e=>(W.gB b l e).mv fun c xs q=>?_,fun x m=>?_,fun i s e=>?_,W.apart,W.eN,W.c7⟩,h⟩
  · by_cases hb:b=a
    · subst hb;exact absurd n hnb
    · rw[az hb];exact W.live b n
  · by_cases hb:b=a
    · subst hb
      rw[aY,hG u e]
    · rw[az hb]
      exact W.old b u n (by show jh a _ G.H0 b=_;rw[sE hb];exact e)
  · change jh a _ G.H0 c=_ at q
    by_cases hc:c=a
    · subst hc
      unfold jh at q
      by_cases z:c=c/\G.H0 c≠none
      · rw[if_pos z] at q;cases q
      · rw[if_neg z] at q;exact q
    · rw[sE hc] at q;exact q
  · have w:=W.eG x (cK _ m)
    obtain⟨f,x,v⟩:=x
    cases x with
    |d x=>exact(aj.mv mv w).av (toS f)
    | fz u qs =>
      obtain⟨c,e1,e2,e3⟩:=w
      subst e1
      have hc:c≠a:=fun z=>hF f u qs _ m (by rw[z])
      exact⟨c,rfl,fun z=>e2 (toS _ _ z),by rw[az hc];exact e3⟩
    | th c =>
      have hc:=hT f c v m
      obtain⟨e,n,q⟩:=w
      exact⟨e,fun b hb=>⟨fun z=>(n b hb).1 (toS _ _ z),by rw[az (fun z=>by subst z;exact hc hb)];exact(n b hb).2⟩,c.av (toS f) (c.keep ⟨fun b hb o e=>by rw[az (fun z=>by subst z;exact hc hb)];exact e,fun b xs _=>mv.lst b xs,fun b xs _=>mv.tup b xs,fun b qs _=>mv.bU b qs⟩ q)⟩
  · obtain⟨x,e1,w⟩:=W.ok i s e
    refine⟨x,e1,?_⟩
    cases s with
    |no=>trivial
    |d f d=>obtain⟨v,e,w⟩:=w;exact⟨v,e,(aj.mv mv w).av (toS f)⟩
    |own c f es=>obtain⟨e,n,q,xs,hx,hd⟩:=w;exact⟨e,n,q,xs,mv.lst _ _ hx,(ah.mv mv hd).av (toS f)⟩
    |aA=>exact w
    |raw v=>exact w
    | bU c f es =>
      obtain⟨e,n,q,xs,hx,hd⟩:=w
      exact⟨e,n,q,xs,by rw[az (fun z=>by subst z;exact hnb n)];exact hx,(ay.mv mv hd).av (toS f)⟩
    | cu c =>
      obtain⟨e,n,q⟩:=w
      exact⟨e,n,c.av (toS c.f) (c.keep ⟨fun b hb o e=>by rw[az (fun z=>by subst z;exact hnb (n _ hb).1)];exact e,fun b xs _=>mv.lst b xs,fun b xs _=>mv.tup b xs,fun b qs _=>mv.bU b qs⟩ q)⟩
abbrev Gx.hz(G:Gx)(a:Addr)(o:Obj)(ps:List (Key×V)):Gx:={G with hold:=(false, .fz o ps, .ref a)::G.hold}
theorem Wd.hz(W:Wd G nb ρ σ H)(hS:¬G.S nb false a)(h:H a=some (.bY o (.dK ps))):Wd (G.hz a o ps) nb ρ σ H:=
 ⟨W.aA,W.live,W.old,W.cU,W.gA,W.len,W.gB,fun x m=>by
  rcases aK.mp m with e|m
  ·subst e;exact⟨a,rfl,hS,h⟩
  ·exact W.eG x m,fun i s e=>by
   obtain⟨x,e1,h⟩:=W.ok i s e
   refine⟨x,e1,?_⟩
   cases s<;>exact h,W.apart,W.eN,W.c7⟩
theorem Wd.ym(W:Wd (G.hz a o ps) nb ρ σ H):Wd G nb ρ σ H/\H a=some (.bY o (.dK ps)):=by
 refine⟨⟨W.aA,W.live,W.old,W.cU,W.gA,W.len,W.gB,fun x m=>W.eG x (cK _ m),fun i s e=>by
   obtain⟨x,e1,h⟩:=W.ok i s e
   refine⟨x,e1,?_⟩
   cases s<;>exact h,W.apart,W.eN,W.c7⟩,?_⟩
 obtain⟨a',ea,_,h⟩:=(show gu ((G.hz a o ps).S nb false) H (.fz o ps) (.ref a) from W.eG _ (bA ..))
 cases ea
 exact h
theorem IG{G':Gx}{ks:Ks}{D:Ends}{E:DE}{gt:TG}{s:TS}{dd:PyData}(W3:Wd (G'.hd f dd (.ref a)) nb ρ σ H)(hl:ps.map (·.1)=(ks.map (·.1)).map Sum.inl)
  (hz:∀{nb ρ σ H},Wd G' nb ρ σ H->H a=some (.bY o (.dK ps))) (KK:sZ G' {E with bk:=fun _=>False,ct:=fun _=>False} D)
  (q:Sv.oq (G'.hd f dd (.ref a)) ρ ks.length (fun i d=>∃p,ks[i]?=some p/\d= .int p.1) true gt s E):
  ∃W:Nat->Nat->St->Hp->Prop,(∃m,W 0 m σ H)/\∀i m σ H,W i m σ H->
   ((ny a o ps).stop i H/\D.nx σ H)\/((ny a o ps).go i H/\∃N:St->Hp->Prop,(∀σ' H',N σ' H'->∃m',m'<m/\W (i+1) m' σ' H')/\∀x H',(ny a o ps).mF i H x H'->gt x σ H' fun σ2 H2=>s {D with nx:=N,ct:=N,bk:=D.nx} σ2 H2):=by
 obtain⟨I,h0,ht,he⟩:=q
 have hlen:ps.length=ks.length:=by have:=congrArg List.length hl;simpa using this
 refine⟨fun i m σ H=>m=ks.length-i/\i<=ks.length/\∃nb ρ',I i ρ'/\Wd (G'.hd f dd (.ref a)) nb ρ' σ H,⟨ks.length,by simp,dW _,nb,ρ,h0,W3⟩,?_⟩
 rintro i m σ H ⟨rfl,hi,nb,ρ',hI,W⟩
 have GX:=hz W.gW.1
 by_cases hlt:i<ks.length
 ·refine .inr ⟨⟨GX,by omega⟩,fun σ H=>∃nb ρ',I (i+1) ρ'/\Wd (G'.hd f dd (.ref a)) nb ρ' σ H,fun σ' H' q=>⟨ks.length-(i+1),by omega,rfl,hlt,q⟩,fun x H' y=>?_⟩
  obtain⟨e1,p,Vx,e2⟩:=y
  subst e1 e2
  have hk:p.1=Sum.inl ks[i].1:=by
   have h1:(ps.map (·.1))[i]?=((ks.map (·.1)).map Sum.inl)[i]?:=by rw[hl]
   rw[aX,aX,aX,Vx,aQ hlt] at h1
   exact gn h1
  rw[hk]
  refine ht i _ ρ' ⟨_,aQ hlt,rfl⟩ hI nb σ _ _ _ W (.int _) fun σ2 gh q W2=>q nb σ2 _ _ W2 ?_
  exact⟨fun nb ρ σ H q W=>⟨nb,ρ,q,W⟩,fun nb ρ σ H q W=>KK.nx nb ρ σ H q W.gW.1,fun nb ρ σ H q W=>⟨nb,ρ,q,W⟩,fun nb ρ σ f v H d q W hv=>KK.rt nb ρ σ f v H d q W.gW.1 hv,fun nb ρ σ v H q W=>KK.rw nb ρ σ v H q W.gW.1⟩
 ·have e:i=ks.length:=by omega
  subst e
  exact .inl ⟨⟨GX,hlen⟩,KK.nx nb ρ' σ H (he ρ' hI) W.gW.1⟩
theorem Sv.MK{NF:Addr->Prop}{E:DE}{gt:TG}{s:TS}(h:Ev G ρ te fun f x=>∃ks:Ks,x= .dict (ks.map bZ)/\∀G' v,oq (Gx.hd G' f x v) ρ ks.length (fun i d=>∃p,ks[i]?=some p/\d= .int p.1) true gt s {E with rw:=fun _ _ _ _=>False})(hnt:∀f c v,(f,HD.th c,v)∉G.hold:=by intro _ _ _ z;first|exact nomatch z|(simp at z;done)):
  Sv G ρ (DL NF (pP (Fw NF te) gt s)) E:=fun nb σ H D W KK=>
 h nb σ H _ W fun f v H1 x ⟨ks,ex,q⟩ s1 hv=>by
  subst ex
  have W1:=W.step s1
  have hv0:=hv
  unfold aj at hv
  obtain⟨a,ps,rfl,n,hp,hd⟩:=hv
  have hkeys:=ay.keys hd
  have hS:¬G.S nb false a:=fun z=>n (bI (fun w=>by cases w) (fun _ w=>w) a z)
  have hN:NB G.B a:=iX fun z=>hS (.inr (.inr (.inl z)))
  refine⟨a,ps,rfl,?_⟩
  rcases hp with hp|⟨o,hp⟩
  ·refine .inl ⟨hp,fun o nf=>?_⟩
   have hG:∀u,G.H0 a=some u->u= .dK ps:=fun u e=>by have:=W1.old a u hN e;rw[hp] at this;exact(gn this).symm
   have hF:∀f o' qs v,(f,HD.fz o' qs,v)∈G.hold->v≠ .ref a:=fun f o' qs v m e=>by
    obtain⟨c,e1,_,e3⟩:=(show gu (G.S nb f) H1 (.fz o' qs) v from W1.eG _ m)
    rw[e1] at e;cases e
    rw[hp] at e3;cases e3
   have W2:=W1.freeze (o:=o) hp hS fun f c v m=>absurd m (hnt f c v)
   have mv:=Mv.bY (o:=o) hp
   have W3:=W2.hd (f:=f) (d:= .dict (ks.map bZ)) (v:= .ref a) ((aj.mv mv hv0).av fun b z=>Gx.ur.mp z)
   refine IG (E:={E with rw:=fun _ _ _ _=>False}) W3 hkeys (fun W=>(W.lM hG hF fun f c v m=>absurd m (hnt f c v)).2) ⟨fun nb ρ σ H q W=>?_,fun _ _ _ _ q _=>q.elim,fun _ _ _ _ q _=>q.elim,fun nb ρ σ f v H d q W hv=>?_,fun _ _ _ _ _ q _=>q.elim⟩ (q _ _)
   ·obtain⟨W',hz⟩:=W.lM hG hF fun f c v m=>absurd m (hnt f c v)
    exact .inr ⟨a,o,ps,hz,nf,KK.nx nb ρ σ _ q W'⟩
   ·obtain⟨W',hz⟩:=W.lM hG hF fun f c v m=>absurd m (hnt f c v)
    exact .inr ⟨a,o,ps,hz,nf,KK.rt nb ρ σ f v _ d q W' ((aj.mv (Mv.lM hz) hv).av fun b z=>Gx.ur.mpr z)⟩
  ·refine .inr ⟨o,hp,?_⟩
   have W2:=W1.hz hS hp
   have W3:=W2.hd (f:=f) (d:= .dict (ks.map bZ)) (v:= .ref a) hv0
   refine IG (E:={E with rw:=fun _ _ _ _=>False}) W3 hkeys (fun W=>W.ym.2) ⟨fun nb ρ σ H q W=> .inl (KK.nx nb ρ σ H q W.ym.1),fun _ _ _ _ q _=>q.elim,fun _ _ _ _ q _=>q.elim,fun nb ρ σ f v H d q W hv=> .inl (KK.rt nb ρ σ f v H d q W.ym.1 hv),fun _ _ _ _ _ q _=>q.elim⟩ (q _ _)
end
end L2
set_option maxRecDepth 100000
set_option maxHeartbeats 4000000
set_option maxRecDepth 100000
set_option maxHeartbeats 4000000
set_option maxRecDepth 100000
set_option maxHeartbeats 4000000
namespace L2
open PySem PySem.Spec PyProof.Rows
theorem oX{P:(Addr->Prop)->Prop}{H:Hp}(hP:∀{S S':Addr->Prop},(∀a,S' a->S a)->P S->P S')(hf:∀{S:Addr->Prop} {p:Addr},H p=none->P S->P fun a=>S a\/a=p):∀{L:List Addr} {S:Addr->Prop},(∀a∈L,H a=none)->P S->P fun a=>S a\/a∈L
 |[],S,_,h=>hP (fun a z=>z.elim (fun z=>z) fun z=>by cases z) h
 | p :: L, S, hL, h => hP (fun a z => by
   rcases z with z|z
   ·exact .inl (.inl z)
   ·rcases aK.mp z with z|z
    ·exact .inr z
    ·exact .inl (.inr z)) (hf (hL p (bA ..)) (oX hP hf (L:=L) (fun a m=>hL a (cK _ m)) h))
section
variable{G:Gx}{ρ:Rh}{nb:Addr->Prop}{σ:St}{H H1:Hp}{i:Nat}{L:List Addr}{c c':Cu}{f:Bool}{d:PyData}{p:Addr}{o:HO}{E:DE}
theorem Wd.Nr(W:Wd G nb ρ σ H)(s1:Step G.B H H1)(ha:∀a∈L,H a=none)(e:∀a∈L,H1 a≠none):Wd G (fun x=>nb x\/x∈L) ρ σ H1/\(∀a∈L,NB G.B a)/\∀f x,G.S (fun x=>nb x\/x∈L) f x->(G.S nb f x\/x∈L):=by
  have hN:∀a∈L,NB G.B a:=fun a m=>NB.new W.aA (ha a m)
  have hA:∀f x,G.S (fun x=>nb x\/x∈L) f x->(G.S nb f x\/x∈L):=fun f x z=>by
    rcases z with (z|z)|z|z|z
    · exact .inl (.inl z)
    · exact .inr z
    · exact .inl (.inr (.inl z))
    · exact .inl (.inr (.inr (.inl z)))
    · exact .inl (.inr (.inr (.inr z)))
  have W1:=W.step s1
  have fD:∀{S:Addr->Prop} {d:PyData} {v:V},aj S H d v->aj (fun a=>S a\/a∈L) H d v:=fun{S d v} h=>oX (P:=fun S=>aj S H d v) (fun z h=>aj.av z h) (fun hp h=>aj.fresh hp h) ha h
  have Tq:∀{S:Addr->Prop} {d:List PyData} {v:List V},ah S H d v->ah (fun a=>S a\/a∈L) H d v:=fun{S d v} h=>oX (P:=fun S=>ah S H d v) (fun z h=>ah.av z h) (fun hp h=>ah.fresh hp h) ha h
  have JQ:∀{S:Addr->Prop} {d:List (PyData×PyData)} {v:List (Key×V)},ay S H d v->ay (fun a=>S a\/a∈L) H d v:=fun{S d v} h=>oX (P:=fun S=>ay S H d v) (fun z h=>ay.av z h) (fun hp h=>ay.fresh hp h) ha h
  have fH:∀{S:Addr->Prop} {d:HD} {v:V},gu S H d v->gu (fun a=>S a\/a∈L) H d v:=fun{S d v} h=>oX (P:=fun S=>gu S H d v) (fun z h=>gu.av h z) (fun hp h=>gu.fresh h hp) ha h
  refine⟨?_,hN,hA⟩
  refine⟨W1.aA,fun x n=>?_,W1.old,fun x n q=>?_,W.gA,W.len,W.gB,fun h m=>((fH (W.eG h m)).keep (s1.but fun x z=> .inl (.inr (.inr (.inl z))))).av (hA h.1),fun j s e'=>?_,W.apart,W.eN,W.c7⟩
  · rcases n with n|n
    · exact W1.live x n
    · exact e x n
  · rcases n with n|n
    · exact W.cU x n q
    · cases z:G.H0 x with
      |none=>rfl
      |some o=>have:=ha x n;rw[W.old x o q z] at this;cases this
  · obtain⟨x,e1,h⟩:=W.ok j s e'
    refine⟨x,e1,?_⟩
    cases s with
    |no=>trivial
    |d f d=>obtain⟨v,e,h⟩:=h;exact⟨v,e,((fD h).keep (s1.but fun x z=> .inl (.inr (.inr (.inl z))))).av (hA f)⟩
    |own c f es=>obtain⟨e,n,q,xs,hx,hd⟩:=h;exact⟨e, .inl n,q,xs,s1.1 _ _ q hx,((Tq hd).keep (s1.but fun x z=> .inl (.inr (.inr (.inl z))))).av (hA f)⟩
    |aA=>exact h
    |raw v=>exact h
    |bU c f es=>obtain⟨e,n,q,xs,hx,hd⟩:=h;exact⟨e, .inl n,q,xs,s1.1 _ _ q hx,((JQ hd).keep (s1.but fun x z=> .inl (.inr (.inr (.inl z))))).av (hA f)⟩
    | cu c =>
      obtain⟨e,n,q⟩:=h
      refine⟨e,fun a ha=>⟨.inl (n a ha).1,(n a ha).2⟩,c.av (hA c.f) (c.keep (.of fun x o hx e=>s1.1 x o ?_ e) (oX (P:=fun S=>c.P S H) (fun z h=>c.av z h) (fun hp h=>c.fresh hp h) ha q))⟩
      rcases hx with hx|hx
      · exact iX fun z=>hx (.inl (.inr (.inr (.inl z))))
      · exact(n x hx).2
theorem nR.P0{x:Option V}{s:Sl}(h:nR G nb H x s):∀a∈s.adr,nb a/\NB G.B a:=by
 cases s with
 |own a f ds=>intro x hx;rw[cg.mp hx];exact⟨h.2.1,h.2.2.1⟩
 |bU a f ds=>intro x hx;rw[cg.mp hx];exact⟨h.2.1,h.2.2.1⟩
 |cu c=>exact h.2.1
 |no=>intro _ z;cases z
 |d _ _=>intro _ z;cases z
 |aA=>intro _ z;cases z
 |raw _=>intro _ z;cases z
theorem Wd.Vz(W:Wd G nb ρ σ H)(s1:Step G.B H H1)(ha:∀a∈c.F,H a=none)(e:∀a∈c.F,H1 a≠none)(hP:c.P (fun x=>G.S nb c.f x\/x∈c.F) H1):Wd G (fun x=>nb x\/x∈c.F) (ρ.set i (.cu c)) (σ.set i (some c.v)) H1:=by
 obtain⟨W2,hN,hA⟩:=W.Nr s1 ha e
 refine W2.set ⟨rfl,fun a m=>⟨.inr m,hN a m⟩,c.av (hA c.f) hP⟩ (fun _ _ _ z=>by cases z) (fun _ _ _ z=>by cases z) (fun x hx j t hj ht hc z=>?_)
 obtain⟨y,e1,h⟩:=W.ok j _ ht
 exact W.live x (h.P0 x z).1 (ha x hx)
theorem Wd.Vc(W:Wd G nb ρ σ H)(e:ρ[i]?=some (.cu c))(hp:p∈c.F)(hv:c'.v=c.v)(hF:∀a∈c'.F,a∈c.F)(h:c'.P (G.S nb c'.f) (upd H p o)):Wd G nb (ρ.set i (.cu c')) σ (upd H p o):=by
 obtain⟨x,e1,h1,h2,h3⟩:=W.ok i _ e
 subst h1
 have hil:i<ρ.length:=(bQ.mp e).1
 have W0:Wd G nb (ρ.set i .no) (σ.set i (some c.v)) H:=W.set trivial fun _ _ _ z=>by cases z
 have other:∀(j:Nat) s,(ρ.set i .no)[j]?=some s->s≠ .no->p∉s.adr:=fun j s hs hn=>by
  have hij:i≠j:=fun z=>by subst z;rw[dH hil] at hs;cases hs;exact hn rfl
  rw[ck hij] at hs
  exact W.c7 i j c s hij e hs p hp
 have W1:Wd G nb (ρ.set i .no) (σ.set i (some c.v)) (upd H p o):=W0.write (h2 p hp).1 (h2 p hp).2 (fun j a f ds hs z=>other j _ hs (by intro z;cases z) (cg.mpr z.symm)) (fun j a f ds hs z=>other j _ hs (by intro z;cases z) (cg.mpr z.symm)) (fun j c hs=>other j _ hs (by intro z;cases z))
 have W2:=W1.set (i:=i) (s:= .cu c') (x:=some c.v) ⟨by rw[hv],fun a m=>h2 a (hF a m),h⟩ (fun _ _ _ z=>by cases z) (fun _ _ _ z=>by cases z) (fun x hx j t hj ht hc=>by
  rw[ck (bM hj)] at ht
  exact W.c7 i j c t (bM hj) e ht x (hF x hx))
 rw[jB,jB] at W2
 have:σ.set i (some c.v)=σ:=by
  apply iw
  intro j
  by_cases hij:i=j
  ·subst hij;rw[dH (by rw[W.len];exact hil),e1]
  ·rw[ck hij]
 rwa[this] at W2
theorem Wd.VC(W:Wd G nb ρ σ H)(e:ρ[i]?=some (.cu c))(h:c.P (G.S nb c.f) H->(∀a∈c.F,G.H0 a=none/\¬G.A a/\NB G.B a)->aj (G.S (fun x=>nb x/\x∉c.F) f) H d c.v):Wd G (fun x=>nb x/\x∉c.F) (ρ.set i (.d f d)) σ H:=by
 obtain⟨x,e1,h1,h2,h3⟩:=W.ok i _ e
 subst h1
 have hil:i<ρ.length:=(bQ.mp e).1
 have W0:Wd G nb (ρ.set i .no) (σ.set i (some c.v)) H:=W.set trivial fun _ _ _ z=>by cases z
 have W1:Wd G (fun x=>nb x/\x∉c.F) (ρ.set i .no) (σ.set i (some c.v)) H:=by
  refine⟨W0.aA,fun x n=>W0.live x n.1,W0.old,fun x n=>W0.cU x n.1,W0.gA,W0.len,W0.gB,fun h m=>(W0.eG h m).av (bI (fun z=>z) fun _ z=>z.1),fun j s e'=>?_,W0.apart,W0.eN,W0.c7⟩
  obtain⟨x,iV,hh⟩:=W0.ok j s e'
  refine⟨x,iV,?_⟩
  have hij:s≠ .no->i≠j:=fun n z=>by subst z;rw[dH hil] at e';cases e';exact n rfl
  have ap:s≠ .no->∀a∈s.adr,a∉c.F:=fun n a m z=>by
   have hij:=hij n
   rw[ck hij] at e'
   exact W.c7 i j c s hij e e' a z m
  cases s with
  |no=>trivial
  |d f d=>obtain⟨v,e,hh⟩:=hh;exact⟨v,e,hh.av (bI (fun z=>z) fun _ z=>z.1)⟩
  |own a f es=>obtain⟨e2,n,q,xs,hx,hd⟩:=hh;exact⟨e2,⟨n,ap (by intro z;cases z) a (cg.mpr rfl)⟩,q,xs,hx,hd.av (bI (fun z=>z) fun _ z=>z.1)⟩
  |aA=>exact hh
  |raw v=>exact hh
  |bU a f es=>obtain⟨e2,n,q,xs,hx,hd⟩:=hh;exact⟨e2,⟨n,ap (by intro z;cases z) a (cg.mpr rfl)⟩,q,xs,hx,hd.av (bI (fun z=>z) fun _ z=>z.1)⟩
  |cu c2=>obtain⟨e2,n,q⟩:=hh;exact⟨e2,fun a m=>⟨⟨(n a m).1,ap (by intro z;cases z) a m⟩,(n a m).2⟩,c2.av (bI (fun z=>z) fun _ z=>z.1) q⟩
 have W2:=W1.nF (i:=i) (f:=f) (d:=d) (v:=c.v) (h h3 fun a m=>⟨W.cU a (h2 a m).1 (h2 a m).2,fun z=>W.gA a z (W.cU a (h2 a m).1 (h2 a m).2),(h2 a m).2⟩)
 rw[jB,jB] at W2
 have:σ.set i (some c.v)=σ:=by
  apply iw
  intro j
  by_cases hij:i=j
  ·subst hij;rw[dH (by rw[W.len];exact hil),e1]
  ·rw[ck hij]
 rwa[this] at W2
end
end L2
set_option maxRecDepth 100000
set_option maxHeartbeats 4000000
namespace L2
open PySem PySem.Spec PyProof.Rows
abbrev fq:=Int×Addr×List PyData
structure Hs(a:Addr)(rows:List fq)(S:Addr->Prop)(H:Hp):Prop where
 hd:H a=some (.dK (rows.map fun r=>(Sum.inl r.1,V.ref r.2.1)))
 nd:(a::rows.map (·.2.1)).Nodup
 kd:(rows.map (·.1)).Nodup
 row:∀r∈rows,∃xs,H r.2.1=some (.lst xs)/\ah S H r.2.2 xs
def iA(a:Addr)(f:Bool)(rows:List fq):Cu where
 v:= .ref a
 F:=a::rows.map (·.2.1)
 f:=f
 P:=Hs a rows
 keep:=fun k p=>⟨k.own _ (bA ..) _ p.hd,p.nd,p.kd,fun r hr=>by
  obtain⟨xs,h1,h2⟩:=p.row r hr
  exact⟨xs,k.own _ (cK _ (j5 hr)) _ h1,ah.kp k h2⟩⟩
 av:=fun z p=>⟨p.hd,p.nd,p.kd,fun r hr=>by
  obtain⟨xs,h1,h2⟩:=p.row r hr
  exact⟨xs,h1,h2.av z⟩⟩
 fresh:=fun hp p=>⟨p.hd,p.nd,p.kd,fun r hr=>by
  obtain⟨xs,h1,h2⟩:=p.row r hr
  exact⟨xs,h1,h2.fresh hp⟩⟩
def jS(rows:List fq)(k:Int)(d:PyData):List fq:=rows.map fun r=>if r.1=k then(r.1,r.2.1,r.2.2++[d]) else r
theorem Tu(rows:List fq)(k:Int)(d:PyData):(jS rows k d).map (·.1)=rows.map (·.1):=by
 unfold jS
 rw[dz]
 apply fQ
 intro r _
 show(if r.1=k then _ else r).1=r.1
 split<;>rfl
theorem Gg(rows:List fq)(k:Int)(d:PyData):(jS rows k d).map (·.2.1)=rows.map (·.2.1):=by
 unfold jS
 rw[dz]
 apply fQ
 intro r _
 show(if r.1=k then _ else r).2.1=r.2.1
 split<;>rfl
theorem RB(rows:List fq)(k:Int)(d:PyData):((jS rows k d).map fun r=>((Sum.inl r.1:Key),V.ref r.2.1))=rows.map fun r=>(Sum.inl r.1,V.ref r.2.1):=by
 unfold jS
 rw[dz]
 apply fQ
 intro r _
 show(Sum.inl (if r.1=k then _ else r).1,V.ref (if r.1=k then _ else r).2.1)=_
 split<;>rfl
theorem Uk(rows:List fq)(k:Int)(d:PyData):((jS rows k d).map fun r=>(r.1,r.2.2))=(rows.map fun r=>(r.1,r.2.2)).map fun q=>if q.1=k then(q.1,q.2++[d]) else q:=by
 unfold jS
 rw[dz,dz]
 apply fQ
 intro r _
 show((if r.1=k then _ else r).1,(if r.1=k then _ else r).2.2)=if r.1=k then _ else _
 split<;>rfl
theorem Bl:∀{rows:List fq} {r:fq},(rows.map (·.1)).Nodup->r∈rows->fL (rows.map fun r=>((Sum.inl r.1:Key),V.ref r.2.1)) (Sum.inl r.1)=some (.ref r.2.1)
  |[],_,_,h=>by cases h
  | q :: rows, r, nd, h => by
    rw[bR,iK] at nd
    rw[bR]
    rcases aK.mp h with z|z
    · subst z;exact qK rfl
    · rw[p8 (fun e=>nd.1 (by injection e with e;rw[e];exact j5 z))]
      exact Bl nd.2 z
theorem CN:∀{rows:List fq} {k:Int},k∉rows.map (·.1)->fL (rows.map fun r=>((Sum.inl r.1:Key),V.ref r.2.1)) (Sum.inl k)=none
  |[],_,_=>rfl
  | q :: rows, k, h => by
    rw[bR,aK,not_or] at h
    rw[bR,p8 (fun e=>h.1 (by injection e with e;exact e.symm))]
    exact CN h.2
section
variable{G:Gx}{ρ:Rh}{ta tb te tk:TE}{E:DE}{i:Nat}{f:Bool}{K:PySem.W.Frag}{Φ:Pd}{a:Addr}{rows:List fq}
theorem Ev.Ul{ng:Bool}(e:ρ[i]?=some (.cu (iA a f rows)))(h:Ev G ρ ta fun _ y=>∃k,y= .int k/\Φ true (.bool (decide (k∈rows.map (·.1)) !=ng))):Ev G ρ (dN (EU ng) ta (fR i)) Φ:=fun nb σ H Q W z=>
 h nb σ H _ W fun g v H1 y ⟨k,ey,q⟩ s1 hv=>by
  subst ey
  have W1:=W.step s1
  obtain⟨x,e1,h1,h2,h3⟩:=W1.ok i _ e
  have h1:x=some (.ref a):=h1
  subst h1
  refine⟨.ref a,e1,a,_,rfl,by rw[hv.cD];exact .inl ⟨_, .inl k, .inl h3.hd,rfl,rfl⟩,?_⟩
  have:(fL (rows.map fun r=>((Sum.inl r.1:Key),V.ref r.2.1)) (Sum.inl k)).isSome=decide (k∈rows.map (·.1)):=by
   by_cases c:k∈rows.map (·.1)
   ·obtain⟨r,hr,e⟩:=bW.mp c
    rw[<-e,Bl h3.kd hr,decide_eq_true (by rw[e];exact c)];rfl
   ·rw[CN c,decide_eq_false c];rfl
  rw[this]
  exact z true _ H1 _ q s1 (.bl _)
theorem Sv.RU(e:ρ[i]?=some (.cu (iA a f rows)))(h:Ev G ρ tk fun _ y=>∃k,y= .int k/\k∈rows.map (·.1)/\(∀r∈rows,r.2.2.length<10000)/\Ev G ρ te fun g d=>E.nx (ρ.set i (.cu (iA a (f && g) (jS rows k d))))):
  Sv G ρ (tR (qb K "list" Cj (dN jr (fR i) tk) (bJ te cF))) E:=fun nb σ H D W KK=>by
 obtain⟨x,e1,h1,h2,h3⟩:=W.ok i _ e
 have h1:x=some (.ref a):=h1
 subst h1
 refine⟨.ref a,e1,h nb σ H _ W fun g v H1 y ⟨k,ey,hk,hlen,q⟩ s1 hv=>?_⟩
 subst ey
 have W1:=W.step s1
 obtain⟨x,iV,_,h2,h3⟩:=W1.ok i _ e
 obtain⟨r,hr,er⟩:=bW.mp hk
 have hval:=Bl h3.kd hr
 obtain⟨xs,hx,hxd⟩:=h3.row r hr
 have Jy:r.2.1∈(iA a f rows).F:=cK _ (j5 hr)
 refine⟨a,_, .inl k, .ref r.2.1,rfl,hv.cD, .inl h3.hd,by rw[<-er];exact hval, .inl ⟨rfl,_,aW.of hx⟩,?_⟩
 refine q nb σ H1 _ W1 fun g2 u H2 d p s2 hu=>?_
 have W2:=W1.step s2
 obtain⟨x,iV,_,h2,h4⟩:=W2.ok i _ e
 obtain⟨xs,hx,hxd⟩:=h4.row r hr
 refine⟨r.2.1,xs,u,rfl,rfl,hx,eE (by rw[hxd.length];exact hlen r hr) (by decide),KK.nx nb _ _ _ p (W2.Vc e Jy rfl (fun b hb=>?_) ?_)⟩
 ·have:(iA a (f && g2) (jS rows k d)).F=(iA a f rows).F:=by show a::_=a::_;rw[Gg]
  rw[this] at hb;exact hb
 ·have bt:bh (G.S nb (f && g2)) H2 (upd H2 r.2.1 (.lst (xs++[u]))):=bh.set (.inl (h2 _ Jy).1)
  have hnd:=h4.nd
  rw[iK] at hnd
  have har:a≠r.2.1:=fun z=>hnd.1 (by rw[z];exact j5 hr)
  refine⟨?_,?_,?_,fun r' hr'=>?_⟩
  ·rw[az har,RB];exact h4.hd
  ·rw[Gg];exact h4.nd
  ·rw[Tu];exact h4.kd
  ·unfold jS at hr'
   obtain⟨r0,hr0,rfl⟩:=bW.mp hr'
   by_cases c:r0.1=k
   ·rw[if_pos c]
    have P9:r0=r:=by
     have nd:=h4.kd
     obtain⟨j,hj⟩:=mH hr0
     obtain⟨j2,hj2⟩:=mH hr
     obtain⟨l1,g1⟩:=bQ.mp hj
     obtain⟨l2,g2⟩:=bQ.mp hj2
     have:=(tT (i:=j) (j:=j2) (h₀:=by rw[ak];exact l1) (h₁:=by rw[ak];exact l2) nd).mp (by rw[rG,rG,g1,g2,c,er])
     subst this
     rw[<-g1,<-g2]
    subst P9
    exact⟨xs++[u],aY,ah.snoc ((hu.av (bI (fun z=>(cP _ _▸z).2) fun _ z=>z)).keep bt) ((hxd.av (bI (fun z=>(cP _ _▸z).1) fun _ z=>z)).keep bt)⟩
   ·rw[if_neg c]
    obtain⟨ys,hy,MG⟩:=h4.row r0 hr0
    have hne:r0.2.1≠r.2.1:=fun z=>c (by
     obtain⟨j,hj⟩:=mH hr0
     obtain⟨j2,hj2⟩:=mH hr
     obtain⟨l1,g1⟩:=bQ.mp hj
     obtain⟨l2,g2⟩:=bQ.mp hj2
     have:=(tT (i:=j) (j:=j2) (h₀:=by rw[ak];exact l1) (h₁:=by rw[ak];exact l2) hnd.2).mp (by rw[rG,rG,g1,g2,z])
     subst this
     rw[<-g1,g2,er])
    exact⟨ys,by rw[az hne];exact hy,(MG.av (bI (fun z=>(cP _ _▸z).1) fun _ z=>z)).keep bt⟩
theorem Sv.U6{s:TS}(i:Nat)(e:ρ[i]?=some (.cu (iA a f rows)))(h:Sv G (ρ.set i (.d f (.dict ((rows.map fun r=>(r.1,PyData.list r.2.2)).map bZ)))) s E):Sv G ρ s E:=fun nb σ H D W K=>by
  refine h _ σ H D (W.VC e fun p hn=>?_) K
  have p:Hs a rows (G.S nb f) H:=p
  have out:∀b∈(iA a f rows).F,¬G.S (fun x=>nb x/\x∉(iA a f rows).F) f b:=fun b hb z=>by
    obtain⟨q1,q2,q3⟩:=hn b hb
    rcases z with z|z|z|z
    · exact z.2 hb
    · exact q2 z
    · exact z q3
    · exact z.2 q1
  show aj _ H _ (.ref a)
  unfold aj
  refine⟨a,_,rfl,out a (bA ..), .inl p.hd,?_⟩
  have key:∀rs:List fq,(∀r∈rs,r∈rows)->ay (G.S (fun x=>nb x/\x∉(iA a f rows).F) f) H ((rs.map fun r=>(r.1,PyData.list r.2.2)).map bZ) (rs.map fun r=>((Sum.inl r.1:Key),V.ref r.2.1)):=by
    intro rs
    induction rs with
    |nil=>intro _;simp only[pW];unfold ay;rfl
    | cons r rs ih =>
      intro hm
      rw[bR,bR,bR]
      unfold ay
      refine⟨_,_,rfl,?_,ih fun q hq=>hm q (cK _ hq)⟩
      unfold cM
      obtain⟨xs,hx,hxd⟩:=p.row r (hm r (bA ..))
      exact⟨rfl, .lst (out _ (cK _ (j5 (hm r (bA ..))))) hx (hxd.av (bI (fun z=>z) fun _ z=>z.1))⟩
  exact key rows fun _ h=>h
theorem Hf:∀{more acc:List (Key×V)},(more.map (·.1)).Nodup->(∀q∈more,fL acc q.1=none)->lB acc more=acc++more
  |[],acc,_,_=>by rw[ig];rfl
  | q :: more, acc, nd, h => by
    rw[bR,iK] at nd
    show lB (putK acc q.1 q.2) more=_
    rw[Mq _ (h q (bA ..)),Hf nd.2 (fun r hr=>?_),jd]
    · rfl
    · have hne:q.1≠r.1:=fun z=>nd.1 (by rw[z];exact j5 hr)
      have:=h r (cK _ hr)
      unfold fL at this⊢
      rw[List.find?_append]
      cases e:acc.find? (fun kv=>decide (kv.1=r.1)) with
      |some z=>rw[e] at this;cases this
      |none=>simp[hne]
theorem Sv.R6(h:Ev G ρ te fun _ x=>∃ks:List Int,x= .list (ks.map .int)/\ks.Nodup/\ks.length<=9999/\∀a rows,(rows.map fun r=>(r.1,r.2.2))=ks.map (fun k=>(k,[]))->E.nx (ρ.set i (.cu (iA a true rows)))):
    Sv G ρ (iJ (e7 xh (bJ (lO (qa K te) (fG 0) oH (oF (bJ (fR 0) (bJ (mX cF) cF))) [none]) cF)) (fG i)) E:=fun nb σ H D W KK=>
  h nb σ H _ W fun f v H1 x ⟨ks,ex,nd,hl,q⟩ s1 hv=>by
    subst ex
    obtain⟨l,xs,rfl,nl,hx,hd⟩:=hv.fB
    have e:=qV hd
    subst e
    refine⟨l,rfl,⟨_, .of hx⟩,fun acc hacc=>?_⟩
    refine R.Cw (xs:=ks.map V.int) (fun j σ H2=>σ.length=1/\∃(ts bs:List Addr),ts.length=j/\bs.length=j/\H2 acc=some (.lst (ts.map V.ref))/\bs.Nodup/\(∀b∈bs,H1 b=none/\H2 b=some (.lst []))/\
      (∀(m:Nat) t b k,ts[m]?=some t->bs[m]?=some b->ks[m]?=some k->H2 t=some (.tup [.int k, .ref b]))/\(∀t∈ts,t≠acc)/\acc∉bs/\∀b o,H1 b=some o->H2 b=some o) ⟨rfl,[],[],rfl,rfl,aY,BN,(fun _ z=>by cases z),(fun _ _ _ _ z=>by simp at z),(fun _ z=>by cases z),(fun z=>by cases z),fun b o e=>by rw[az (fun z=>by rw[z,hacc] at e;cases e)];exact e⟩ ?_ ?_ ?_
    · rintro j σ H2 hj ⟨_,ts,bs,_,_,_,_,_,_,_,_,hk⟩
      exact .of (hk _ _ hx)
    · rintro j x σ H2 hxj ⟨hσ,ts,bs,iR,pM,hA,hbn,hb,ht,htA,hbA,hk⟩
      rw[aX] at hxj
      obtain⟨k,hkj,rfl⟩:=jR.mp hxj
      have hjl:=(bQ.mp hkj).1
      have e0:(σ.set 0 (some (V.int k)))[0]?=some (some (.int k)):=dH (by omega)
      refine⟨.int k,e0,dW _,fun b lW=>⟨Ib rfl,fun t sP=>?_⟩⟩
      have CM:b≠t:=fun z=>by rw[<-z,aY] at sP;cases sP
      have Ah:b≠acc:=fun z=>by rw[z,hA] at lW;cases lW
      have qw:H2 t=none:=by rw[az (bM CM)] at sP;exact sP
      have yC:t≠acc:=fun z=>by rw[z,hA] at qw;cases qw
      have Vm:H1 b=none:=by
        cases e:H1 b with
        |none=>rfl
        |some o=>rw[hk b o e] at lW;cases lW
      refine⟨ts.map V.ref,by rw[az (bM yC),az (bM Ah)];exact hA,by rw[ak,iR];exact eE (show j<10000 by omega) (by decide),by rw[fh];exact hσ,ts++[t],bs++[b],by rw[bP,iR];rfl,by rw[bP,pM];rfl,by rw[aY,cN];rfl,?_,?_,?_,?_,?_,?_⟩
      · rw[zR]
        refine⟨hbn,by simp,fun x hx y hy z=>?_⟩
        rw[cg.mp hy] at z
        have:=(hb x hx).2
        rw[z,lW] at this;cases this
      · intro x hx
        rcases gP.mp hx with z|z
        · have:=hb x z
          refine⟨this.1,?_⟩
          rw[az (fun y=>hbA (by rw[<-y];exact z)),az (fun y=>by have:=this.2;rw[y,qw] at this;cases this),az (fun y=>by have:=this.2;rw[y,lW] at this;cases this)]
          exact this.2
        · rw[cg.mp z]
          exact⟨Vm,by rw[az Ah,az CM,aY]⟩
      · intro m t' b' k' h1 h2 h3
        rcases xG m j with c|c|c
        · rw[iB (by omega)] at h1 h2
          have:=ht m t' b' k' h1 h2 h3
          rw[az (htA t' (eK h1)),az (fun y=>by rw[y,qw] at this;cases this),az (fun y=>by rw[y,lW] at this;cases this)]
          exact this
        · subst c
          rw[iy (by omega),iR,Nat.sub_self] at h1
          rw[iy (by omega),pM,Nat.sub_self] at h2
          simp at h1 h2
          subst h1 h2
          rw[hkj] at h3;cases h3
          rw[az yC,aY]
        · rw[gC (by rw[bP,fE];omega)] at h1;cases h1
      · intro x hx
        rcases gP.mp hx with z|z
        · exact htA x z
        · rw[cg.mp z];exact yC
      · intro z
        rcases gP.mp z with z|z
        · exact hbA z
        · exact Ah (cg.mp z).symm
      · intro b' o e
        have:=hk b' o e
        rw[az (fun z=>by rw[z,hacc] at e;cases e),az (fun y=>by rw[y,qw] at this;cases this),az (fun y=>by rw[y,lW] at this;cases this)]
        exact this
    · rintro σ2 H2 ⟨_,ts,bs,iR,pM,hA,hbn,hb,ht,htA,hbA,hk⟩
      rw[ak] at iR pM
      obtain⟨rows,er⟩:∃rows:List fq,rows=List.zipWith (fun k b=>(k,b,[])) ks bs:=⟨_,rfl⟩
      have hrl:rows.length=ks.length:=by rw[er,List.length_zipWith];omega
      have qH:∀{m:Nat} {r:fq},rows[m]?=some r->∃k b,ks[m]?=some k/\bs[m]?=some b/\r=(k,b,[]):=fun{m r} hm=>by
        rw[er,List.getElem?_zipWith] at hm
        cases e1:ks[m]? with
        |none=>rw[e1] at hm;cases hm
        | some k =>
          cases e2:bs[m]? with
          |none=>rw[e1,e2] at hm;cases hm
          |some b=>rw[e1,e2] at hm;cases hm;exact⟨k,b,rfl,rfl,rfl⟩
      have hk1:rows.map (·.1)=ks:=by
        apply iw
        intro m
        rw[aX]
        cases e:rows[m]? with
        |none=>rw[gC (by have:=qx.mp e;omega)];rfl
        |some r=>obtain⟨k,b,e1,e2,rfl⟩:=qH e;rw[e1];rfl
      have hb1:rows.map (·.2.1)=bs:=by
        apply iw
        intro m
        rw[aX]
        cases e:rows[m]? with
        |none=>rw[gC (by have:=qx.mp e;omega)];rfl
        |some r=>obtain⟨k,b,e1,e2,rfl⟩:=qH e;rw[e2];rfl
      have hq1:(rows.map fun r=>(r.1,r.2.2))=ks.map (fun k=>(k,[])):=by
        apply iw
        intro m
        rw[aX,aX]
        cases e:rows[m]? with
        |none=>rw[gC (by have:=qx.mp e;omega)];rfl
        |some r=>obtain⟨k,b,e1,e2,rfl⟩:=qH e;rw[e1];rfl
      refine⟨acc,ts.map V.ref,rows.map fun r=>(Sum.inl r.1,V.ref r.2.1),rfl,hA,by rw[ak,ak];omega,by rw[ak];omega,fun m y p hy hp=>?_,fun d hd0=>?_⟩
      · rw[aX] at hy hp
        obtain⟨t,e1,rfl⟩:=jR.mp hy
        obtain⟨r,e2,rfl⟩:=jR.mp hp
        obtain⟨k,b,g1,g2,rfl⟩:=qH e2
        exact⟨t,rfl,ht m t b k e1 g2 g1⟩
      · have hm:lB [] (rows.map fun r=>((Sum.inl r.1:Key),V.ref r.2.1))=rows.map fun r=>(Sum.inl r.1,V.ref r.2.1):=by
          rw[Hf,List.nil_append]
          · rw[dz,show((fun(x:Key×V)=>x.1)∘fun(r:fq)=>((Sum.inl r.1:Key),V.ref r.2.1))=(Sum.inl:Int->Key)∘(fun(r:fq)=>r.1) from rfl,<-dz,hk1]
            exact nd.map _ (fun a b h1 h2=>h1 (by injection h2))
          · intro q _;rfl
        rw[hm]
        have hdb:∀b∈bs,b≠d:=fun b hb' z=>by have:=(hb b hb').2;rw[z,hd0] at this;cases this
        have sm:∀b o,H1 b=some o->(upd H2 d (.dK (rows.map fun r=>(Sum.inl r.1,V.ref r.2.1)))) b=some o:=fun b o e=>by
          have:=hk b o e
          rw[az (fun z=>by rw[z,hd0] at this;cases this)];exact this
        have s2:Step G.B H (upd H2 d (.dK (rows.map fun r=>(Sum.inl r.1,V.ref r.2.1)))):=s1.trans (.same s1.2 sm)
        have hd1:H1 d=none:=by
          cases e:H1 d with
          |none=>rfl
          |some o=>rw[hk d o e] at hd0;cases hd0
        have hF:∀b∈(iA d true rows).F,b=d\/b∈bs:=fun b hb'=>by
          rcases aK.mp hb' with z|z
          · exact .inl z
          · rw[hb1] at z;exact .inr z
        refine KK.nx _ _ _ _ (q d rows hq1) (W.Vz (c:=iA d true rows) s2 (fun b hb'=>?_) (fun b hb'=>?_) ?_)
        · rcases hF b hb' with z|z
          · rw[z];exact W.none_of s1 hd1
          · exact W.none_of s1 (hb b z).1
        · rcases hF b hb' with z|z
          · rw[z,aY];exact jF _
          · rw[az (hdb b z),(hb b z).2];exact jF _
        · refine⟨aY,?_,by rw[hk1];exact nd,fun r hr=>?_⟩
          · rw[hb1,iK]
            exact⟨fun z=>hdb d z rfl,hbn⟩
          · obtain⟨m,hm⟩:=mH hr
            obtain⟨k,b,g1,g2,rfl⟩:=qH hm
            have hbm:=eK g2
            exact⟨[],by show upd H2 d _ b=_;rw[az (hdb b hbm)];exact(hb b hbm).2, .nil⟩
theorem aG.CG{Θ:Bool->List PyData->Prop}(h:Ev G ρ te fun _ x=>∃ks:Ks,x= .dict (ks.map bZ)/\ks.length<64/\∀rs:List Int,rs.Pairwise (· <= ·)->rs.Perm (ks.map (·.1))->Θ true (rs.map .int)):aG G ρ (e7 vM (bJ te cF)) Θ:=fun nb σ H Q W z=>
 h nb σ H _ W fun f v H1 x ⟨ks,ex,hl,q⟩ s1 hv=>by
  subst ex
  unfold aj at hv
  obtain⟨a,ps,rfl,n,hp,hd⟩:=hv
  refine⟨a,ps,ks.map (·.1),rfl,hp,ay.keys hd,by rw[ak];exact hl,fun l rs hl' hw dR=>?_⟩
  exact aG.fin (f:=true) W s1 hl' (sS rs) (q rs hw dR) z
end
end L2
set_option maxRecDepth 100000
set_option maxHeartbeats 4000000
namespace L2
open PySem PySem.Spec PyProof.Rows
def dG(prs:aq)(pl:Int):Option Int:=(prs.find? fun pr=>decide (pr.1=pl)).map (·.2)
theorem Rm(pl:Int):dG [] pl=none:=rfl
theorem Gm(prs:aq)(pr:Int×Int)(pl:Int):dG (prs++[pr]) pl=match dG prs pl with|some f=>some f|none=>if pr.1=pl then some pr.2 else none:=by
  unfold dG
  rw[List.find?_append]
  cases prs.find? (fun pr=>decide (pr.1=pl)) with
  |some q=>rfl
  | none =>
    by_cases c:pr.1=pl
    · simp[c]
    · simp[c]
theorem Bd{prs:aq}{pl:Int}(h:pl∉prs.map (·.1)):dG prs pl=none:=by
 unfold dG
 rw[List.find?_eq_none.mpr]
 ·rfl
 ·intro pr aU z
  exact h (by rw[<-of_decide_eq_true z];exact j5 aU)
theorem HS{prs:aq}{pl f:Int}(h:dG prs pl=some f):(pl,f)∈prs:=by
 unfold dG at h
 obtain⟨q,e,rfl⟩:=jR.mp h
 have h1:=List.mem_of_find?_eq_some e
 have h2:=List.find?_some e
 have h2:q.1=pl:=of_decide_eq_true h2
 rw[<-h2]
 exact h1
theorem TU{prs:aq}{pl f:Int}(nd:(prs.map (·.1)).Nodup)(h:(pl,f)∈prs):dG prs pl=some f:=by
  induction prs with
  |nil=>cases h
  | cons q prs ih =>
    rw[bR,iK] at nd
    unfold dG
    rw[ko]
    rcases aK.mp h with z|z
    · subst z;simp
    · have:¬q.1=pl:=fun e=>nd.1 (by rw[e];exact j5 (f:=(·.1)) z)
      rw[decide_eq_false this]
      exact ih nd.2 z
noncomputable def jQ(p:Int)(c:Nat):Option Int->List (Int×Int)
 |some f=>[((c:Int),sol p f 1)]
 |none=>[]
noncomputable def dQ(p:Int)(cs:List aq)(pl:Int)(i:Nat):List (Int×Int):=(List.range i).flatMap fun c=>jQ p c (dG (cs.getD c []) pl)
theorem FA{p:Int}{cs:List aq}{pl:Int}{i:Nat}{prs:aq}(h:cs[i]?=some prs):dQ p cs pl (i+1)=dQ p cs pl i++jQ p i (dG prs pl):=by
 unfold dQ
 rw[uR,uy,yP,eO,h]
 rfl
theorem oG{p:Int}{cs:List aq}{pl:Int}:∀i,(dQ p cs pl i).length<=i
  |0=>aI _
  | i + 1 => by
    unfold dQ
    rw[uR,uy,bP,yP]
    have:=oG (p:=p) (cs:=cs) (pl:=pl) i
    have h2:∀o,(jQ p i o).length<=1:=fun o=>by cases o<;>simp[jQ]
    have:=h2 (dG (cs.getD i []) pl)
    unfold dQ at*
    omega
theorem mU{p:Int}{cs:List aq}{pl:Int}{q:Int×Int}{i:Nat}(hi:i<=cs.length)(h:q∈dQ p cs pl i):∃(c:Nat) (prs:aq) (f:Int),cs[c]?=some prs/\c<i/\dG prs pl=some f/\q=((c:Int),sol p f 1):=by
  unfold dQ at h
  obtain⟨c,hc,hq⟩:=List.mem_flatMap.mp h
  have hc:=nW.mp hc
  have e:cs[c]?=some cs[c]:=aQ (by omega)
  rw[eO,e] at hq
  cases hf:dG cs[c] pl with
  |none=>simp[jQ,hf] at hq
  | some f =>
    have hq:q∈jQ p c (dG cs[c] pl):=hq
    rw[hf] at hq
    exact⟨c,cs[c],f,e,hc,hf,cg.mp hq⟩
noncomputable def iP(p:Int)(cs:List aq)(c:Nat)(prs:aq)(pl:Int):Int×List PyData:=(pl,(dQ p cs pl c++jQ p c (dG prs pl)).map pairD)
theorem UA{p:Int}{cs:List aq}{c:Nat}{c6:List Int}:(c6.map fun pl=>(pl,(dQ p cs pl c).map pairD))=c6.map (iP p cs c []):=by
 apply fQ
 intro pl _
 unfold iP
 rw[Rm]
 show _=(pl,(dQ p cs pl c++[]).map pairD)
 rw[ig]
theorem VJ{p:Int}{cs:List aq}{c:Nat}{prs:aq}{pr:Int×Int}{c6:List Int}(h:pr.1∉c6):c6.map (iP p cs c (prs++[pr]))=c6.map (iP p cs c prs):=by
 apply fQ
 intro pl hpl
 unfold iP
 rw[Gm]
 have:¬pr.1=pl:=fun e=>h (by rw[e];exact hpl)
 cases dG prs pl<;>simp[this]
theorem Rp{p:Int}{cs:List aq}{c:Nat}{prs:aq}{pr:Int×Int}{c6:List Int}(h:pr.1∉prs.map (·.1)):c6.map (iP p cs c (prs++[pr]))=(c6.map (iP p cs c prs)).map fun q=>if q.1=pr.1 then(q.1,q.2++[pairD ((c:Int),sol p pr.2 1)]) else q:=by
 rw[dz]
 apply fQ
 intro pl _
 show iP p cs c (prs++[pr]) pl=if pl=pr.1 then _ else _
 unfold iP
 rw[Gm]
 by_cases e:pl=pr.1
 ·subst e
  rw[if_pos rfl,Bd h]
  simp[jQ]
 ·rw[if_neg e]
  have:¬pr.1=pl:=fun z=>e z.symm
  cases dG prs pl<;>simp[this]
noncomputable def bw(p:Int)(cs:List aq)(ws:List Int)(pl:Int):List Int:=
 (dQ p cs pl cs.length).map fun q=>(ws.getD pl.toNat 0-bq (cs.getD q.1.toNat []) (ws.map some)%p*q.2)%p
structure eY(p n:Int)(cs:List aq):Prop where
 hp:fO p
 fP:p<10^40
 n0:1<=n
 n1:n<=400
 cl:cs.length<=400
 ok:∀prs∈cs,jD p n.toNat prs
noncomputable def cY(p:Int)(cs:List aq)(ws:List Int):List Int:=cs.map fun prs=>bq prs (ws.map some)%p
theorem zf{p:Int}{cs:List aq}{ws:List Int}(c:Nat)(h:c<cs.length):(cY p cs ws).getD c 0=bq (cs.getD c []) (ws.map some)%p:=by
 unfold cY
 rw[eO,aX,eO,aQ h]
 rfl
theorem t6(p:Int)(cs:List aq)(ws:List Int):(cs.map fun prs=>iN (nO p prs (ws.map some)))=(cY p cs ws).map PyData.int:=by
 unfold cY
 rw[dz]
 apply fQ
 intro prs _
 have:¬tw prs (ws.map some):=by
  rintro⟨pr,_,z⟩
  rw[aX] at z
  cases h:ws[pr.1.toNat]? with
  |none=>rw[h] at z;cases z
  |some x=>rw[h] at z;cases z
 unfold nO
 rw[if_neg this]
 rfl
theorem G4{prs:aq}{ws:List Int}{pl:Nat}{x:Int}(nd:(prs.map (·.1)).Nodup)(hr:∀pr∈prs,0<=pr.1)(hpl:pl<ws.length):
    bq prs ((ws.set pl x).map some)=bq prs (ws.map some)+((dG prs (pl:Int)).getD 0)*(x-ws.getD pl 0):=by
  induction prs with
  |nil=>show(0:Int)=0+0*_;rw[m9];rfl
  | cons pr prs ih =>
    rw[bR,iK] at nd
    have ih:=ih nd.2 fun q hq=>hr q (cK _ hq)
    have h0:=hr pr (bA ..)
    show ia _ pr+bq prs _=(ia _ pr+bq prs _)+_
    rw[ih]
    have hf:dG (pr::prs) (pl:Int)=if pr.1=(pl:Int) then some pr.2 else dG prs (pl:Int):=by
      unfold dG
      rw[ko]
      by_cases c:pr.1=(pl:Int)
      · simp[c]
      · simp[c]
    rw[hf]
    by_cases c:pr.1=(pl:Int)
    · rw[if_pos c]
      have hn:dG prs (pl:Int)=none:=Bd (by rw[<-c];exact nd.1)
      rw[hn]
      have hn2:pr.1.toNat=pl:=by omega
      unfold ia
      rw[aX,aX,hn2,dH hpl,eO,aQ hpl]
      show pr.2*x+(_+0*_)=pr.2*ws[pl]+_+pr.2*(x-ws[pl])
      grind
    · rw[if_neg c]
      have hn2:pl≠pr.1.toNat:=by omega
      have:ia ((ws.set pl x).map some) pr=ia (ws.map some) pr:=by
        unfold ia
        rw[aX,aX,ck hn2]
      rw[this]
      omega
theorem Up{p:Int}{prs:aq}{ws:List Int}{pl:Nat}{x f:Int}(hp:fO p)(hq:jD p ws.length prs)(hpl:pl<ws.length)(hf:dG prs (pl:Int)=some f)(x0:0<=x)(x1:x<p):
  (ws.getD pl 0-bq prs (ws.map some)%p*sol p f 1)%p=x↔bq prs ((ws.set pl x).map some)%p=0:=by
 have hm:=HS hf
 obtain⟨_,_,f0,f1⟩:=hq.2.2 _ hm
 have p2:=hp.1
 have hfp:f%p≠0:=by rw[q9 (by omega) f1];dsimp only at f0;omega
 obtain⟨k,hk⟩:=KQ (a:=1) hp hfp
 rw[G4 hq.1 (fun pr aU=>(hq.2.2 pr aU).1) hpl,hf]
 generalize bq prs (ws.map some)=D
 generalize sol p f 1=s at*
 generalize ws.getD pl 0=w
 have hD:D%p=D-p*(D/p):=Int.emod_def ..
 constructor
 ·intro e
  have e2:w-D%p*s=x+p*((w-D%p*s)/p):=by rw[<-e];exact(Hh _ _).symm
  generalize (w-D%p*s)/p=j at e2
  rw[hD] at e2
  apply zj
  refine⟨-(D*k)+D/p*(f*s)-f*j,?_⟩
  show D+f*(x-w)=_
  have e3:x-w= -(D-p*(D/p))*s-p*j:=by grind
  rw[e3]
  grind
 ·intro e
  obtain⟨j,hj⟩:=Int.dvd_of_emod_eq_zero e
  have hj:D+f*(x-w)=p*j:=hj
  have:w-D%p*s=x+p*(D/p*s-j*s+k*(x-w)):=by
   rw[hD]
   have h1:(D+f*(x-w))*s=p*j*s:=by rw[hj]
   grind
  rw[this,Int.add_mul_emod_self_left,q9 x0 x1]
noncomputable def ju(p:Int)(cs:List aq)(ws:List Int)(pl:Nat)(x:Int):Nat:=cs.countP fun prs=>decide ((pl:Int)∈prs.map (·.1)) && decide (bq prs ((ws.set pl x).map some)%p=0)
theorem sM{p:Int}{cs:List aq}{ws:List Int}{pl:Nat}{x:Int}(hp:fO p)(hq:∀prs∈cs,jD p ws.length prs)(hpl:pl<ws.length)(x0:0<=x)(x1:x<p):(bw p cs ws (pl:Int)).count x=ju p cs ws pl x:=by
  have key:∀i,i<=cs.length->(((dQ p cs (pl:Int) i).map fun q=>(ws.getD pl 0-bq (cs.getD q.1.toNat []) (ws.map some)%p*q.2)%p).count x)=ju p (cs.take i) ws pl x:=by
    intro i
    induction i with
    |zero=>intro _;rfl
    | succ i ih =>
      intro hi
      have e:cs[i]?=some cs[i]:=aQ (by omega)
      have hg:cs.getD i []=cs[i]:=by rw[eO,e];rfl
      have C0:=hq cs[i] (ie _)
      unfold ju at*
      rw[FA e,cN,List.count_append,ih (by omega),take_snoc e,lq]
      congr 1
      rw[qW]
      cases hf:dG cs[i] (pl:Int) with
      | none =>
        have:¬(pl:Int)∈cs[i].map (·.1):=fun z=>by
          obtain⟨pr,aU,e2⟩:=bW.mp z
          rw[TU C0.1 (show((pl:Int),pr.2)∈cs[i] by rw[<-e2];exact aU)] at hf
          cases hf
        simp[jQ,this]
      | some f =>
        have hm:(pl:Int)∈cs[i].map (·.1):=j5 (f:=(·.1)) (HS hf)
        have hv:=Up hp C0 hpl hf x0 x1
        show List.count x [(ws.getD pl 0-bq (cs.getD ((i:Int)).toNat []) (ws.map some)%p*sol p f 1)%p]=_
        rw[eT,hg,ET]
        have hb:((ws.getD pl 0-bq cs[i] (ws.map some)%p*sol p f 1)%p==x)=decide (bq cs[i] ((ws.set pl x).map some)%p=0):=by
          rw[mh,beq_iff_eq,decide_eq_true_eq]
          exact hv
        rw[hb,decide_eq_true hm,qZ]
  have:=key cs.length (aI _)
  rw[gb] at this
  unfold bw
  rw[eT]
  exact this
theorem IA:∀{a b:List Int},a.Pairwise (· < ·)->b.Pairwise (· < ·)->(∀k,k∈a↔k∈b)->a=b
  |[],[],_,_,_=>rfl
  |[],y::b,_,_,h=>absurd ((h y).mpr (bA ..)) (by simp)
  |x::a,[],_,_,h=>absurd ((h x).mp (bA ..)) (by simp)
  | x :: a, y :: b, ha, hb, h => by
    rw[B7] at ha hb
    have Oq:x=y:=by
      rcases aK.mp ((h x).mp (bA ..)) with z|z
      · exact z
      · rcases aK.mp ((h y).mpr (bA ..)) with w|w
        · exact w.symm
        · have h1:=hb.1 x z
          have h2:=ha.1 y w
          omega
    subst Oq
    rw[IA ha.2 hb.2 fun k=>?_]
    constructor
    · intro z
      rcases aK.mp ((h k).mp (cK _ z)) with w|w
      · have:=ha.1 k z;omega
      · exact w
    · intro z
      rcases aK.mp ((h k).mpr (cK _ z)) with w|w
      · have:=hb.1 k z;omega
      · exact w
theorem J8(ks:Ks)(k:Int)(d:PyData):(nG ks k d).length<=ks.length+1:=by
 unfold nG
 split
 ·rw[ak];omega
 ·rw[bP,fE];omega
end L2
set_option maxRecDepth 100000
set_option maxHeartbeats 4000000
namespace L2
open PySem PySem.Spec PyProof.Rows
theorem C6{x y:Int}(h:x≠y):∀L:List Int,L.count x+L.count y<=L.length
  |[]=>aI _
  | z :: L => by
    have ih:=C6 h L
    rw[List.count_cons,List.count_cons,fM]
    by_cases c1:z=x
    · have:¬z=y:=fun e=>h (c1.symm.trans e)
      simp[c1,h]
      omega
    · simp[c1]
      split<;>omega
def cX(L:List Int)(w x:Int):Bool:=decide (x≠w) && decide (L.length<2*L.count x)
def jb(L:List Int)(w:Int):List Int:=(L.filter (cX L w)).take 1
theorem CO{L:List Int}{w x y:Int}(hx:cX L w x=true)(hy:cX L w y=true):x=y:=by
 unfold cX at hx hy
 rw[cP,decide_eq_true_eq,decide_eq_true_eq] at hx hy
 refine iX fun h=>?_
 have:=C6 h L
 omega
theorem KP{L ms:List Int}{w:Int}(nd:ms.Nodup)(hm:∀k,k∈ms↔k∈L):ms.filter (cX L w)=jb L w:=by
  unfold jb
  cases e:L.filter (cX L w) with
  | nil =>
    rw[C8] at e
    show _=[]
    rw[C8]
    exact fun x hx=>e x ((hm x).mp hx)
  | cons x r =>
    have hx:x∈L.filter (cX L w):=by rw[e];exact bA ..
    rw[j3] at hx
    have l9:x∈ms.filter (cX L w):=j3.mpr ⟨(hm x).mpr hx.1,hx.2⟩
    have hall:∀y∈ms.filter (cX L w),y=x:=fun y hy=>CO (j3.mp hy).2 hx.2
    have hnd:(ms.filter (cX L w)).Nodup:=nd.filter _
    show _=[x]
    cases e2:ms.filter (cX L w) with
    |nil=>rw[e2] at l9;cases l9
    | cons y r2 =>
      rw[e2] at hall hnd
      have ey:=hall y (bA ..)
      subst ey
      cases r2 with
      |nil=>rfl
      | cons z r3 =>
        have:=hall z (cK _ (bA ..))
        subst this
        rw[iK] at hnd
        exact absurd (bA ..) hnd.1
@[reducible] def bu(t:Int×Int×Int):PyData:= .tuple [.int t.1, .int t.2.1, .int t.2.2]
noncomputable def lC(p:Int)(cs:List aq)(ws:List Int)(i:Nat):List (Int×Int×Int):=(jb (bw p cs ws (i:Int)) (ws.getD i 0)).map fun x=>((i:Int),ws.getD i 0,x)
noncomputable def aP(p:Int)(cs:List aq)(ws:List Int)(m:Nat):List (Int×Int×Int):=(List.range m).flatMap (lC p cs ws)
theorem GL{p:Int}{cs:List aq}{ws:List Int}{m:Nat}:aP p cs ws (m+1)=aP p cs ws m++lC p cs ws m:=by
 unfold aP
 rw[uR,uy,yP]
theorem SA{L:List Int}{w:Int}:(jb L w).length<=1:=by unfold jb;rw[iQ];omega
theorem rX{p:Int}{cs:List aq}{ws:List Int}:∀m,(aP p cs ws m).length<=m
  |0=>aI _
  | m + 1 => by
    rw[GL,bP]
    have:=rX (p:=p) (cs:=cs) (ws:=ws) m
    have:(lC p cs ws m).length<=1:=by unfold lC;rw[ak];exact SA
    omega
theorem S9{L:List Int}{w x:Int}(h:x∈jb L w):x∈L:=(j3.mp (pL h)).1
theorem sq{p:Int}{cs:List aq}{ws:List Int}{m:Nat}{t:Int×Int×Int}(h:t∈aP p cs ws m):∃i<m,t.1=(i:Int)/\t.2.1=ws.getD i 0/\t.2.2∈bw p cs ws (i:Int):=by
 unfold aP at h
 obtain⟨i,hi,ht⟩:=List.mem_flatMap.mp h
 unfold lC at ht
 obtain⟨x,hx,rfl⟩:=bW.mp ht
 exact⟨i,nW.mp hi,rfl,rfl,S9 hx⟩
def cA(ws:List Int)(ts:List (Int×Int×Int)):List Int:=ts.foldl (fun w t=>w.set t.1.toNat t.2.2) ws
theorem PR(ws:List Int)(ts:List (Int×Int×Int))(t:Int×Int×Int):cA ws (ts++[t])=(cA ws ts).set t.1.toNat t.2.2:=by unfold cA;rw[qD];rfl
theorem qB(ws:List Int):∀ts,(cA ws ts).length=ws.length:=by
 intro ts
 unfold cA
 induction ts generalizing ws with
 |nil=>rfl
 |cons t ts ih=>rw[p9,ih,fh]
theorem Kh{ws:List Int}{P:Int->Prop}(h:∀x∈ws,P x):∀ts:List (Int×Int×Int),(∀t∈ts,P t.2.2)->∀x∈cA ws ts,P x:=by
  intro ts
  unfold cA
  induction ts generalizing ws with
  |nil=>exact fun _=>h
  | cons t ts ih =>
    intro ht
    rw[p9]
    refine ih (fun x hx=>?_) fun q hq=>ht q (cK _ hq)
    rcases AY hx with z|z
    · exact h x z
    · rw[z];exact ht t (bA ..)
theorem pT{p:Int}{cs:List aq}{ws:List Int}{pl:Int}(hp:0<p):∀x∈bw p cs ws pl,0<=x/\x<p:=fun x hx=>by
 unfold bw at hx
 obtain⟨y,_,rfl⟩:=bW.mp hx
 exact⟨gJ _ (by omega),gy _ hp⟩
theorem KA{p:Int}{cs:List aq}{ws:List Int}{pl:Int}:(bw p cs ws pl).length<=cs.length:=by
 unfold bw
 rw[ak]
 exact oG cs.length
noncomputable def jM(p:Int)(cs:List aq)(n:Nat):Ks:=((List.range n).map fun(i:Nat)=>(i:Int)).map fun pl=>(pl,PyData.list ((dQ p cs pl cs.length).map pairD))
theorem EG{p:Int}{cs:List aq}{n i:Nat}(h:i<n):fU (jM p cs n) (i:Int)=some (.list ((dQ p cs (i:Int) cs.length).map pairD)):=by
 unfold jM
 rw[ou,if_pos (bW.mpr ⟨i,nW.mpr h,rfl⟩)]
end L2
set_option maxRecDepth 100000
set_option maxHeartbeats 4000000
namespace L2
open PySem PySem.Spec PyProof.Rows
def brk(p:Int)(cs:List aq)(ws:List Int):Nat:=cs.countP fun prs=>decide (bq prs (ws.map some)%p≠0)
theorem qA{p:Int}{cs:List aq}{ws:List Int}:brk p cs ws<=cs.length:=List.countP_le_length
theorem UL{p:Int}{cs:List aq}{ws:List Int}{pl:Nat}{x:Int}(hp:fO p)(hq:∀prs∈cs,jD p ws.length prs)(hpl:pl<ws.length)(hw:∀y∈ws,0<=y/\y<p)(x0:0<=x)(x1:x<p):
    (brk p cs (ws.set pl x):Int)=brk p cs ws+(bw p cs ws (pl:Int)).count (ws.getD pl 0)-(bw p cs ws (pl:Int)).count x:=by
  have hg:ws.getD pl 0=ws[pl]:=by rw[eO,aQ hpl];rfl
  obtain⟨g0,g1⟩:=hw _ (ie hpl)
  rw[sM hp hq hpl x0 x1,sM hp hq hpl (by rw[hg];exact g0) (by rw[hg];exact g1)]
  have DX:ws.set pl (ws.getD pl 0)=ws:=by rw[hg];exact List.set_getElem_self hpl
  unfold ju brk
  rw[DX]
  clear DX hg g0 g1
  induction cs with
  |nil=>rfl
  | cons prs cs ih =>
    have ih:=ih fun q h=>hq q (cK _ h)
    have GZ:=hq prs (bA ..)
    rw[vq,vq,vq,vq]
    by_cases c:(pl:Int)∈prs.map (·.1)
    · by_cases c1:bq prs ((ws.set pl x).map some)%p=0
      · by_cases c2:bq prs (ws.map some)%p=0
        · rw[if_neg (by rw[decide_eq_false (fun z=>z c1)];decide),if_neg (by rw[decide_eq_false (fun z=>z c2)];decide),if_pos (by rw[decide_eq_true c,decide_eq_true c2];rfl),if_pos (by rw[decide_eq_true c,decide_eq_true c1];rfl)]
          omega
        · rw[if_neg (by rw[decide_eq_false (fun z=>z c1)];decide),if_pos (by rw[decide_eq_true c2]),if_neg (by rw[decide_eq_true c,decide_eq_false c2];decide),if_pos (by rw[decide_eq_true c,decide_eq_true c1];rfl)]
          omega
      · by_cases c2:bq prs (ws.map some)%p=0
        · rw[if_pos (by rw[decide_eq_true c1]),if_neg (by rw[decide_eq_false (fun z=>z c2)];decide),if_pos (by rw[decide_eq_true c,decide_eq_true c2];rfl),if_neg (by rw[decide_eq_true c,decide_eq_false c1];decide)]
          omega
        · rw[if_pos (by rw[decide_eq_true c1]),if_pos (by rw[decide_eq_true c2]),if_neg (by rw[decide_eq_true c,decide_eq_false c2];decide),if_neg (by rw[decide_eq_true c,decide_eq_false c1];decide)]
          omega
    · have hf:dG prs (pl:Int)=none:=Bd c
      have e:bq prs ((ws.set pl x).map some)=bq prs (ws.map some):=by
        rw[G4 GZ.1 (fun pr aU=>(GZ.2.2 pr aU).1) hpl,hf]
        show _+0*_=_
        rw[m9,we]
      rw[e,decide_eq_false c,Bool.false_and]
      simp only[zC,if_false]
      split<;>omega
abbrev gX:=Int×Option (Int×Int×Int)
def iI(p:Int)(cs:List aq)(ws:List Int)(i:Nat)(s:gX)(x:Int):gX:=if(brk p cs (ws.set i x):Int)<s.1 then(brk p cs (ws.set i x),some ((i:Int),x,(brk p cs (ws.set i x):Int))) else s
def gG(p:Int)(cs:List aq)(ws:List Int)(i:Nat)(s:gX)(xs:List Int):gX:=xs.foldl (iI p cs ws i) s
theorem RZ{p:Int}{cs:List aq}{ws:List Int}{i:Nat}{s:gX}{xs:List Int}{x:Int}:gG p cs ws i s (xs++[x])=iI p cs ws i (gG p cs ws i s xs) x:=by unfold gG;rw[qD];rfl
theorem Ik{p:Int}{cs:List aq}{ws:List Int}{i:Nat}{s:gX}{x:Int}:(iI p cs ws i s x).1<=s.1:=by
 unfold iI
 split
 ·dsimp only;omega
 ·exact uz _
theorem P4{p:Int}{cs:List aq}{ws:List Int}{i:Nat}{xs:List Int}:∀{s:gX},(gG p cs ws i s xs).1<=s.1:=by
 induction xs with
 |nil=>exact uz _
 |cons x xs ih=>intro s;exact wW (ih (s:=iI p cs ws i s x)) Ik
noncomputable def je(p:Int)(cs:List aq)(ws:List Int)(i:Nat):List Int:=open Classical in
 if h:∃rs:List Int,rs.Pairwise (· < ·)/\∀k,k∈rs↔k∈bw p cs ws (i:Int) then Classical.choose h else[]
theorem Uy{p:Int}{cs:List aq}{ws:List Int}{i:Nat}{rs:List Int}(h1:rs.Pairwise (· < ·))(h2:∀k,k∈rs↔k∈bw p cs ws (i:Int)):rs=je p cs ws i:=by
 have h:∃rs:List Int,rs.Pairwise (· < ·)/\∀k,k∈rs↔k∈bw p cs ws (i:Int):=⟨rs,h1,h2⟩
 unfold je
 rw[dif_pos h]
 obtain⟨g1,g2⟩:=qF h
 exact IA h1 g1 fun k=>by rw[h2 k,g2 k]
noncomputable def bK(p:Int)(cs:List aq)(ws:List Int)(m:Nat):gX:=(List.range m).foldl (fun s i=>gG p cs ws i s (je p cs ws i)) ((brk p cs ws:Int),none)
theorem nD{p:Int}{cs:List aq}{ws:List Int}{m:Nat}:bK p cs ws (m+1)=gG p cs ws m (bK p cs ws m) (je p cs ws m):=by
 unfold bK
 rw[uR,qD]
 rfl
theorem wg{p:Int}{cs:List aq}{ws:List Int}:∀m,(bK p cs ws m).1<=brk p cs ws
 |0=>uz _
 |m+1=>by rw[nD];exact wW P4 (wg m)
theorem ND{p:Int}{cs:List aq}{ws:List Int}{i:Nat}{s:gX}{x:Int}{m:Nat}{B:Int}(hs:(s.2=none/\s.1=B)\/∃j y,j<m/\s=((brk p cs (ws.set j y):Int),some ((j:Int),y,(brk p cs (ws.set j y):Int)))/\(brk p cs (ws.set j y):Int)<B/\0<=y/\y<p)(hi:i<m)(x0:0<=x)(x1:x<p)(hB:s.1<=B):
  ((iI p cs ws i s x).2=none/\(iI p cs ws i s x).1=B)\/∃j y,j<m/\iI p cs ws i s x=((brk p cs (ws.set j y):Int),some ((j:Int),y,(brk p cs (ws.set j y):Int)))/\(brk p cs (ws.set j y):Int)<B/\0<=y/\y<p:=by
 unfold iI
 split
 ·exact .inr ⟨i,x,hi,rfl,by omega,x0,x1⟩
 ·exact hs
theorem Jk{p:Int}{cs:List aq}{ws:List Int}{i:Nat}{m:Nat}{B:Int}(hi:i<m):∀{xs:List Int} {s:gX},(∀x∈xs,0<=x/\x<p)->s.1<=B->((s.2=none/\s.1=B)\/∃j y,j<m/\s=((brk p cs (ws.set j y):Int),some ((j:Int),y,(brk p cs (ws.set j y):Int)))/\(brk p cs (ws.set j y):Int)<B/\0<=y/\y<p)->
  ((gG p cs ws i s xs).2=none/\(gG p cs ws i s xs).1=B)\/∃j y,j<m/\gG p cs ws i s xs=((brk p cs (ws.set j y):Int),some ((j:Int),y,(brk p cs (ws.set j y):Int)))/\(brk p cs (ws.set j y):Int)<B/\0<=y/\y<p
 |[],_,_,_,h=>h
 |x::xs,s,hx,hB,h=>Jk hi (xs:=xs) (fun y hy=>hx y (cK _ hy)) (wW Ik hB) (ND h hi (hx x (bA ..)).1 (hx x (bA ..)).2 hB)
theorem Nl{p:Int}{cs:List aq}{ws:List Int}{i:Nat}(hp:0<p):∀x∈je p cs ws i,0<=x/\x<p:=by
 intro x hx
 unfold je at hx
 split at hx
 ·rename_i h
  exact pT hp x (((qF h).2 x).mp hx)
 ·cases hx
theorem o9{p:Int}{cs:List aq}{ws:List Int}{m:Nat}(hp:0<p):∀k,k<=m->((bK p cs ws k).2=none/\(bK p cs ws k).1=(brk p cs ws:Int))\/∃j y,j<m/\bK p cs ws k=((brk p cs (ws.set j y):Int),some ((j:Int),y,(brk p cs (ws.set j y):Int)))/\(brk p cs (ws.set j y):Int)<(brk p cs ws:Int)/\0<=y/\y<p
  |0,_=> .inl ⟨rfl,rfl⟩
  | k + 1, h => by
    rw[nD]
    exact Jk (by omega) (Nl hp) (wg k) (o9 hp k (by omega))
noncomputable def runC(p:Int)(cs:List aq)(n:Nat):Nat->List Int->List Int×List (Int×Int×Int)
  |0,ws=>(ws,[])
  | k + 1, ws => match (bK p cs ws n).2 with
    |none=>(ws,[])
    |some t=>((runC p cs n k (ws.set t.1.toNat t.2.1)).1,t::(runC p cs n k (ws.set t.1.toNat t.2.1)).2)
theorem jJ{p:Int}{cs:List aq}{n k:Nat}{ws:List Int}(h:(bK p cs ws n).2=none):runC p cs n k ws=(ws,[]):=by
 cases k with
 |zero=>rfl
 |succ k=>unfold runC;rw[h]
theorem kg{p:Int}{cs:List aq}{n k:Nat}{ws:List Int}{t:Int×Int×Int}(h:(bK p cs ws n).2=some t):runC p cs n (k+1) ws=((runC p cs n k (ws.set t.1.toNat t.2.1)).1,t::(runC p cs n k (ws.set t.1.toNat t.2.1)).2):=by
 rw[runC,h]
theorem Ev.S7{G:Gx}{ρ:Rh}{ta tb tc:TE}{K:PySem.W.Frag}{Φ:Pd}(h:Ev G ρ tc fun f x=>∃ks:Ks,x= .dict (ks.map bZ)/\Ev G ρ ta fun _ y=>∃k,y= .int k/\Ev G ρ tb fun g z=>Φ (f && g) ((fU ks k).getD z)):Ev G ρ (qb K "dict" BR tc (bJ ta (bJ tb cF))) Φ:=fun nb σ H Q W z=>
  h nb σ H _ W fun f v H1 x ⟨ks,ex,q⟩ s1 hv=>by
    subst ex
    unfold aj at hv
    obtain⟨a,ps,rfl,n,hp,hd⟩:=hv
    have hN:NB G.B a:=iX fun z=>n (.inr (.inr (.inl z)))
    have hty:oO K "dict" (.ref a) H1:=by
      rcases hp with hp|⟨o,hp⟩
      · exact .inr (.inr (.inl ⟨rfl, .inl ⟨_,hp⟩⟩))
      · exact .inr (.inr (.inl ⟨rfl, .inr (.inr ⟨_,_,hp⟩)⟩))
    refine⟨hty,?_⟩
    refine q nb σ H1 _ (W.step s1) fun g w H2 y ⟨k,ey,q2⟩ s2 hw=>q2 nb σ H2 _ ((W.step s1).step s2) fun g' u H3 x p s3 hu=>?_
    subst ey
    have rQ:=s2.trans s3
    have hd2:=hd.keep rQ.eg
    have hp3:Rd H3 a (.dK ps):=by
      rcases hp with hp|⟨o,hp⟩
      · exact .inl (rQ.1 _ _ hN hp)
      · exact .inr ⟨o,rQ.1 _ _ hN hp⟩
    have hv:=ay.val k hd2
    refine⟨a,ps, .inl k,u,rfl,by rw[hw.cD];rfl,hp3,?_⟩
    cases hk:fU ks k with
    | none =>
      rw[hk] at hv p
      rw[hv]
      exact z _ _ H3 _ p (s1.trans rQ) (hu.av (bI (fun z=>(cP _ _▸z).2) fun _ z=>z))
    | some d =>
      rw[hk] at hv p
      obtain⟨v,e',hD⟩:=hv
      rw[e']
      exact z _ _ H3 _ p (s1.trans rQ) (hD.av (bI (fun z=>(cP _ _▸z).1) fun _ z=>z))
end L2
set_option maxRecDepth 100000
set_option maxHeartbeats 4000000
namespace L2
open PySem PySem.Spec PyProof.Rows
abbrev cH:=Int×Int×Int
noncomputable def cC(p:Int)(cs:List aq)(n:Nat):Nat->List Int->List Int×List (List cH)×Str
  |0,ws=>(ws,[],if brk p cs ws=0 then Str.ofString "held" else Str.ofString "far")
  | k + 1, ws => if brk p cs ws = 0 then (ws, [], Str.ofString "held") else if aP p cs ws n = [] then (ws, [], Str.ofString "stuck")
    else((cC p cs n k (cA ws (aP p cs ws n))).1,aP p cs ws n::(cC p cs n k (cA ws (aP p cs ws n))).2.1,(cC p cs n k (cA ws (aP p cs ws n))).2.2)
theorem gF{p:Int}{cs:List aq}{n k:Nat}{ws:List Int}(h:brk p cs ws=0):cC p cs n k ws=(ws,[],Str.ofString "held"):=by
 cases k with
 |zero=>rw[cC,if_pos h]
 |succ k=>rw[cC,if_pos h]
theorem jP{p:Int}{cs:List aq}{n:Nat}{ws:List Int}(h:brk p cs ws≠0):cC p cs n 0 ws=(ws,[],Str.ofString "far"):=by
 rw[cC,if_neg h]
theorem kI{p:Int}{cs:List aq}{n k:Nat}{ws:List Int}(h:brk p cs ws≠0)(h2:aP p cs ws n=[]):cC p cs n (k+1) ws=(ws,[],Str.ofString "stuck"):=by
 rw[cC,if_neg h,if_pos h2]
theorem om{p:Int}{cs:List aq}{n k:Nat}{ws:List Int}(h:brk p cs ws≠0)(h2:aP p cs ws n≠[]):cC p cs n (k+1) ws=((cC p cs n k (cA ws (aP p cs ws n))).1,aP p cs ws n::(cC p cs n k (cA ws (aP p cs ws n))).2.1,(cC p cs n k (cA ws (aP p cs ws n))).2.2):=by
 rw[cC,if_neg h,if_neg h2]
theorem LV{p:Int}{cs:List aq}{ws:List Int}:(cY p cs ws).countP (fun s=>decide (s≠0))=brk p cs ws:=by
 unfold cY brk
 rw[rW]
 rfl
def fF(ts:List cH):PyData:= .list (ts.map bu)
def lE(r:List Int×List (List cH)×Str):PyData:= .tuple [bO r.1, .list (r.2.1.map fF), .tuple [.str r.2.2]]
theorem t8{p:Int}{cs:List aq}{n:Nat}{ws:List Int}(hp:0<p)(hl:ws.length=n)(hw:∀x∈ws,0<=x/\x<p):(cA ws (aP p cs ws n)).length=n/\∀x∈cA ws (aP p cs ws n),0<=x/\x<p:=by
 refine⟨by rw[qB,hl],Kh hw _ fun t ht=>?_⟩
 obtain⟨i,_,_,_,h⟩:=sq ht
 exact pT hp _ h
theorem RL(ts:List cH):SeqAt.shaped (.list (ts.map bu))=true:=by
 have h:PyData.depthAll (ts.map bu)<=1/\PyData.canLayAll0 (ts.map bu)=true:=by
  induction ts with
  |nil=>simp[PyData.depthAll,PyData.canLayAll0]
  |cons a r ih=>simp[bu,PyData.depthAll,PyData.depth,PyData.canLayAll0,PyData.canLay0,ih.2];have:=ih.1;omega
 unfold SeqAt.shaped
 simp only[PyData.canLay0,PyData.depth,h.2,qZ]
 have:=h.1
 simp
 omega
theorem QT:SeqAt.shaped (.list [])=true:=by with_unfolding_all rfl
theorem Uh(ts:List cH):(PyData.eqv (.list (ts.map bu)) (.list []) !=false)=decide (ts=[]):=by
 cases ts<;>simp[PyData.eqv,PyData.eqvAll]
end L2
set_option maxRecDepth 100000
set_option maxHeartbeats 4000000
set_option maxRecDepth 100000
set_option maxHeartbeats 4000000
namespace L2
open PySem PySem.Spec PyProof.Rows
abbrev CF:=Cu->List PyData->(Cu->Pd)->Prop
end L2
set_option maxRecDepth 100000
set_option maxHeartbeats 4000000
namespace L2
open PySem PySem.Spec PyProof.Rows
inductive Fl where
 |d (d:PyData)|cu (c:Cu)
abbrev Fs:=List (Str×Fl)
end L2
set_option maxRecDepth 100000
set_option maxHeartbeats 4000000
set_option maxRecDepth 100000
set_option maxHeartbeats 4000000
set_option maxRecDepth 100000
set_option maxHeartbeats 4000000
set_option maxRecDepth 100000
set_option maxHeartbeats 4000000
set_option maxRecDepth 100000
set_option maxHeartbeats 4000000
namespace L2
open PySem PySem.Spec PyProof.Rows
inductive Oi where
 |own (b:Addr)|dat (x:PyData)
inductive OO where
 |lst (xs:List Oi)|tup (xs:List Oi)|bU (ks:List (Int×Oi))
abbrev Ww:=List (Addr×OO)
end L2
set_option maxRecDepth 100000
set_option maxHeartbeats 4000000
set_option maxRecDepth 100000
set_option maxHeartbeats 4000000
set_option maxRecDepth 100000
set_option maxHeartbeats 4000000
set_option maxRecDepth 100000
set_option maxHeartbeats 4000000
set_option maxRecDepth 100000
set_option maxHeartbeats 4000000
set_option maxRecDepth 100000
set_option maxHeartbeats 4000000
set_option maxRecDepth 100000
set_option maxHeartbeats 4000000
namespace L2
open PySem PySem.Spec PyProof.Rows
abbrev RF:=Cu->List PyData->Pd->Prop
end L2
set_option maxRecDepth 100000
set_option maxHeartbeats 4000000
set_option maxRecDepth 100000
set_option maxHeartbeats 4000000
set_option maxRecDepth 100000
set_option maxHeartbeats 4000000
set_option maxRecDepth 100000
set_option maxHeartbeats 4000000
set_option maxRecDepth 100000
set_option maxHeartbeats 4000000
namespace L2
open PySem PySem.Spec PyProof.Rows
def bB:Nat->(Nat->Int)->Int
 |0,_=>0
 |n+1,f=>bB n f+f n
theorem zZ{n:Nat}{f:Nat->Int}:bB (n+1) f=bB n f+f n:=rfl
theorem ug{f g:Nat->Int}:∀{n:Nat},(∀k,k<n->f k=g k)->bB n f=bB n g
 |0,_=>rfl
 |n+1,h=>by unfold bB;rw[ug fun k hk=>h k (by omega),h n (by omega)]
theorem xm{f g:Nat->Int}:∀{n:Nat},bB n (fun k=>f k+g k)=bB n f+bB n g
 |0=>rfl
 |n+1=>by rw[zZ,zZ,zZ,xm];omega
theorem wN{a:Int}{f:Nat->Int}:∀{n:Nat},bB n (fun k=>a*f k)=a*bB n f
 |0=>by unfold bB;simp
 |n+1=>by unfold bB;rw[wN,Int.mul_add]
theorem sI:∀{n:Nat},bB n (fun _=>0)=0
 |0=>rfl
 |n+1=>by unfold bB;rw[sI];rfl
theorem En{f:Nat->Nat->Int}{n:Nat}:∀{m:Nat},bB n (fun k=>bB m fun c=>f c k)=bB m fun c=>bB n (f c)
  |0=>sI
  | m + 1 => by
    show bB n (fun k=>bB m (fun c=>f c k)+f m k)=bB m (fun c=>bB n (f c))+bB n (f m)
    rw[xm,En]
theorem Dd{f:Nat->Int}{b:Int}:∀{n:Nat},(∀k,k<n->f k<=b)->bB n f<=n*b
  |0,_=>by unfold bB;simp
  | n + 1, h => by
    unfold bB
    have h1:=Dd (n:=n) fun k hk=>h k (by omega)
    have h2:=h n (by omega)
    rw[show((n+1:Nat):Int)*b=n*b+b by rw[Int.natCast_add,Int.add_mul];simp]
    omega
theorem Et{f:Nat->Int}(hf:∀k,f k=0\/f k=1):∀{n:Nat},(∀k k',k<k'->k'<n->¬(f k=1/\f k'=1))->bB n f<=1
  |0,_=>by unfold bB;omega
  | n + 1, h => by
    unfold bB
    rcases hf n with e|e
    · have:=Et hf (n:=n) fun k k' a b=>h k k' a (by omega)
      omega
    · have:bB n f=0:=by
        rw[ug (g:=fun _=>0) fun k hk=>(hf k).resolve_right fun z=>h k n hk (by omega) ⟨z,e⟩]
        exact sI
      omega
theorem meet{I:Nat->Nat->Int}(hI:∀c k,I c k=0\/I c k=1){n:Nat}:∀{m:Nat},(∀c d k k',c<d->d<m->k<k'->k'<n->¬(I c k=1/\I d k=1/\I c k'=1/\I d k'=1))->
    bB n (fun k=>bB m (fun c=>I c k)*(bB m (fun c=>I c k)-1))<=m*(m-1)
  | 0, _ => by
    rw[ug (g:=fun _=>0) fun k _=>by unfold bB;simp,sI];simp
  | m + 1, h => by
    have ih:=meet hI (n:=n) (m:=m) fun c d k k' a b=>h c d k k' a (by omega)
    have e:bB n (fun k=>bB (m+1) (fun c=>I c k)*(bB (m+1) (fun c=>I c k)-1))=bB n (fun k=>bB m (fun c=>I c k)*(bB m (fun c=>I c k)-1)+2*bB m (fun c=>I m k*I c k)):=by
      refine ug fun k _=>?_
      rw[wN]
      show(bB m (fun c=>I c k)+I m k)*(bB m (fun c=>I c k)+I m k-1)=_
      generalize bB m (fun c=>I c k)=D
      rcases hI m k with z|z<;>rw[z]<;>grind
    rw[e,xm,wN,En (f:=fun c k=>I m k*I c k)]
    have h2:bB m (fun c=>bB n fun k=>I m k*I c k)<=m*1:=Dd fun c hc=>Et (fun k=>by rcases hI m k with z|z<;>rcases hI c k with y|y<;>rw[z,y]<;>simp) fun k k' hk hk' ⟨z1,z2⟩=>by
      refine h c m k k' hc (by omega) hk hk' ?_
      rcases hI m k with a|a<;>rcases hI c k with b|b<;>rcases hI m k' with a'|a'<;>rcases hI c k' with b'|b'<;>simp_all
    have e3:((m+1:Nat):Int)*((m+1:Nat)-1)=(m:Int)*(m-1)+2*m:=by rw[Int.natCast_add];grind
    omega
end L2
set_option maxRecDepth 100000
set_option maxHeartbeats 4000000
set_option maxRecDepth 100000
set_option maxHeartbeats 4000000
set_option maxRecDepth 100000
set_option maxHeartbeats 4000000
namespace L2
open PySem PySem.Spec PyProof.Rows
theorem Ht{L L':List Int}{w:Int}(h:L'.Perm L):jb L' w=jb L w:=by
  have hg:cX L' w=cX L w:=funext fun x=>by unfold cX;rw[h.length_eq,h.count_eq]
  unfold jb
  rw[hg]
  have hf:=h.filter (cX L w)
  cases e:L.filter (cX L w) with
  |nil=>rw[e] at hf;rw[hf.eq_nil]
  | cons a r =>
    cases e2:L'.filter (cX L w) with
    |nil=>rw[e,e2] at hf;exact absurd hf.symm.eq_nil (by simp)
    | cons b r2 =>
      have ha:a∈L.filter (cX L w):=by rw[e];exact bA
      have hb:b∈L'.filter (cX L w):=by rw[e2];exact bA
      have:=CO (j3.mp ha).2 (j3.mp hb).2
      subst this
      rfl
theorem CL{p:Int}{cs:List aq}{ws:List Int}{m:Nat}:∀t∈aP p cs ws m,0<=t.1/\t.1<m:=fun t ht=>by
 obtain⟨i,hi,e,_⟩:=sq ht
 omega
end L2
set_option maxRecDepth 100000
set_option maxHeartbeats 4000000
set_option maxRecDepth 100000
set_option maxHeartbeats 4000000
namespace L2
open PySem PySem.Spec PyProof.Rows
def gQ(n:Int)(q:aq):aq:=q.map fun pr=>(pr.1+n,pr.2)
def jv(n:Int)(t:cH):cH:=(t.1+n,t.2.1,t.2.2)
structure Jn(p n m:Int)(c1 c2 cs:List aq):Prop where
 v1:eY p n c1
 v2:eY p m c2
 e:cs.Perm (c1++c2.map (gQ n))
 nm:n+m<=400
 l:c1.length+c2.length<=400
section
variable{p n m:Int}{c1 c2 cs:List aq}{u w:List Int}
theorem E7{prs:aq}(h:∀pr∈prs,0<=pr.1/\pr.1<u.length):bq prs ((u++w).map some)=bq prs (u.map some):=by
 unfold bq
 congr 1
 refine fQ fun pr aU=>?_
 have:=h pr aU
 unfold ia
 rw[cN,iB (by rw[ak];omega)]
theorem Df{prs:aq}(h:∀pr∈prs,0<=pr.1)(hn:(u.length:Int)=n):bq (gQ n prs) ((u++w).map some)=bq prs (w.map some):=by
 unfold bq gQ
 rw[dz]
 congr 1
 refine fQ fun pr aU=>?_
 have:=h pr aU
 show ia _ (pr.1+n,pr.2)=_
 unfold ia
 rw[cN,iy (by rw[ak];show u.length<=(pr.1+n).toNat;omega),ak,show(pr.1+n,pr.2).1.toNat-u.length=pr.1.toNat by show(pr.1+n).toNat-u.length=_;omega]
theorem Jn.zA(h:Jn p n m c1 c2 cs):eY p (n+m) cs:=by
 have n0:=h.v1.n0
 have m0:=h.v2.n0
 refine⟨h.v1.hp,h.v1.fP,by omega,h.nm,by rw[h.e.length_eq,bP,ak];exact h.l,fun prs hp=>?_⟩
 rcases gP.mp (h.e.mem_iff.mp hp) with z|z
 ·obtain⟨a,b,c⟩:=h.v1.ok prs z
  exact⟨a,b,fun pr aU=>let ⟨x,y,z⟩:=c pr aU;⟨x,by omega,z⟩⟩
 ·obtain⟨q,hq,rfl⟩:=bW.mp z
  obtain⟨a,b,c⟩:=h.v2.ok q hq
  refine⟨?_,by unfold gQ;rw[ak];exact b,fun pr aU=>?_⟩
  ·unfold gQ
   rw[dz,E5,List.pairwise_map]
   rw[E5,List.pairwise_map] at a
   exact a.imp fun hne z=>hne (by have z:_+n=_+n:=z;omega)
  ·obtain⟨r,hr,rfl⟩:=bW.mp aU
   obtain⟨x,y,z⟩:=c r hr
   exact⟨by show 0<=r.1+n;omega,by show r.1+n<_;omega,z⟩
theorem o5(hV:eY p n cs)(hl:u.length=n.toNat){prs:aq}(h:prs∈cs):∀pr∈prs,0<=pr.1/\pr.1<u.length:=fun pr aU=>by
 obtain⟨a,b,_⟩:=(hV.ok prs h).2.2 pr aU
 omega
theorem pe(h:Jn p n m c1 c2 cs)(hu:u.length=n.toNat)(hw:w.length=m.toNat):brk p cs (u++w)=brk p c1 u+brk p c2 w:=by
 have n0:=h.v1.n0
 unfold brk
 rw[h.e.countP_eq,lq,rW]
 congr 1
 ·refine vj fun prs hp=>?_
  rw[E7 (o5 h.v1 hu hp)]
 ·refine vj fun prs hp=>?_
  show decide (bq (gQ n prs) _%p≠0)=true↔_
  rw[Df (fun pr aU=>(o5 h.v2 hw hp pr aU).1) (by omega)]
theorem Ol(h:Jn p n m c1 c2 cs)(hu:u.length=n.toNat)(hw:w.length=m.toNat){i:Nat}(hi:i<n.toNat){x:Int}:ju p cs (u++w) i x=ju p c1 u i x:=by
 have n0:=h.v1.n0
 unfold ju
 rw[h.e.countP_eq,lq,rW,qi _ _ (by omega)]
 rw[show List.countP (((fun prs:aq=>decide ((i:Int)∈prs.map (·.1)) && decide (bq prs ((u.set i x++w).map some)%p=0)))∘gQ n) c2=0 from ?_,Nat.add_zero]
 ·refine vj fun prs hp=>?_
  rw[E7 (by rw[fh];exact o5 h.v1 hu hp)]
 ·refine uq.mpr fun prs hp z=>?_
  have z:(decide ((i:Int)∈(gQ n prs).map (·.1)) && _)=true:=z
  rw[cP,decide_eq_true_eq] at z
  obtain⟨pr,aU,e⟩:=bW.mp z.1
  obtain⟨q,hq,rfl⟩:=bW.mp aU
  have e:q.1+n=i:=e
  have:=o5 h.v2 hw hp q hq
  omega
theorem U5(h:Jn p n m c1 c2 cs)(hu:u.length=n.toNat)(hw:w.length=m.toNat){i:Nat}(hi:i<m.toNat){x:Int}:ju p cs (u++w) (n.toNat+i) x=ju p c2 w i x:=by
 have n0:=h.v1.n0
 unfold ju
 rw[h.e.countP_eq,lq,rW,rN _ _ (by omega),show n.toNat+i-u.length=i by omega]
 rw[show List.countP (fun prs:aq=>decide (((n.toNat+i:Nat):Int)∈prs.map (·.1)) && decide (bq prs ((u++w.set i x).map some)%p=0)) c1=0 from ?_,Nat.zero_add]
 ·refine vj fun prs hp=>?_
  show(decide (((n.toNat+i:Nat):Int)∈(gQ n prs).map (·.1)) && decide (bq (gQ n prs) _%p=0))=true↔_
  rw[Df (fun pr aU=>(o5 h.v2 hw hp pr aU).1) (by omega)]
  rw[show decide (((n.toNat+i:Nat):Int)∈(gQ n prs).map (·.1))=decide ((i:Int)∈prs.map (·.1)) from decide_eq_decide.mpr ?_]
  constructor
  ·intro z
   obtain⟨pr,aU,e⟩:=bW.mp z
   obtain⟨q,hq,rfl⟩:=bW.mp aU
   have e:q.1+n=((n.toNat+i:Nat):Int):=e
   exact bW.mpr ⟨q,hq,by omega⟩
  ·intro z
   obtain⟨q,hq,e⟩:=bW.mp z
   exact bW.mpr ⟨(q.1+n,q.2),bW.mpr ⟨q,hq,rfl⟩,by show q.1+n=_;omega⟩
 ·refine uq.mpr fun prs hp z=>?_
  rw[cP,decide_eq_true_eq] at z
  obtain⟨pr,aU,e⟩:=bW.mp z.1
  have:=o5 h.v1 hu hp pr aU
  omega
theorem CZ{cs cs':List aq}{ws fk:List Int}{i i':Nat}{a b:Int}(hV:eY p a cs)(kB:eY p b cs')(hl:ws.length=a.toNat)(hl':fk.length=b.toNat)(hi:i<a.toNat)(hi':i'<b.toNat)(h:∀x,ju p cs ws i x=ju p cs' fk i' x):(bw p cs ws (i:Int)).Perm (bw p cs' fk (i':Int)):=by
 have p2:=hV.hp.1
 refine List.perm_iff_count.mpr fun x=>?_
 by_cases hx:0<=x/\x<p
 ·rw[sM hV.hp (fun prs hp=>by rw[hl];exact hV.ok prs hp) (by omega) hx.1 hx.2,sM kB.hp (fun prs hp=>by rw[hl'];exact kB.ok prs hp) (by omega) hx.1 hx.2]
  exact h x
 ·rw[vP.mpr fun z=>hx (pT (by omega) x z),vP.mpr fun z=>hx (pT (by omega) x z)]
theorem BB(h:Jn p n m c1 c2 cs)(hu:u.length=n.toNat)(hw:w.length=m.toNat){i:Nat}(hi:i<n.toNat):(bw p cs (u++w) (i:Int)).Perm (bw p c1 u (i:Int)):=by
 have n0:=h.v1.n0
 have m0:=h.v2.n0
 exact CZ h.zA h.v1 (by rw[bP];omega) hu (by omega) hi fun x=>Ol h hu hw hi
theorem wA(h:Jn p n m c1 c2 cs)(hu:u.length=n.toNat)(hw:w.length=m.toNat){i:Nat}(hi:i<m.toNat):(bw p cs (u++w) ((n.toNat+i:Nat):Int)).Perm (bw p c2 w (i:Int)):=by
 have n0:=h.v1.n0
 have m0:=h.v2.n0
 exact CZ h.zA h.v2 (by rw[bP];omega) hw (by omega) hi fun x=>U5 h hu hw hi
theorem yg(h:Jn p n m c1 c2 cs)(hu:u.length=n.toNat)(hw:w.length=m.toNat):aP p cs (u++w) (n+m).toNat=aP p c1 u n.toNat++(aP p c2 w m.toNat).map (jv n):=by
 have n0:=h.v1.n0
 have m0:=h.v2.n0
 unfold aP
 rw[show(n+m).toNat=n.toNat+m.toNat by omega,List.range_add,uy,List.map_flatMap,List.flatMap_map]
 have hc:∀{f g:Nat->List cH} {l:List Nat},(∀i∈l,f i=g i)->l.flatMap f=l.flatMap g:=fun{f g l} h=>by
  induction l with
  |nil=>rfl
  |cons a l ih=>rw[List.flatMap_cons,List.flatMap_cons,h a bA,ih fun i hi=>h i (cK _ hi)]
 congr 1
 ·refine hc fun i hi=>?_
  have hi:=nW.mp hi
  unfold lC
  rw[Ht (BB h hu hw hi),eO,iB (by omega),<-eO]
 ·refine hc fun i hi=>?_
  have hi:=nW.mp hi
  unfold lC
  rw[Ht (wA h hu hw hi),eO,iy (by omega),show n.toNat+i-u.length=i by omega,<-eO,dz]
  refine fQ fun x _=>?_
  show(((n.toNat+i:Nat):Int),_,_)=((i:Int)+n,_,_)
  rw[show((n.toNat+i:Nat):Int)=(i:Int)+n by omega]
theorem Fp:∀{ts:List cH} {u w:List Int},(∀t∈ts,t.1.toNat<u.length)->cA (u++w) ts=cA u ts++w
  |[],u,w,_=>rfl
  | t :: ts, u, w, h => by
    show cA ((u++w).set t.1.toNat t.2.2) ts=cA (u.set t.1.toNat t.2.2) ts++w
    rw[qi _ _ (h t bA)]
    exact Fp fun q hq=>by rw[fh];exact h q (cK _ hq)
theorem GO{n:Int}:∀{ts:List cH} {u w:List Int},(u.length:Int)=n->(∀t∈ts,0<=t.1)->cA (u++w) (ts.map (jv n))=u++cA w ts
  |[],u,w,_,_=>rfl
  | t :: ts, u, w, hn, h => by
    have:=h t bA
    show cA ((u++w).set (t.1+n).toNat t.2.2) (ts.map (jv n))=u++cA (w.set t.1.toNat t.2.2) ts
    rw[rN _ _ (by omega),show(t.1+n).toNat-u.length=t.1.toNat by omega]
    exact GO hn fun q hq=>h q (cK _ hq)
theorem Mf(ws:List Int)(a b:List cH):cA ws (a++b)=cA (cA ws a) b:=by unfold cA;rw[qD]
theorem Jm(h:Jn p n m c1 c2 cs)(hu:u.length=n.toNat)(hw:w.length=m.toNat):cA (u++w) (aP p cs (u++w) (n+m).toNat)=cA u (aP p c1 u n.toNat)++cA w (aP p c2 w m.toNat):=by
 have n0:=h.v1.n0
 rw[yg h hu hw,Mf,Fp (fun t ht=>by have:=CL t ht;omega),GO (by rw[qB];omega) fun t ht=>(CL t ht).1]
theorem Ly{ws:List Int}(hV:eY p n cs)(hl:ws.length=n.toNat)(hw:∀x∈ws,0<=x/\x<p)(h:brk p cs ws=0):aP p cs ws n.toNat=[]:=by
  have hb:=uq.mp h
  refine List.flatMap_eq_nil_iff.mpr fun i hi=>?_
  have hi:=nW.mp hi
  unfold lC
  have QZ:jb (bw p cs ws (i:Int)) (ws.getD i 0)=[]:=by
    cases e:jb (bw p cs ws (i:Int)) (ws.getD i 0) with
    |nil=>rfl
    | cons x r =>
      exfalso
      have hx:x∈jb (bw p cs ws (i:Int)) (ws.getD i 0):=by rw[e];exact bA
      have HY:=j3.mp (pL hx)
      have hg:=HY.2
      unfold cX at hg
      rw[cP,decide_eq_true_eq] at hg
      refine hg.1 ?_
      have hm:=HY.1
      unfold bw at hm
      obtain⟨q,hq,rfl⟩:=bW.mp hm
      obtain⟨c,prs,f,hc,_,_,rfl⟩:=mU (aI _) hq
      have hz:=hb prs (eK hc)
      have hz:bq prs (ws.map some)%p=0:=by simpa using hz
      show(ws.getD (i:Int).toNat 0-bq (cs.getD (c:Int).toNat []) (ws.map some)%p*sol p f 1)%p=_
      rw[eT,eT,show cs.getD c []=prs by rw[eO,hc];rfl,hz,m9,tN]
      have:=hw (ws.getD i 0) (by rw[eO,aQ (by omega)];exact ie _)
      exact q9 this.1 this.2
  rw[QZ];rfl
def dY(n:Int):List (List cH)->List (List cH)->List (List cH)
 |[],bs=>bs.map fun b=>b.map (jv n)
 |a::as,[]=>a::as
 |a::as,b::bs=>(a++b.map (jv n))::dY n as bs
theorem HL{n:Int}{as:List (List cH)}:dY n as []=as:=by cases as<;>rfl
abbrev bH:Str:=Str.ofString "held"
def jT(n:Int)(k:Nat)(r s:List Int×List (List cH)×Str):List Int×List (List cH)×Str:=
 (r.1++s.1,dY n r.2.1 s.2.1,if r.2.2=bH/\s.2.2=bH then bH else if(dY n r.2.1 s.2.1).length=k then Str.ofString "far" else Str.ofString "stuck")
theorem o8:Str.ofString "far"≠bH:=by decide
theorem n5:Str.ofString "stuck"≠bH:=by decide
inductive Way(p:Int)(cs:List aq)(n k:Nat)(ws:List Int):Prop
 |held (hb:brk p cs ws=0) (ht:aP p cs ws n=[])
 |rest (hb:brk p cs ws≠0) (ht:aP p cs ws n=[])
 |on (hb:brk p cs ws≠0) (ht:aP p cs ws n≠[])
theorem way(hV:eY p n cs){ws:List Int}(hl:ws.length=n.toNat)(hw:∀x∈ws,0<=x/\x<p)(k:Nat):Way p cs n.toNat k ws:=by
 by_cases h1:brk p cs ws=0
 ·exact .held h1 (Ly hV hl hw h1)
 by_cases h2:aP p cs ws n.toNat=[]
 ·exact .rest h1 h2
 ·exact .on h1 h2
theorem Dw(h:Jn p n m c1 c2 cs):∀(k:Nat) {u w:List Int},u.length=n.toNat->w.length=m.toNat->(∀x∈u,0<=x/\x<p)->(∀x∈w,0<=x/\x<p)->cC p cs (n+m).toNat k (u++w)=jT n k (cC p c1 n.toNat k u) (cC p c2 m.toNat k w)
  | 0, u, w, hu, hw, ru, rw_ => by
    have hb:=pe h hu hw
    by_cases b1:brk p c1 u=0<;>by_cases b2:brk p c2 w=0
    · rw[gF (by omega),gF b1,gF b2]
      unfold jT dY;rw[if_pos ⟨rfl,rfl⟩];rfl
    · rw[jP (by omega),gF b1,jP b2]
      unfold jT dY;rw[if_neg (fun z=>o8 z.2)];rfl
    · rw[jP (by omega),jP b1,gF b2]
      unfold jT dY;rw[if_neg (fun z=>o8 z.1)];rfl
    · rw[jP (by omega),jP b1,jP b2]
      unfold jT dY;rw[if_neg (fun z=>o8 z.1)];rfl
  | k + 1, u, w, hu, hw, ru, rw_ => by
    have hb:=pe h hu hw
    have p2:=h.v1.hp.1
    have hT:=yg h hu hw
    have hP:=Jm h hu hw
    have q1:=t8 (cs:=c1) (p:=p) (by omega) hu ru
    have q2:=t8 (cs:=c2) (p:=p) (by omega) hw rw_
    have ih:=Dw h k q1.1 q2.1 q1.2 q2.2
    rw[<-hP] at ih
    have e1:∃R1 s1 w1 s1',cC p c1 n.toNat (k+1) u=(w1,(if aP p c1 u n.toNat=[] then[] else aP p c1 u n.toNat::R1),s1)/\cC p c1 n.toNat k (cA u (aP p c1 u n.toNat))=(w1,R1,s1')/\(s1=bH↔s1'=bH)/\(aP p c1 u n.toNat=[]->R1=[]/\(s1=bH↔brk p c1 u=0)):=by
      cases way h.v1 hu ru k with
      |held hb ht=>exact⟨[],bH,u,bH,by rw[gF hb,if_pos ht],by rw[ht];exact gF hb,rz,fun _=>⟨rfl,fun _=>hb,fun _=>rfl⟩⟩
      | rest hb ht =>
        refine⟨[],Str.ofString "stuck",u,if k=0 then Str.ofString "far" else Str.ofString "stuck",by rw[kI hb ht,if_pos ht],?_,?_,fun _=>⟨rfl,fun z=>absurd z n5,fun z=>absurd z hb⟩⟩
        · rw[ht]
          show cC p c1 n.toNat k u=_
          cases k with
          |zero=>rw[jP hb,if_pos rfl]
          |succ k=>rw[kI hb ht,if_neg (by omega)]
        · refine⟨fun z=>absurd z n5,fun z=>?_⟩
          split at z
          · exact absurd z o8
          · exact absurd z n5
      |on hb ht=>exact⟨_,_,_,_,by rw[om hb ht,if_neg ht],rfl,rz,fun z=>absurd z ht⟩
    have e2:∃R1 s1 w1 s1',cC p c2 m.toNat (k+1) w=(w1,(if aP p c2 w m.toNat=[] then[] else aP p c2 w m.toNat::R1),s1)/\cC p c2 m.toNat k (cA w (aP p c2 w m.toNat))=(w1,R1,s1')/\(s1=bH↔s1'=bH)/\(aP p c2 w m.toNat=[]->R1=[]/\(s1=bH↔brk p c2 w=0)):=by
      cases way h.v2 hw rw_ k with
      |held hb ht=>exact⟨[],bH,w,bH,by rw[gF hb,if_pos ht],by rw[ht];exact gF hb,rz,fun _=>⟨rfl,fun _=>hb,fun _=>rfl⟩⟩
      | rest hb ht =>
        refine⟨[],Str.ofString "stuck",w,if k=0 then Str.ofString "far" else Str.ofString "stuck",by rw[kI hb ht,if_pos ht],?_,?_,fun _=>⟨rfl,fun z=>absurd z n5,fun z=>absurd z hb⟩⟩
        · rw[ht]
          show cC p c2 m.toNat k w=_
          cases k with
          |zero=>rw[jP hb,if_pos rfl]
          |succ k=>rw[kI hb ht,if_neg (by omega)]
        · refine⟨fun z=>absurd z n5,fun z=>?_⟩
          split at z
          · exact absurd z o8
          · exact absurd z n5
      |on hb ht=>exact⟨_,_,_,_,by rw[om hb ht,if_neg ht],rfl,rz,fun z=>absurd z ht⟩
    obtain⟨R1,s1,w1,s1',f1,g1,i1,n1⟩:=e1
    obtain⟨R2,s2,w2,s2',f2,g2,i2,n2⟩:=e2
    rw[f1,f2]
    by_cases b:brk p cs (u++w)=0
    · rw[gF (by omega)] at f1 f2
      rw[gF b]
      injection f1 with x1 x2;injection x2 with x2 x3
      injection f2 with y1 y2;injection y2 with y2 y3
      rw[<-x1,<-x2,<-x3,<-y1,<-y2,<-y3]
      unfold jT dY;rw[if_pos ⟨rfl,rfl⟩];rfl
    by_cases j8:aP p cs (u++w) (n+m).toNat=[]
    · have FU:=j8
      rw[hT] at FU
      obtain⟨t1,t2⟩:=List.append_eq_nil_iff.mp FU
      have t2:=List.map_eq_nil_iff.mp t2
      obtain⟨r1,a1⟩:=n1 t1
      obtain⟨r2,a2⟩:=n2 t2
      rw[kI b j8,if_pos t1,if_pos t2]
      have x1:w1=u:=by rw[t1] at g1;cases way h.v1 hu ru (k+1) with
        |held hb ht=>rw[gF hb] at f1;injection f1 with z;exact z.symm
        |rest hb ht=>rw[kI hb ht] at f1;injection f1 with z;exact z.symm
        |on hb ht=>exact absurd t1 ht
      have x2:w2=w:=by rw[t2] at g2;cases way h.v2 hw rw_ (k+1) with
        |held hb ht=>rw[gF hb] at f2;injection f2 with z;exact z.symm
        |rest hb ht=>rw[kI hb ht] at f2;injection f2 with z;exact z.symm
        |on hb ht=>exact absurd t2 ht
      rw[x1,x2]
      unfold jT dY
      rw[if_neg (fun z=>b (by have:=a1.mp z.1;have:=a2.mp z.2;omega)),if_neg (by simp)];rfl
    · rw[om b j8,ih,g1,g2]
      have hz:dY n (if aP p c1 u n.toNat=[] then[] else aP p c1 u n.toNat::R1) (if aP p c2 w m.toNat=[] then[] else aP p c2 w m.toNat::R2)=aP p cs (u++w) (n+m).toNat::dY n R1 R2:=by
        rw[hT] at j8⊢
        by_cases t1:aP p c1 u n.toNat=[]
        · by_cases t2:aP p c2 w m.toNat=[]
          · rw[t1,t2] at j8;exact absurd rfl j8
          · rw[if_pos t1,if_neg t2,(n1 t1).1,t1];rfl
        · by_cases t2:aP p c2 w m.toNat=[]
          · rw[if_neg t1,if_pos t2,(n2 t2).1,t2,HL,HL];simp
          · rw[if_neg t1,if_neg t2];rfl
      unfold jT
      dsimp only
      rw[hz,fM]
      have hh:(s1=bH/\s2=bH)↔(s1'=bH/\s2'=bH):=and_congr i1 i2
      by_cases c:s1'=bH/\s2'=bH
      · rw[if_pos c,if_pos (hh.mpr c)]
      · rw[if_neg c,if_neg (fun z=>c (hh.mp z))]
        by_cases d:(dY n R1 R2).length=k
        · rw[if_pos d,if_pos (by omega)]
        · rw[if_neg d,if_neg (by omega)]
def yu(b:Int)(s:gX):gX:=(s.1+b,s.2.map fun t=>(t.1,t.2.1,t.2.2+b))
def B8(n b:Int)(s:gX):gX:=(s.1+b,s.2.map fun t=>(t.1+n,t.2.1,t.2.2+b))
theorem HN{cs cs':List aq}{ws fk:List Int}{i i':Nat}(h:(bw p cs ws (i:Int)).Perm (bw p cs' fk (i':Int))):je p cs ws i=je p cs' fk i':=by
 have e:(fun k=>k∈bw p cs ws (i:Int))=fun k=>k∈bw p cs' fk (i':Int):=funext fun k=>propext h.mem_iff
 have key:∀P:Int->Prop,P=(fun k=>k∈bw p cs ws (i:Int))->je p cs ws i=(open Classical in if h:∃rs:List Int,rs.Pairwise (· < ·)/\∀k,k∈rs↔P k then Classical.choose h else[]):=fun P hP=>by subst hP;rfl
 rw[key _ e.symm]
 rfl
theorem DJ(h:Jn p n m c1 c2 cs)(hu:u.length=n.toNat)(hw:w.length=m.toNat):∀k,k<=n.toNat->bK p cs (u++w) k=yu (brk p c2 w) (bK p c1 u k)
  | 0, _ => by
    show((brk p cs (u++w):Int),none)=((brk p c1 u:Int)+_,none)
    rw[pe h hu hw];simp
  | k + 1, hk => by
    rw[nD,nD,DJ h hu hw k (by omega),HN (BB h hu hw (by omega))]
    generalize bK p c1 u k=s
    unfold gG
    generalize je p c1 u k=xs
    induction xs generalizing s with
    |nil=>rfl
    | cons x xs ih =>
      rw[p9,p9,<-ih]
      congr 1
      unfold iI
      rw[qi _ _ (by omega),pe h (by rw[fh];exact hu) hw]
      by_cases c:(brk p c1 (u.set k x):Int)<s.1
      · rw[if_pos c,if_pos (by show _<s.1+_;omega)]
        unfold yu;simp
      · rw[if_neg c,if_neg (by show¬_<s.1+_;omega)]
def kJ(n b1:Int)(s t:gX):gX:=if t.1+b1<s.1 then B8 n b1 t else s
theorem EI(h:Jn p n m c1 c2 cs)(hu:u.length=n.toNat)(hw:w.length=m.toNat):∀k,k<=m.toNat->bK p cs (u++w) (n.toNat+k)=kJ n (brk p c1 u) (bK p cs (u++w) n.toNat) (bK p c2 w k)
  | 0, _ => by
    have hle:=wg (p:=p) (cs:=cs) (ws:=u++w) n.toNat
    rw[pe h hu hw] at hle
    unfold kJ
    rw[if_neg]
    · rfl
    · show¬((brk p c2 w:Int)+_<_)
      omega
  | k + 1, hk => by
    have n0:=h.v1.n0
    rw[<-Nat.add_assoc,nD,nD,EI h hu hw k (by omega),HN (wA h hu hw (by omega))]
    generalize bK p c2 w k=t
    generalize bK p cs (u++w) n.toNat=s
    unfold gG
    generalize je p c2 w k=xs
    induction xs generalizing t with
    |nil=>rfl
    | cons x xs ih =>
      rw[p9,p9,<-ih]
      congr 1
      unfold iI
      rw[rN _ _ (by omega),show n.toNat+k-u.length=k by omega,pe h hu (by rw[fh];exact hw)]
      generalize Dr:(brk p c2 (w.set k x))=b
      have hcast:((brk p c1 u+b:Nat):Int)=(b:Int)+brk p c1 u:=by omega
      rw[hcast]
      unfold kJ
      by_cases uO:t.1+(brk p c1 u:Int)<s.1
      · rw[if_pos uO]
        by_cases c:(b:Int)<t.1
        · rw[if_pos (by show _<t.1+_;omega),if_pos c,if_pos (by show(b:Int)+_<_;omega)]
          unfold B8;simp;omega
        · rw[if_neg (by show¬_<t.1+_;omega),if_neg c,if_pos uO]
      · rw[if_neg uO]
        by_cases c:(b:Int)+brk p c1 u<s.1
        · rw[if_pos c,if_pos (show(b:Int)<t.1 by omega),if_pos (by show(b:Int)+_<_;exact c)]
          unfold B8;simp;omega
        · rw[if_neg c]
          by_cases d:(b:Int)<t.1
          · rw[if_pos d,if_neg (by show¬(b:Int)+_<_;exact c)]
          · rw[if_neg d,if_neg uO]
def iu(n:Int):Nat->Int->Int->List cH->List cH->List cH
 |0,_,_,_,_=>[]
 |_+1,_,_,[],[]=>[]
 |k+1,l,m,a::as,[]=>(a.1,a.2.1,a.2.2+m)::iu n k a.2.2 m as []
 |k+1,l,m,[],b::bs=>(b.1+n,b.2.1,b.2.2+l)::iu n k l b.2.2 [] bs
 |k+1,l,m,a::as,b::bs=>if m-b.2.2<=l-a.2.2 then(a.1,a.2.1,a.2.2+m)::iu n k a.2.2 m as (b::bs) else(b.1+n,b.2.1,b.2.2+l)::iu n k l b.2.2 (a::as) bs
theorem qJ(h:Jn p n m c1 c2 cs):∀(k k1 k2 f:Nat) {u w:List Int},u.length=n.toNat->w.length=m.toNat->brk p c1 u<=k1->brk p c2 w<=k2->brk p c1 u+brk p c2 w<=k->(runC p c1 n.toNat k1 u).2.length+(runC p c2 m.toNat k2 w).2.length<=f->runC p cs (n+m).toNat k (u++w)=((runC p c1 n.toNat k1 u).1++(runC p c2 m.toNat k2 w).1,iu n f (brk p c1 u) (brk p c2 w) (runC p c1 n.toNat k1 u).2 (runC p c2 m.toNat k2 w).2)
  | k, k1, k2, f, u, w, hu, hw, b1, b2, bk, hf => by
    have n0:=h.v1.n0
    have m0:=h.v2.n0
    have p2:=h.v1.hp.1
    have hT:(bK p cs (u++w) (n+m).toNat)=kJ n (brk p c1 u) (yu (brk p c2 w) (bK p c1 u n.toNat)) (bK p c2 w m.toNat):=by
      rw[show(n+m).toNat=n.toNat+m.toNat by omega,EI h hu hw _ (aI _),DJ h hu hw _ (aI _)]
    rcases o9 (p:=p) (cs:=c1) (ws:=u) (m:=n.toNat) (by omega) n.toNat (aI _) with ⟨e1,e2⟩|⟨i,x,hi,e,hlt,x0,x1⟩
    · have E1:bK p c1 u n.toNat=((brk p c1 u:Int),none):=Prod.ext e2 e1
      rw[E1] at hT
      rcases o9 (p:=p) (cs:=c2) (ws:=w) (m:=m.toNat) (by omega) m.toNat (aI _) with ⟨e3,e4⟩|⟨j,y,hj,e',hlt',y0,y1⟩
      · have E2:bK p c2 w m.toNat=((brk p c2 w:Int),none):=Prod.ext e4 e3
        rw[E2] at hT
        have:(bK p cs (u++w) (n+m).toNat).2=none:=by rw[hT];unfold kJ;rw[if_neg (by show¬(_+_<_+_);omega)];rfl
        rw[jJ this,jJ e1,jJ e3]
        cases f<;>rfl
      · rw[e'] at hT
        have hs:(bK p cs (u++w) (n+m).toNat).2=some ((j:Int)+n,y,(brk p c2 (w.set j y):Int)+brk p c1 u):=by rw[hT];unfold kJ;rw[if_pos (by show(_+_<(_:Int)+_);omega)];rfl
        have es:(bK p c2 w m.toNat).2=some ((j:Int),y,(brk p c2 (w.set j y):Int)):=by rw[e']
        obtain⟨k',rfl⟩:∃k',k=k'+1:=⟨k-1,by omega⟩
        obtain⟨kR,rfl⟩:∃kR,k2=kR+1:=⟨k2-1,by omega⟩
        rw[kg es,jJ e1] at hf⊢
        rw[kg hs]
        dsimp only at hf⊢
        rw[fM] at hf
        obtain⟨f',rfl⟩:∃f',f=f'+1:=⟨f-1,by omega⟩
        rw[eT] at hf⊢
        have ih:=qJ h k' k1 kR f' (u:=u) (w:=w.set j y) hu (by rw[fh];exact hw) b1 (by omega) (by omega) (by rw[jJ e1];simp at hf⊢;omega)
        rw[jJ e1] at ih
        rw[rN _ _ (by omega),show((j:Int)+n).toNat-u.length=j by omega,ih]
        rfl
    · have es1:(bK p c1 u n.toNat).2=some ((i:Int),x,(brk p c1 (u.set i x):Int)):=by rw[e]
      obtain⟨k',rfl⟩:∃k',k=k'+1:=⟨k-1,by omega⟩
      obtain⟨mS,rfl⟩:∃mS,k1=mS+1:=⟨k1-1,by omega⟩
      have hl1:(u.set i x).length=n.toNat:=by rw[fh];exact hu
      rcases o9 (p:=p) (cs:=c2) (ws:=w) (m:=m.toNat) (by omega) m.toNat (aI _) with ⟨e3,e4⟩|⟨j,y,hj,e',hlt',y0,y1⟩
      · have E2:bK p c2 w m.toNat=((brk p c2 w:Int),none):=Prod.ext e4 e3
        rw[E2,e] at hT
        have hs:(bK p cs (u++w) (n+m).toNat).2=some ((i:Int),x,(brk p c1 (u.set i x):Int)+brk p c2 w):=by rw[hT];unfold kJ;rw[if_neg (by show¬((_:Int)+_<_+_);omega)];rfl
        have hc1:=kg (k:=mS) es1
        rw[kg hs]
        dsimp only
        rw[eT] at hc1⊢
        rw[hc1] at hf⊢
        rw[jJ e3] at hf⊢
        dsimp only at hf⊢
        rw[fM] at hf
        obtain⟨f',rfl⟩:∃f',f=f'+1:=⟨f-1,by omega⟩
        have ih:=qJ h k' mS k2 f' (u:=u.set i x) (w:=w) hl1 hw (by omega) b2 (by omega) (by rw[jJ e3];simp at hf⊢;omega)
        rw[jJ e3] at ih
        rw[qi _ _ (by omega),ih]
        rfl
      · have tQ:(bK p c2 w m.toNat).2=some ((j:Int),y,(brk p c2 (w.set j y):Int)):=by rw[e']
        obtain⟨kR,rfl⟩:∃kR,k2=kR+1:=⟨k2-1,by omega⟩
        rw[e,e'] at hT
        have hc1:=kg (k:=mS) es1
        have hc2:=kg (k:=kR) tQ
        dsimp only at hc1 hc2
        rw[eT] at hc1 hc2
        by_cases c:(brk p c2 w:Int)-brk p c2 (w.set j y)<=(brk p c1 u:Int)-brk p c1 (u.set i x)
        · have hs:(bK p cs (u++w) (n+m).toNat).2=some ((i:Int),x,(brk p c1 (u.set i x):Int)+brk p c2 w):=by rw[hT];unfold kJ;rw[if_neg (by show¬((_:Int)+_<_+_);omega)];rfl
          rw[kg hs]
          dsimp only
          rw[eT]
          have ih:=fun f' hf=>qJ h k' mS (kR+1) f' (u:=u.set i x) (w:=w) hl1 hw (by omega) b2 (by omega) hf
          rw[hc1] at hf⊢
          rw[hc2] at hf ih⊢
          dsimp only at hf ih⊢
          rw[fM] at hf
          obtain⟨f',rfl⟩:∃f',f=f'+1:=⟨f-1,by omega⟩
          rw[qi _ _ (by omega),ih f' (by omega),iu]
          dsimp only
          rw[if_pos c]
        · have hs:(bK p cs (u++w) (n+m).toNat).2=some ((j:Int)+n,y,(brk p c2 (w.set j y):Int)+brk p c1 u):=by rw[hT];unfold kJ;rw[if_pos (by show((_:Int)+_<_+_);omega)];rfl
          rw[kg hs]
          dsimp only
          have ih:=fun f' hf=>qJ h k' (mS+1) kR f' (u:=u) (w:=w.set j y) hu (by rw[fh];exact hw) b1 (by omega) (by omega) hf
          rw[hc2] at hf⊢
          rw[hc1] at hf ih⊢
          dsimp only at hf ih⊢
          rw[fM] at hf
          obtain⟨f',rfl⟩:∃f',f=f'+1:=⟨f-1,by simp at hf;omega⟩
          rw[rN _ _ (by omega),show((j:Int)+n).toNat-u.length=j by omega,ih f' (by rw[fM];simp at hf;omega),iu]
          dsimp only
          rw[if_neg c]
  termination_by k=>k
def Dn:Int->List cH->Prop
 |_,[]=>True
 |l,a::as=>a.2.2<l/\0<=a.2.2/\Dn a.2.2 as
theorem tD(hp:0<p){n:Nat}:∀(k:Nat) (ws:List Int),Dn (brk p cs ws) (runC p cs n k ws).2/\(runC p cs n k ws).2.length<=k/\(runC p cs n k ws).1.length=ws.length
  |0,ws=>⟨trivial,aI _,rfl⟩
  | k + 1, ws => by
    rcases o9 (p:=p) (cs:=cs) (ws:=ws) (m:=n) hp n (aI _) with ⟨e1,e2⟩|⟨j,y,hj,e,hlt,y0,y1⟩
    · rw[jJ e1];exact⟨trivial,dW _,rfl⟩
    · have es:(bK p cs ws n).2=some ((j:Int),y,(brk p cs (ws.set j y):Int)):=by rw[e]
      rw[kg es]
      dsimp only
      rw[eT]
      obtain⟨h1,h2,h3⟩:=tD hp k (ws.set j y)
      exact⟨⟨hlt,by show(0:Int)<=(brk p cs (ws.set j y):Nat);omega,h1⟩,by rw[fM];omega,by rw[h3,fh]⟩
theorem Ai:∀{A B:List (List cH)},(dY n A B).length=max A.length B.length
 |[],B=>by unfold dY;simp
 |a::A,[]=>by unfold dY;simp
 |a::A,b::B=>by unfold dY;rw[fM,Ai (A:=A) (B:=B),fM,fM];omega
theorem CK:∀{A B:List (List cH)} {k:Nat},k<max A.length B.length->(dY n A B)[k]?=some (A.getD k []++(B.getD k []).map (jv n))
  | [], B, k, h => by
    unfold dY
    have hk:k<B.length:=by simpa using h
    rw[aX,aQ hk]
    simp[hk]
  | a :: A, [], k, h => by
    unfold dY
    have hk:k<(a::A).length:=by simpa using h
    rw[aQ hk,eO,aQ hk]
    simp
  |a::A,b::B,0,h=>by unfold dY;rfl
  | a :: A, b :: B, k + 1, h => by
    unfold dY
    rw[k6,CK (A:=A) (B:=B) (by rw[fM,fM] at h;omega)]
    rfl
end
end L2
set_option maxRecDepth 100000
set_option maxHeartbeats 4000000
set_option maxRecDepth 100000
set_option maxHeartbeats 4000000
set_option maxRecDepth 100000
set_option maxHeartbeats 8000000
namespace K58
open PySem L2
def top(i:Nat):Stmt:=PySem.Challenge.pw_fewchecks_k58_whole_nets_side_by_side.main.body.getD i (.Pass ⟨0,0,0,0⟩)
abbrev BU:Stmt:=top 1
abbrev Ca:Stmt:=top 2
abbrev vC:Stmt:=top 4
abbrev AN:Stmt:=top 5
abbrev sy:Stmt:=top 7
abbrev BE:Stmt:=top 8
abbrev zk:Stmt:=top 9
abbrev vL:Stmt:=top 10
abbrev zD:Stmt:=top 11
abbrev BG:Stmt:=top 12
abbrev yT:Stmt:=top 13
abbrev wz:Stmt:=top 14
abbrev uY:Stmt:=top 15
abbrev yW:Stmt:=top 16
abbrev zw:Stmt:=top 17
abbrev ua:Stmt:=top 19
abbrev zz:Stmt:=top 20
abbrev yq:Stmt:=top 21
abbrev uK:Stmt:=top 22
abbrev Aq:Stmt:=top 23
abbrev rR:Stmt:=top 24
abbrev zl:Stmt:=top 25
abbrev tH:Stmt:=top 26
abbrev rB:Stmt:=top 27
abbrev rL:Stmt:=top 28
abbrev qM:Stmt:=top 29
abbrev Ag:Stmt:=top 30
abbrev t7:Stmt:=top 31
abbrev u7:Stmt:=top 32
abbrev rA:Stmt:=top 33
abbrev uL:Stmt:=top 34
abbrev yY:Stmt:=top 35
abbrev sX:Stmt:=top 36
abbrev AO:Stmt:=top 37
abbrev zm:Stmt:=top 38
abbrev kT:Stmt:=top 39
local macro_rules| `(tactic|walk_at "d0")=> `(tactic|first|omega|assumption|decide|(unfold Sm at*;omega)|(unfold uN;omega)|(unfold xH;decide)|(unfold xH;omega))
local macro_rules| `(tactic|walk_at "ds")=> `(tactic|((try dsimp only);first|walk_at "d0" |(refine And.intro ?_ ?_<;>walk_at "d0")|(refine Or.inl ?_;walk_at "d0")|(refine Or.inr (And.intro ?_ ?_)<;>walk_at "d0")))
local macro_rules| `(tactic|walk_at "s1")=> `(tactic|with_reducible first
 |refine R.seq ?_|refine R.asg ?_|refine R.setC ?_|refine R.zP ?_|refine R.ret ?_|refine R.next ?_|refine R.c ?_|refine R.op ?_|refine R.test ?_|refine R.bl ?_|refine R.tru ?_
 |refine R.and ?_|refine R.notV ?_|refine R.cb ?_|refine R.call ?_|refine R.nil ?_|refine R.cons ?_
 |refine R.lst ?_|refine R.sl ?_|refine R.LR ?_|refine R.part ?_|refine R.K9 ?_|refine R.bm ?_|refine R.Vi ?_|refine R.EW ?_|refine R.UB ?_|refine R.LI ?_|refine R.Ms ?_|refine R.qS ?_
 |refine R.ir ?_|refine R.Py ?_|refine R.SG ?_|refine R.eqNI ?_|refine R.eqIN ?_|refine R.isI ?_|refine R.IB ?_|refine R.IQ ?_|refine R.bits ?_
 |refine uQ ?_|refine GN ?_|refine R.nilE ?_|refine R.isiII ?_|refine R.isiIB ?_|refine R.N8 ?_|refine R.Kw ?_|refine R.iL ?_|refine R.TX ?_|refine R.comp ?_)
local macro_rules| `(tactic|walk_at "st")=> `(tactic|repeat (first
 |walk_at "s1"
 |((with_reducible refine' R.var ?h0 ?_);(case h0=>rfl))
 |((with_reducible refine' R.rI ?h1 ?_);(case h1=>walk_at "ds"))
 |((with_reducible refine' R.ze (o:= .lst []) ?h1 ?_);(case h1=>rfl))
 |((with_reducible refine' R.uT ?h0 ?h1 ?_);(case h0=>assumption);(case h1=>rfl))
 |((with_reducible refine' R.ixTM ?h0 ?h1 ?_);(case h0=>assumption);(case h1=>rfl))
 |((with_reducible refine' R.ON ?h1 ?_);(case h1=>rfl))
 |((with_reducible refine' R.setM ?h0 ?h1 ?_);(case h0=>assumption);(case h1=>rfl))
 |((with_reducible refine' R.UN ?h0 ?_);(case h0=>assumption))
 |((with_reducible refine' R.lenL ?h0 ?_);(case h0=>assumption))
 |((with_reducible refine' R.P7 ?h0 ?h1 ?_);(case h0=>walk_at "ds");(case h1=>walk_at "ds"))
 |((with_reducible refine' R.Uw ?h0 ?_);(case h0=>walk_at "ds"))
 |((with_reducible refine' R.vB ?h0 ?_);(case h0=>assumption))
 |((with_reducible refine' R.HJ ?h0 ?_);(case h0=>first|exact R.dT (by omega)|exact R.E9 (by omega)|decide))
 |((with_reducible refine' R.CB ?h0 ?_);(case h0=>first|exact R.dF (by omega)|exact R.Dp (by omega)|decide))
 |(with_reducible refine R.Rj ?_)|(with_reducible refine R.S8 ?_)))
local macro_rules| `(tactic|walk_at "fv")=> `(tactic|first|exact Or.inl rfl|exact Or.inr (Or.inl rfl)|exact Or.inr (Or.inr (Or.inl rfl))|exact Or.inr (Or.inr (Or.inr (Or.inl rfl)))|exact Or.inr (Or.inr (Or.inr (Or.inr rfl))))
local macro_rules| `(tactic|walk_at "d1")=> `(tactic|with_reducible first
 |refine Sv.seq ?_|refine Sv.Qt ?_|refine Sv.asg ?_|refine Sv.Ql ?_|refine Sv.zP ?_|refine Sv.ret ?_|refine Sv.next ?_|refine Sv.retN ?_
 |refine Ev.int ?_|refine Ev.bl ?_|refine Ev.aM ?_|refine Ev.ir ?_|refine Ev.Um ?_|refine Ev.rI ?_|refine Ev.rU ?_|refine Ev.eq ?_|refine Ev.ne ?_|refine Ev.is ?_|refine Ev.Mb ?_|refine Ev.QX ?_|refine Ev.str ?_|refine Ev.UX ?_
 |refine Ev.Od ?_|refine Ev.orV ?_|refine Ev.notV ?_|refine Ev.JY ?_|refine Tv.test ?_|refine Tv.and ?_|refine Tv.or ?_|refine Tv.not ?_|refine Tv.qS ?_|refine Tv.O6 ?_
 |refine Ev.LM ?_|refine Ev.lst ?_|refine Av.nil ?_|refine Av.cons ?_|refine Av.Lf ?_|refine Ov.none ?_|refine Ov.some ?_|refine Ev.min2 ?_|refine Ev.max2 ?_|refine Ev.VA ?_
 |refine R.di ?_|refine R.db ?_|refine R.dl ?_|refine R.dt ?_|refine R.Om ?_|refine R.Ur ?_|refine R.KD ?_|refine R.eqni ?_|refine R.eqin ?_|refine R.eqnn ?_|refine R.T3 ?_
 |refine Gv.qu ?_|refine Gv.SX ?_|refine Gv.Ob ?_|refine Gv.JW ?_|refine Gv.k8 ?_|refine Gv.R3 ?_|refine Gv.QC ?_|refine uQ ?_|refine GN ?_)
local macro_rules| `(tactic|walk_at "dt")=> `(tactic|repeat (first
 |((with_reducible refine' Sv.Jo ?h0 ?_);(case h0=>rfl))
 |((with_reducible refine' Sv.Dh ?h0 ?_);(case h0=>rfl))
 |walk_at "d1"
 |((with_reducible refine' Ev.var ?h0 ?_);(case h0=>rfl))
 |((with_reducible refine' Ev.draw ?h0 ?_);(case h0=>rfl))
 |((with_reducible refine' Ev.ixOwn ?h0 ?_);(case h0=>rfl))
 |((with_reducible refine' Ev.NQ ?h0 ?_);(case h0=>rfl))
 |((with_reducible refine' Ev.listOwn ?h0 ?_);(case h0=>rfl))
 |((with_reducible refine' Ev.slOwn ?h0 ?_);(case h0=>rfl))
 |((with_reducible refine' Sv.append ?h0 ?_);(case h0=>rfl))
 |((with_reducible refine' Sv.Dh ?h0 ?_);(case h0=>rfl))
 |((with_reducible refine' Sv.Jo ?h0 ?_);(case h0=>rfl))
 |((with_reducible refine' Gv.tup ?h0 ?_);(case h0=>rfl))
 |((with_reducible refine' R.at_ ?h0 ?_);(case h0=>first|rfl|assumption))
 |(with_reducible refine Ev.Ti ?_)|(with_reducible refine Ev.Nc ?_)|(with_reducible refine Ev.listOf ?_)|(with_reducible refine Ev.sl ?_)|(with_reducible refine Ev.cat ?_)|(with_reducible refine Ev.LZ ?_)
 |((with_reducible refine' Ev.JS ?h0 ?_);(case h0=>walk_at "fv"))
 |((with_reducible refine' Ev.Qw ?h0 ?h1 ?_);(case h0=>walk_at "fv");(case h1=>walk_at "fv"))
 |(with_reducible refine Ev.all ?_)|(with_reducible refine Ev.sum ?_)|(with_reducible refine Ev.ze ?_)
 |((with_reducible refine' R.Nh ?_))
 |((with_reducible refine' R.HJ ?h0 ?_);(case h0=>first|exact R.dT (by omega)|exact R.E9 (by omega)|rfl))
 |((with_reducible refine' R.CB ?h0 ?_);(case h0=>first|exact R.dF (by omega)|exact R.Dp (by omega)|exact dh))
 |((with_reducible refine' R.PK ?h0 ?_);(case h0=>first|walk_at "ds" |exact Ib rfl))))
local macro_rules| `(tactic|walk_at "wk")=> `(tactic|repeat (first|exact Wk.nil|apply Wk.no|apply Wk.eq))
section
variable{P:Program}{w:World}{K:PySem.W.Frag}{mg:Str->Option Value}{base:Heap}{f:Addr}{fd:FuncData}
theorem jf:cz ["p","b","last_rest","last_times","rest","times","quotient","next_rest","next_times"] ["p","b"] (aN BU):=⟨rfl,rfl,rfl,by decide+kernel,rfl,by decide+kernel,by decide+kernel⟩
theorem Qm(F:bL K "inverse" "inverse" BU f fd):
  bG P w K mg base bN 1 f fd ["p","b"] zN:=by
 refine F.ok jf (fun vs H Q E h=>?_) (fun cdv A outer s H vs Q E hr h=>?_)
 ·obtain⟨p,b,rfl,hp,hp3,hb,q⟩:=h
  rfl
 obtain⟨p,b,rfl,hp,hp3,hb,q⟩:=h
 refine⟨_,(@ao _ _ _ _ _ (@aC _ _ (2) _ _ _ _ jf.nd rfl (Or.inl rfl) (pv 0) (by rfl) (by first|exact .inl rfl|exact .inr rfl|assumption)) (@ao _ _ _ _ _ (@aC _ _ (3) _ _ _ _ jf.nd rfl (Or.inl rfl) ai (by rfl) (by first|exact .inl rfl|exact .inr rfl|assumption)) (@ao _ _ _ _ _ (@aC _ _ (4) _ _ _ _ jf.nd rfl (Or.inl rfl) (@aB _ _ _ _ _ _ _ _ iT (pv 1) (pv 0)) (by rfl) (by first|exact .inl rfl|exact .inr rfl|assumption)) (@ao _ _ _ _ _ (@aC _ _ (5) _ _ _ _ jf.nd rfl (Or.inl rfl) ai (by rfl) (by first|exact .inl rfl|exact .inr rfl|assumption)) (@ao _ _ _ _ _ (@uB _ _ _ _ _ _ eU (@bF _ _ _ _ _ _ _ _ jL (pv 4) ai (br _)) (@ao _ _ _ _ _ (@aC _ _ (6) _ _ _ _ jf.nd rfl (Or.inl rfl) (@aB _ _ _ _ _ _ _ _ p7 (pv 2) (pv 4)) (by rfl) (by first|exact .inl rfl|exact .inr rfl|assumption)) (@ao _ _ _ _ _ (@aC _ _ (7) _ _ _ _ jf.nd rfl (Or.inl rfl) (@aB _ _ _ _ _ _ _ _ gc (pv 2) (@aB _ _ _ _ _ _ _ _ gZ (pv 6) (pv 4))) (by rfl) (by first|exact .inl rfl|exact .inr rfl|assumption)) (@ao _ _ _ _ _ (@aC _ _ (8) _ _ _ _ jf.nd rfl (Or.inl rfl) (@aB _ _ _ _ _ _ _ _ gc (pv 3) (@aB _ _ _ _ _ _ _ _ gZ (pv 6) (pv 5))) (by rfl) (by first|exact .inl rfl|exact .inr rfl|assumption)) (@ao _ _ _ _ _ (@aC _ _ (2) _ _ _ _ jf.nd rfl (Or.inl rfl) (pv 4) (by rfl) (by first|exact .inl rfl|exact .inr rfl|assumption)) (@ao _ _ _ _ _ (@aC _ _ (3) _ _ _ _ jf.nd rfl (Or.inl rfl) (pv 5) (by rfl) (by first|exact .inl rfl|exact .inr rfl|assumption)) (@ao _ _ _ _ _ (@aC _ _ (4) _ _ _ _ jf.nd rfl (Or.inl rfl) (pv 7) (by rfl) (by first|exact .inl rfl|exact .inr rfl|assumption)) (@aE _ _ _ (@aC _ _ (5) _ _ _ _ jf.nd rfl (Or.inl rfl) (pv 8) (by rfl) (by first|exact .inl rfl|exact .inr rfl|assumption)))))))))) (@aE _ _ _ (@aZ _ _ _ _ (@aB _ _ _ _ _ _ _ _ iT (pv 3) (pv 0))))))))),?_⟩
 have hp2:=hp.1
 walk_at "st"
 refine Nk (fun σ H1=>H1=H/\∃(L lt r t:Int) (x6 x7 x8:Option V),σ=[some (.int p),some (.int b),some (.int L),some (.int lt),some (.int r),some (.int t),x6,x7,x8]/\Eu p b L lt r t) (fun(σ:St) (_:Hp)=>match σ[4]? with|some (some (V.int r))=>r.toNat|_=>0) ⟨rfl,_,_,_,_,_,_,_,rfl,Eu.start hp2⟩ ?_ ?_
 ·rintro σ H1 ⟨rfl,L,lt,r,t,x6,x7,x8,rfl,E⟩
  obtain⟨t1,t2⟩:=E.tb
  have e1:=E.l0
  have e2:=E.r0
  have e3:=E.lp
  have e4:=E.rp
  walk_at "st"
  refine ow (fun c=>?_) (fun c=>?_)
  ·have c:r≠0:=of_decide_eq_true c
   have hr:0<r:=by omega
   have q1:0<=L/r:=vA (by omega) (by omega)
   have q2:L/r<=L:=zL _ (by omega)
   obtain⟨N1,N2⟩:=E.next hr
   walk_at "st"
   refine⟨⟨rfl,_,_,_,_,_,_,_,rfl,N1⟩,?_⟩
   show(L-L/r*r).toNat<r.toNat
   omega
  ·have c:r=0:=by simpa using c
   subst c
   walk_at "st"
   exact q _ (gJ _ (by omega)) (gy _ (by omega)) (E.fin hp hb)
 ·exact fun σ H Q Q' h ⟨v,e,s,k,ek,z⟩=>⟨v,e,s,k,ek,h _ _ z⟩
theorem rZ:cz ["p","pairs","word","reached","place","factor"] ["p","pairs","word"] (aN Ca):=⟨rfl,rfl,rfl,by decide+kernel,rfl,by decide+kernel,by decide+kernel⟩
theorem Vr(F:bL K "total" "total" Ca f fd):
    bG P w K mg base bN 1 f fd ["p","pairs","word"] v5:=by
  refine F.ok rZ (fun vs H Q E h=>?_) (fun cdv A outer s H vs Q E hr h=>?_)
  · obtain⟨nb,p,va,vc,prs,wd,rfl,hA,hC,hp,h1,h2,q⟩:=h
    rfl
  obtain⟨nb,p,va,vc,prs,wd,rfl,hA,hC,hp,h1,h2,q⟩:=h
  refine⟨_,(@ao _ _ _ _ _ (@aC _ _ (3) _ _ _ _ rZ.nd rfl (Or.inl rfl) ai (by rfl) (by first|exact .inl rfl|exact .inr rfl|assumption)) (@ao _ _ _ _ _ (@fW _ _ _ _ _ _ _ _ eU rfl (@fy _ _ _ _ (pv 1)) (Jc rfl (@cG _ _ _ _ _ (aR (i:=4) rZ.nd rfl (Or.inl rfl)) (@cG _ _ _ _ _ (aR (i:=5) rZ.nd rfl (Or.inl rfl)) iC (by rfl)) (by rfl))) (@aE _ _ _ (@dj _ _ _ _ _ _ _ _ (@bF _ _ _ _ _ _ _ _ tW (@au _ _ _ _ _ _ _ bz (pv 2) (pv 4) (fun _ _=>rfl)) lQ (br _)) (@aE _ _ _ (@aC _ _ (3) _ _ _ _ rZ.nd rfl (Or.inl rfl) (@aB _ _ _ _ _ _ _ _ iT (@aB _ _ _ _ _ _ _ _ cS (pv 3) (@aB _ _ _ _ _ _ _ _ gZ (pv 5) (@au _ _ _ _ _ _ _ bz (pv 2) (pv 4) (fun _ _=>rfl)))) (pv 0)) (by rfl) (by first|exact .inl rfl|exact .inr rfl|assumption))) dX)) (by intro _;rfl)) (@aE _ _ _ (@aZ _ _ _ _ (pv 3))))),?_⟩
  obtain⟨a,xs,rfl,na,ha,da⟩:=hA.fB
  obtain⟨c,ws,rfl,nc,hc,dc⟩:=hC.fB
  have mY:=da.length
  rw[ak] at mY
  have ew:=Ft dc
  subst ew
  walk_at "st"
  refine R.vB (aW.of ha) ?_
  refine E8 (xs:=xs) (fun i σ H1=>H1=H/\∃(r:Int) (x y:Option V),σ=[some (.int p),some (.ref a),some (.ref c),some (.int r),x,y]/\r=bq (prs.take i) wd%p) ⟨rfl,0,none,none,rfl,by simp[bq]⟩ ?_ ?_ ?_
  · rintro i σ H1 hi ⟨rfl,_⟩
    exact aW.of ha
  · rintro i x σ H1 hx ⟨rfl,r,y,z,rfl,hr⟩
    have hi:i<prs.length:=by have:=(bQ.mp hx).1;omega
    obtain⟨x',hx',dx⟩:=da.get (i:=i) (by rw[aX,aQ hi];rfl)
    rw[hx] at hx';cases hx'
    obtain⟨t,rfl,nt,ht⟩:=QN dx
    obtain⟨g1,g2,g3⟩:=h1 _ (ie hi)
    have hk:prs[i].fst.toNat<wd.length:=by omega
    have hat:bx (wd.map se) prs[i].fst=some (se wd[prs[i].fst.toNat]):=gY g1 (by rw[aX,aQ hk];rfl)
    have xu:ia wd prs[i]=match wd[prs[i].fst.toNat] with|some x=>prs[i].snd*x|none=>0:=by
      unfold ia
      rw[aQ hk]
      cases wd[prs[i].fst.toNat]<;>rfl
    have hs2:∀x,wd[prs[i].fst.toNat]=some x->Sm x:=fun x e=>h2 x (by rw[<-e];exact ie hk)
    have hd:=Fq (wd:=wd) hi
    refine R.Sq (fY.of ht) rfl ?_
    walk_at "st"
    refine R.uT hc hat ?_
    walk_at "st"
    generalize wd[prs[i].fst.toNat]=o at hat xu hs2⊢
    cases o with
    | none =>
      refine R.IQ ?_
      walk_at "st"
      refine⟨rfl,_,_,_,rfl,?_⟩
      rw[hd,xu,hr,we]
    | some x =>
      have Qn:=hs2 x rfl
      refine R.IB ?_
      walk_at "st"
      refine R.uT hc hat ?_
      refine R.rI (Or.inr ⟨g3,Qn⟩) ?_
      walk_at "st"
      refine⟨rfl,_,_,_,rfl,?_⟩
      rw[hd,xu,hr,Int.emod_add_emod]
  · rintro σ H1 ⟨rfl,r,x,y,rfl,hr⟩
    walk_at "st"
    rw[mY,gb] at hr
    rw[hr]
    exact q
def Bv:DF:=fun ds Φ=>∃(p:Int) (prs:aq) (wd:Wo),ds=[.int p,dw prs,kU wd]/\0<p/\l8 prs wd.length/\kK wd/\Φ true (iN (nO p prs wd))
theorem MH:cO Bv:=by
 intro ds Φ Ψ hm z
 obtain⟨p,prs,wd,e,h1,h2,h3,q⟩:=hm
 exact⟨p,prs,wd,e,h1,h2,h3,z _ _ q⟩
theorem wC:cz ["p","pairs","word","place","factor"] ["p","pairs","word"] (aN AN):=⟨rfl,rfl,rfl,by decide+kernel,rfl,by decide+kernel,by decide+kernel⟩
theorem OD(F:bL K "sum_of" "sum_of" AN f fd)(JJ:Callee P w K mg base "total" 1 ["p","pairs","word"] v5):
    bG P w K mg base bN 2 f fd ["p","pairs","word"] (aS 3 Bv):=by
  refine F.ok wC (fun vs H Q E h=>h.1) (fun cdv A outer s H vs Q E hr h=>?_)
  obtain⟨nb,ds,Φ,hlive,hds,aD,hF⟩:=fc h
  obtain⟨p,prs,wd,rfl,hp,h1,h2,q⟩:=hF
  refine⟨_,(@ao _ _ _ _ _ (@fW _ _ _ _ _ _ _ _ eU rfl (@fy _ _ _ _ (pv 1)) (@iF _ (K) _ _ _ (2) _ rfl rfl (@cG _ _ _ _ _ (aR (i:=3) wC.nd rfl (Or.inl rfl)) (@cG _ _ _ _ _ (aR (i:=4) wC.nd rfl (Or.inl rfl)) iC (by rfl)) (by rfl)) (by rfl) (by rfl)) (@aE _ _ _ (@dj _ _ _ _ _ _ _ _ (@bF _ _ _ _ _ _ _ _ SR (@au _ _ _ _ _ _ (cJ K) bz (pv 2) (pv 3) (fun _ _=>rfl)) lQ (br _)) (@aE _ _ _ (@aZ _ _ _ _ lQ)) dX)) (by intro _;rfl)) (@aE _ _ _ (@aZ _ _ _ _ (@aF _ _ _ _ _ _ _ _ _ _ JJ (hr.mono (by decide)) (@aa _ _ _ _ _ (pv 0) (@aa _ _ _ _ _ (pv 1) (@aa _ _ _ _ _ (pv 2) af rfl) rfl) rfl) (by rfl) (by decide) (by rfl) (by rfl))))),?_⟩
  refine Sv.fj hlive hds aD (ρ:=[.d false _, .d false _, .d false _, .no, .no]) rfl ?_
  clear aD hds
  walk_at "dt"
  refine Sv.forL (Ev.var rfl ⟨_,rfl,fun v=>?_⟩)
  refine⟨fun i ρ=>(∃x y,ρ=[.d false (.int p), .d false (dw prs), .d false (kU wd),x,y])/\∀pr∈prs.take i,wd[pr.1.toNat]?≠some none,⟨⟨_,_,rfl⟩,by simp⟩,?_,?_⟩
  · rintro i d ρ hd ⟨⟨x,y,rfl⟩,hI⟩
    obtain⟨pr,aU,rfl⟩:=fK hd
    obtain⟨g1,g2,g3⟩:=h1 pr (eK aU)
    obtain⟨o,ho,hat⟩:=EN (xs:=wd) iN g1 g2 rfl
    walk_at "dt"
    rw[Jp]
    cases o with
    | none =>
      walk_at "dt"
      have e:nO p prs wd=none:=if_pos ⟨pr,eK aU,ho⟩
      rw[e] at q
      exact q
    | some z =>
      walk_at "dt"
      refine⟨⟨_,_,rfl⟩,fun N7 h'=>?_⟩
      rw[take_snoc aU] at h'
      rcases gP.mp h' with h'|h'
      · exact hI N7 h'
      · rw[cg.mp h',ho];exact fun z=>by cases z
  · rintro ρ ⟨⟨x,y,rfl⟩,hI⟩
    walk_at "dt"
    refine Ev.total ?_
    walk_at "dt"
    refine⟨p,prs,wd,rfl,hp,h1,h2,?_⟩
    have e:nO p prs wd=some (bq prs wd%p):=if_neg fun⟨pr,h,e⟩=>hI pr (by rw[ak,gb];exact h) e
    rw[e] at q
    exact q
def pN:DF:=fun ds Φ=>∃(p n:Int) (cs:List aq) (wd:Wo),ds=[cL p n cs,kU wd]/\0<p/\cs.length<=10000/\(∀prs∈cs,l8 prs wd.length)/\kK wd/\Φ true (.list (cs.map fun prs=>iN (nO p prs wd)))
theorem vf:cO pN:=by
 intro ds Φ Ψ hm z
 obtain⟨p,n,cs,wd,e,h1,h2,h3,h4,q⟩:=hm
 exact⟨p,n,cs,wd,e,h1,h2,h3,h4,z _ _ q⟩
theorem TF:cz ["net","word"] ["net","word"] (aN vC):=⟨rfl,rfl,rfl,by decide+kernel,rfl,by decide+kernel,by decide+kernel⟩
theorem Sb(F:bL K "sums" "sums" vC f fd)(J0:Callee P w K mg base "sum_of" 2 ["p","pairs","word"] (aS 3 Bv)):
  bG P w K mg base bN 3 f fd ["net","word"] (aS 2 pN):=by
 refine F.ok TF (fun vs H Q E h=>h.1) (fun cdv A outer s H vs Q E hr h=>?_)
 obtain⟨nb,ds,Φ,hlive,hds,aD,hF⟩:=fc h
 obtain⟨p,n,cs,wd,rfl,hp,hl,h1,h2,q⟩:=hF
 refine⟨_,(@aE _ _ _ (@aZ _ _ _ _ (fV (cQ.of (show eS (aN vC) ["net","word"] _ ["pairs","net","word"] [none,some 0,some 1]=true by decide+kernel)) (@fy _ _ _ _ (@au _ _ _ _ _ _ (aL K) aO (pv 0) ai (fun _ _=>rfl))) (fun _ _ _ _=>⟨(aR (i:=0) (by show List.Nodup (["pairs","net","word"]:List Str);decide+kernel) rfl (Or.inl rfl)),gK,(@aF _ _ _ _ _ _ _ _ _ _ J0 (hr.mono (by decide)) (@aa _ _ _ _ _ (@au _ _ _ _ _ _ (aL K) aO (pv 1) ai (fun _ _=>rfl)) (@aa _ _ _ _ _ (pv 0) (@aa _ _ _ _ _ (pv 2) af rfl) rfl) rfl) (by rfl) (by decide) (by rfl) (by rfl))⟩)))),?_⟩
 refine Sv.fj hlive hds aD (ρ:=[.d false _, .d false _]) rfl ?_
 clear aD hds
 walk_at "dt"
 refine aG.ev (aG.iY (by decide) rfl ?_)
 walk_at "dt"
 refine⟨by rw[ak];exact hl,fun v=>⟨true,fun i ds=>ds=(cs.take i).map fun prs=>iN (nO p prs wd),rfl,?_,?_⟩⟩
 ·rintro i d ds hd hl' rfl
  obtain⟨prs,c5,rfl⟩:=fK hd
  walk_at "dt"
  refine⟨by walk_at "wk",?_⟩
  walk_at "dt"
  refine Ev.aV MH ?_
  walk_at "dt"
  refine⟨rfl,p,prs,wd,rfl,hp,h1 prs (eK c5),h2,fun _=>rfl,?_⟩
  show _=List.map _ _
  rw[take_snoc c5,cN]
  rfl
 ·rintro ds hl' rfl
  rw[ak,gb]
  exact q
def sF:DF:=fun ds Φ=>∃(p n:Int) (cs:List aq) (c6:List Int),ds=[cL p n cs, .list (c6.map .int)]/\eY p n cs/\c6.Nodup/\c6.length<=1000/\
 ∀f,Φ f (.dict ((c6.map fun pl=>(pl,PyData.list ((dQ p cs pl cs.length).map pairD))).map bZ))
theorem C7:cO sF:=by
 intro ds Φ Ψ hm z
 obtain⟨p,n,cs,c6,e,h1,h2,h3,q⟩:=hm
 exact⟨p,n,cs,c6,e,h1,h2,h3,fun f=>z _ _ (q f)⟩
theorem pB:cz ["net","places","found","c","pairs","place","factor"] ["net","places"] (aN sy):=⟨rfl,rfl,rfl,by decide+kernel,rfl,by decide+kernel,by decide+kernel⟩
theorem O5(F:bL K "voices" "voices" sy f fd)(Rc:Callee P w K mg base "inverse" 1 ["p","b"] zN)(Br:mg "dict"=none)(kM:mg "enumerate"=none):
  bG P w K mg base bN 2 f fd ["net","places"] (aS 2 sF):=by
 refine F.ok pB (fun vs H Q E h=>h.1) (fun cdv A outer s H vs Q E hr h=>?_)
 obtain⟨nb,ds,Φ,hlive,hds,aD,hF⟩:=fc h
 obtain⟨p,n,cs,c6,rfl,hN,hnd,hpl,q⟩:=hF
 refine⟨_,(@ao _ _ _ _ _ (@aC _ _ (2) _ _ _ _ pB.nd rfl (Or.inl rfl) (@fS _ _ _ _ _ _ _ _ (xh) (Ot rfl) rfl Br PyProof.Rows.boot_dict (@aa _ _ _ _ _ (fV (cQ.of (show eS (aN sy) ["net","places","found","c","pairs","place","factor"] _ ["place"] [none]=true by decide+kernel)) (@fy _ _ _ _ (pv 1)) (fun _ _ _ _=>⟨(aR (i:=0) (by show List.Nodup (["place"]:List Str);decide+kernel) rfl (Or.inl rfl)),gK,(@cy _ _ _ _ _ (@aa _ _ _ _ _ (pv 0) (@aa _ _ _ _ _ (@dM _ _ _ _ af) af rfl) rfl))⟩)) af rfl) (by decide) (by decide) (by rfl) (by rfl)) (by rfl) (by first|exact .inl rfl|exact .inr rfl|assumption)) (@ao _ _ _ _ _ (@fW _ _ _ _ _ _ _ _ eU rfl (@vY _ (K) _ _ _ _ _ _ _ rfl rfl kM (@au _ _ _ _ _ _ (aL K) aO (pv 0) ai (fun _ _=>rfl)) (by rfl)) (@iF _ (K) _ _ _ (2) _ rfl rfl (@cG _ _ _ _ _ (aR (i:=3) pB.nd rfl (Or.inl rfl)) (@cG _ _ _ _ _ (aR (i:=4) pB.nd rfl (Or.inl rfl)) iC (by rfl)) (by rfl)) (by rfl) (by rfl)) (@aE _ _ _ (@fW _ _ _ _ _ _ _ _ eU rfl (@fy _ _ _ _ (pv 4)) (@iF _ (K) _ _ _ (2) _ rfl rfl (@cG _ _ _ _ _ (aR (i:=5) pB.nd rfl (Or.inl rfl)) (@cG _ _ _ _ _ (aR (i:=6) pB.nd rfl (Or.inl rfl)) iC (by rfl)) (by rfl)) (by rfl) (by rfl)) (@aE _ _ _ (@dj _ _ _ _ _ _ _ _ (@bF _ _ _ _ _ _ _ _ (Ng hr.units) (pv 5) (pv 2) (by with_unfolding_all rfl)) (@aE _ _ _ (@jY _ _ _ _ (jm j4 kG j6 jO (@au _ _ _ _ _ _ (jr) mj (pv 2) (pv 5) (fun _ _=>rfl)) (@aa _ _ _ _ _ (@cy _ _ _ _ _ (@aa _ _ _ _ _ (pv 3) (@aa _ _ _ _ _ (@aF _ _ _ _ _ _ _ _ _ _ Rc (hr.mono (by decide)) (@aa _ _ _ _ _ (@au _ _ _ _ _ _ (aL K) aO (pv 0) ai (fun _ _=>rfl)) (@aa _ _ _ _ _ (pv 6) af rfl) rfl) (by rfl) (by decide) (by rfl) (by rfl)) af rfl) rfl)) af rfl)) (by rfl))) dX)) (by intro _;rfl))) (by intro _;rfl)) (@aE _ _ _ (@aZ _ _ _ _ (pv 2))))),?_⟩
 refine Sv.fj hlive hds aD (ρ:=[.d false _, .d false _, .no, .no, .no, .no, .no]) rfl ?_
 clear aD hds
 have p2:=hN.hp.1
 have fP:=hN.fP
 have n0:=hN.n0
 have n1:=hN.n1
 have hcl:=hN.cl
 have nq:(cs.map dw).length=cs.length:=ak ..
 refine Sv.seq ?_
 refine Sv.R6 ?_
 walk_at "dt"
 refine⟨c6,rfl,hnd,by omega,fun A2 rows0 hr0=>?_⟩
 refine Sv.seq ?_
 refine Sv.AG ?_
 walk_at "dt"
 refine fun v=>⟨fun i ρ=>∃(rows:List fq) (f2:Bool) (x3 x4 x5 x6:Sl),(rows.map fun r=>(r.1,r.2.2))=(c6.map fun pl=>(pl,(dQ p cs pl i).map pairD))/\ρ=[.d false (cL p n cs), .d false (.list (c6.map .int)), .cu (iA A2 f2 rows),x3,x4,x5,x6],⟨rows0,true,_,_,_,_,hr0,rfl⟩,?_,?_⟩
 ·rintro i d ρ ⟨e,he,rfl⟩ ⟨rows,f2,x3,x4,x5,x6,hr,rfl⟩
  obtain⟨prs,c5,rfl⟩:=fK he
  have hil:=(bQ.mp c5).1
  obtain⟨g1,g2,g3⟩:=hN.ok prs (eK c5)
  walk_at "dt"
  refine Sv.forL ?_
  walk_at "dt"
  refine fun v=>⟨fun m ρ=>∃(rows:List fq) (f2:Bool) (x5 x6:Sl),(rows.map fun r=>(r.1,r.2.2))=c6.map (iP p cs i (prs.take m))/\ρ=[.d false (cL p n cs), .d false (.list (c6.map .int)), .cu (iA A2 f2 rows), .d true (.int i), .d false (dw prs),x5,x6],⟨rows,f2,_,_,by rw[hr];exact UA,rfl⟩,?_,?_⟩
  ·rintro m d ρ hd ⟨rows,f2,x5,x6,hr,rfl⟩
   obtain⟨pr,aU,rfl⟩:=fK hd
   have hml:=(bQ.mp aU).1
   obtain⟨a0,a1,a2,a3⟩:=g3 pr (eK aU)
   have hkeys:rows.map (·.1)=c6:=by
    have:=congrArg (List.map (·.1)) hr
    rw[dz,dz] at this
    have e1:((fun(x:Int×List PyData)=>x.1)∘fun(r:fq)=>(r.1,r.2.2))=fun(r:fq)=>r.1:=rfl
    have e2:((fun(x:Int×List PyData)=>x.1)∘iP p cs i (prs.take m))=id:=rfl
    rw[e1,e2,zc] at this
    exact this
   have WA:∀r∈rows,r.2.2.length<10000:=fun r hr'=>by
    have hm:(r.1,r.2.2)∈rows.map fun r=>(r.1,r.2.2):=j5 (f:=fun r:fq=>(r.1,r.2.2)) hr'
    rw[hr] at hm
    obtain⟨pl,_,e⟩:=bW.mp hm
    have:r.2.2=(iP p cs i (prs.take m) pl).2:=by rw[e]
    rw[this]
    unfold iP
    rw[ak,bP]
    have h1:=oG (p:=p) (cs:=cs) (pl:=pl) i
    have h2:∀o,(jQ p i o).length<=1:=fun o=>by cases o<;>simp[jQ]
    have:=h2 (dG (prs.take m) pl)
    omega
   have hnew:pr.1∉(prs.take m).map (·.1):=fun z=>by
    rw[List.map_take] at z
    obtain⟨j,hj⟩:=mH z
    have TY:j<m:=by have:=(bQ.mp hj).1;rw[iQ] at this;omega
    rw[G2 TY] at hj
    obtain⟨l1,e1⟩:=bQ.mp hj
    have l2:m<(prs.map (·.1)).length:=by rw[ak];exact hml
    have:=(tT (h₀:=l1) (h₁:=l2) g1).mp (by rw[e1,rG,(bQ.mp aU).2])
    omega
   have hts:=take_snoc aU
   walk_at "dt"
   refine Ev.Ul rfl ?_
   walk_at "dt"
   by_cases c:pr.1∈rows.map (·.1)
   ·rw[if_pos (by simp[c])]
    have dR:pr.2%p≠0:=by rw[q9 (by omega) (by omega)];omega
    refine Sv.RU rfl ?_
    walk_at "dt"
    refine Ev.inv ?_
    walk_at "dt"
    refine⟨p,pr.2,rfl,hN.hp,fP,dR,fun u u0 u1 hu=>?_⟩
    have eu:u=sol p pr.2 1:=EJ hN.hp dR u0 u1 (by obtain⟨k,hk⟩:=hu;exact⟨k,by rw[sN,hk];omega⟩)
    subst eu
    walk_at "dt"
    refine⟨_,_,_,_,?_,rfl⟩
    rw[hts,Rp hnew,<-hr,Uk]
    rfl
   ·rw[if_neg (by simp[c])]
    walk_at "dt"
    refine⟨rows,f2,_,_,?_,rfl⟩
    rw[hts,VJ (by rw[<-hkeys];exact c)]
    exact hr
  ·rintro ρ ⟨rows,f2,x5,x6,hr,rfl⟩
   rw[ak,gb] at hr
   refine⟨rows,f2,_,_,_,_,?_,rfl⟩
   rw[hr]
   apply fQ
   intro pl _
   unfold iP
   rw[FA c5]
 ·rintro ρ ⟨rows,f2,x3,x4,x5,x6,hr,rfl⟩
  rw[nq] at hr
  refine Sv.U6 2 rfl ?_
  walk_at "dt"
  have e:(rows.map fun r=>(r.1,PyData.list r.2.2))=c6.map fun pl=>(pl,PyData.list ((dQ p cs pl cs.length).map pairD)):=by
   have:=congrArg (List.map fun q:Int×List PyData=>(q.1,PyData.list q.2)) hr
   rw[dz,dz] at this
   exact this
  rw[e]
  exact q _
def qo:DF:=fun ds Φ=>∃(p n:Int) (cs:List aq),ds=[cL p n cs]/\eY p n cs/\∀f,Φ f (.dict ((jM p cs n.toNat).map bZ))
theorem z7:cO qo:=by
 intro ds Φ Ψ hm z
 obtain⟨p,n,cs,e,h1,q⟩:=hm
 exact⟨p,n,cs,e,h1,fun f=>z _ _ (q f)⟩
theorem Nt:cz ["net"] ["net"] (aN BE):=⟨rfl,rfl,rfl,by decide+kernel,rfl,by decide+kernel,by decide+kernel⟩
theorem Kz(F:bL K "all_voices" "all_voices" BE f fd)(zY:Callee P w K mg base "voices" 2 ["net","places"] (aS 2 sF))(bS:mg "list"=none)(bD:mg "range"=none):
  bG P w K mg base bN 3 f fd ["net"] (aS 1 qo):=by
 refine F.ok Nt (fun vs H Q E h=>h.1) (fun cdv A outer s H vs Q E hr h=>?_)
 obtain⟨nb,ds,Φ,hlive,hds,aD,hF⟩:=fc h
 obtain⟨p,n,cs,rfl,hN,q⟩:=hF
 refine⟨_,(@aE _ _ _ (@aZ _ _ _ _ (@aF _ _ _ _ _ _ _ _ _ _ zY (hr.mono (by decide)) (@aa _ _ _ _ _ (pv 0) (@aa _ _ _ _ _ (@fS _ _ _ _ _ _ _ _ _ (NP rfl) rfl bS gv (@aa _ _ _ _ _ (@fS _ _ _ _ _ _ _ _ _ Ss rfl bD PyProof.Rows.boot_range (@aa _ _ _ _ _ (@au _ _ _ _ _ _ (aL K) aO (pv 0) ai (fun _ _=>rfl)) af rfl) (by decide) (by decide) (by rfl) (by rfl)) af rfl) (by decide) (by decide) (by rfl) (by rfl)) af rfl) rfl) (by rfl) (by decide) (by rfl) (by rfl)))),?_⟩
 refine Sv.fj hlive hds aD (ρ:=[.d false _]) rfl ?_
 clear aD hds
 have n0:=hN.n0
 have n1:=hN.n1
 walk_at "dt"
 refine Ev.aV C7 ?_
 walk_at "dt"
 refine aG.ev (aG.Rl ?_)
 walk_at "dt"
 refine⟨rfl,p,n,cs,(List.range n.toNat).map fun(i:Nat)=>(i:Int),?_,hN,?_,by rw[ak,List.length_range];omega,fun f=>q _⟩
 ·show[_,PyData.list _]=[_,PyData.list _]
  have:((List.range n.toNat).map fun(i:Nat)=>(0:Int)+i)=(List.range n.toNat).map fun(i:Nat)=>(i:Int):=fQ fun i _=>by omega
  rw[this]
 exact List.nodup_range.map _ fun a b h z=>h (by omega)
def qP:DF:=fun ds Φ=>∃(p letter:Int) (vs:List (Int×Int)) (ss:List Int),ds=[.int p, .list (vs.map pairD), .list (ss.map .int), .int letter]/\0<p/\p<10^40/\vs.length<=1000/\(∀q∈vs,0<=q.1/\q.1<ss.length/\0<=q.2/\q.2<p)/\(∀s∈ss,0<=s/\s<p)/\
 ∀ks,j9 (vs.map fun q=>(letter-ss.getD q.1.toNat 0*q.2)%p) ks->ks.length<=vs.length->Φ true (.dict (ks.map bZ))
theorem Cc:cO qP:=by
 intro ds Φ Ψ hm z
 obtain⟨p,l,vs,ss,e,h1,h2,h3,h4,h5,q⟩:=hm
 exact⟨p,l,vs,ss,e,h1,h2,h3,h4,h5,fun ks a b=>z _ _ (q ks a b)⟩
theorem rH:cz ["p","there","reached","letter","counts","c","inverted","voted_for"] ["p","there","reached","letter"] (aN zk):=⟨rfl,rfl,rfl,by decide+kernel,rfl,by decide+kernel,by decide+kernel⟩
theorem Oa(F:bL K "counts_of" "counts_of" zk f fd):
  bG P w K mg base bN 1 f fd ["p","there","reached","letter"] (aS 4 qP):=by
 refine F.ok rH (fun vs H Q E h=>h.1) (fun cdv A outer s H vs Q E hr h=>?_)
 obtain⟨nb,ds,Φ,hlive,hds,aD,hF⟩:=fc h
 obtain⟨p,letter,vs,ss,rfl,p0,fP,hvl,hvs,hss,q⟩:=hF
 refine⟨_,(@ao _ _ _ _ _ (@aC _ _ (4) _ _ _ _ rH.nd rfl (Or.inl rfl) Nu (by rfl) (by first|exact .inl rfl|exact .inr rfl|assumption)) (@ao _ _ _ _ _ (@fW _ _ _ _ _ _ _ _ eU rfl (@fy _ _ _ _ (pv 1)) (@iF _ (K) _ _ _ (2) _ rfl rfl (@cG _ _ _ _ _ (aR (i:=5) rH.nd rfl (Or.inl rfl)) (@cG _ _ _ _ _ (aR (i:=6) rH.nd rfl (Or.inl rfl)) iC (by rfl)) (by rfl)) (by rfl) (by rfl)) (@ao _ _ _ _ _ (@aC _ _ (7) _ _ _ _ rH.nd rfl (Or.inl rfl) (@aB _ _ _ _ _ _ _ _ iT (@aB _ _ _ _ _ _ _ _ gc (pv 3) (@aB _ _ _ _ _ _ _ _ gZ (@au _ _ _ _ _ _ (cJ K) bz (pv 2) (pv 5) (fun _ _=>rfl)) (pv 6))) (pv 0)) (by rfl) (by first|exact .inl rfl|exact .inr rfl|assumption)) (@aE _ _ _ (@jx _ _ _ _ _ _ (@aB _ _ _ _ _ _ _ _ cS (jm HR Cr C3 Ed (pv 4) (@aa _ _ _ _ _ (pv 7) (@aa _ _ _ _ _ ai af rfl) rfl)) ai) (lT (pv 4) (pv 7) set_dict) (by rfl) (by rfl) (by rfl)))) (by intro _;rfl)) (@aE _ _ _ (@aZ _ _ _ _ (pv 4))))),?_⟩
 refine Sv.fj hlive hds aD (ρ:=[.d false _, .d false _, .d false _, .d false _, .no, .no, .no, .no]) rfl ?_
 clear aD hds
 have Ri:(vs.map pairD).length=vs.length:=ak ..
 refine Sv.seq ?_
 refine Sv.Pg (tG.new ?_)
 intro A4
 refine Sv.seq ?_
 refine Sv.forL ?_
 refine Ev.var rfl ?_
 refine⟨_,rfl,fun v=>⟨fun i ρ=>∃(ks:Ks) (x5 x6 x7:Sl),j9 ((vs.take i).map fun q=>(letter-ss.getD q.1.toNat 0*q.2)%p) ks/\ks.length<=i/\ρ=[.d false (.int p), .d false (.list (vs.map pairD)), .d false (.list (ss.map .int)), .d false (.int letter), .bU A4 true ks,x5,x6,x7],⟨[],_,_,_,j9.nil,aI _,rfl⟩,?_,?_⟩⟩
 ·rintro i d ρ hd ⟨ks,x5,x6,x7,hK,k9,rfl⟩
  obtain⟨qq,hq,rfl⟩:=fK hd
  have hil:=(bQ.mp hq).1
  obtain⟨a0,a1,a2,a3⟩:=hvs qq (eK hq)
  have hsl:qq.1.toNat<ss.length:=by omega
  have hat:bx (ss.map PyData.int) qq.1=some (.int (ss.getD qq.1.toNat 0)):=gY a0 (by rw[aX,aQ hsl,eO,aQ hsl];rfl)
  obtain⟨b0,b1⟩:0<=ss.getD qq.1.toNat 0/\ss.getD qq.1.toNat 0<p:=by
   rw[eO,aQ hsl]
   exact hss _ (ie hsl)
  have s1:Sm (ss.getD qq.1.toNat 0):=by unfold Sm;omega
  have s2:Sm qq.2:=by unfold Sm;omega
  generalize iR:(iJ _ (qN (fR 4) _ yz):TS)=tl
  walk_at "dt"
  subst iR
  refine Sv.N9 rfl ?_
  walk_at "dt"
  refine Ev.JG rfl ?_
  walk_at "dt"
  rw[hK.get]
  walk_at "dt"
  refine⟨_,_,_,_,?_,?_,rfl⟩
  ·rw[take_snoc hq,cN]
   exact hK.put _
  ·have:=J8 ks ((letter-ss.getD qq.1.toNat 0*qq.2)%p) (.int (((List.map (fun q=>(letter-ss.getD q.1.toNat 0*q.2)%p) (List.take i vs)).count ((letter-ss.getD qq.1.toNat 0*qq.2)%p):Int)+1))
   omega
 ·rintro ρ ⟨ks,x5,x6,x7,hK,k9,rfl⟩
  rw[Ri] at hK k9
  rw[gb] at hK
  refine Sv.Mu 4 rfl ?_
  walk_at "dt"
  exact q ks hK k9
def Bw:DF:=fun ds Φ=>∃(p n:Int) (cs:List aq) (ws:List Int) (pl:Int),ds=[cL p n cs,bO ws, .int pl]/\eY p n cs/\cs.length<=62/\ws.length=n.toNat/\(∀x∈ws,0<=x/\x<p)/\0<=pl/\pl<n/\
 ∀rs:List Int,rs.Pairwise (· < ·)->(∀k,k∈rs↔k∈bw p cs ws pl)->Φ true (.list (rs.map fun r=>pairD (r,((bw p cs ws pl).count r:Int))))
theorem Fj:cO Bw:=by
 intro ds Φ Ψ hm z
 obtain⟨p,n,cs,ws,pl,e,h1,h2,h3,h4,h5,h6,q⟩:=hm
 exact⟨p,n,cs,ws,pl,e,h1,h2,h3,h4,h5,h6,fun rs a b=>z _ _ (q rs a b)⟩
theorem v7:cz ["net","word","place","there","counts"] ["net","word","place"] (aN vL):=⟨rfl,rfl,rfl,by decide+kernel,rfl,by decide+kernel,by decide+kernel⟩
theorem LJ(F:bL K "votes" "votes" vL f fd)(qL:Callee P w K mg base "counts_of" 1 ["p","there","reached","letter"] (aS 4 qP))(zY:Callee P w K mg base "voices" 2 ["net","places"] (aS 2 sF))(nE:Callee P w K mg base "sums" 3 ["net","word"] (aS 2 pN))(jj:mg "sorted"=none):
  bG P w K mg base bN 4 f fd ["net","word","place"] (aS 3 Bw):=by
 refine F.ok v7 (fun vs H Q E h=>h.1) (fun cdv A outer s H vs Q E hr h=>?_)
 obtain⟨nb,ds,Φ,hlive,hds,aD,hF⟩:=fc h
 obtain⟨p,n,cs,ws,pl,rfl,hN,vg,hwl,hws,UH,VO,q⟩:=hF
 refine⟨_,(@ao _ _ _ _ _ (@aC _ _ (3) _ _ _ _ v7.nd rfl (Or.inl rfl) (@au _ _ _ _ _ _ (jr) mj (@aF _ _ _ _ _ _ _ _ _ _ zY (hr.mono (by decide)) (@aa _ _ _ _ _ (pv 0) (@aa _ _ _ _ _ (@dM _ _ _ _ (@aa _ _ _ _ _ (pv 2) af rfl)) af rfl) rfl) (by rfl) (by decide) (by rfl) (by rfl)) (pv 2) (fun _ _=>rfl)) (by rfl) (by first|exact .inl rfl|exact .inr rfl|assumption)) (@ao _ _ _ _ _ (@aC _ _ (4) _ _ _ _ v7.nd rfl (Or.inr rfl) (@aF _ _ _ _ _ _ _ _ _ _ qL (hr.mono (by decide)) (@aa _ _ _ _ _ (@au _ _ _ _ _ _ (aL K) aO (pv 0) ai (fun _ _=>rfl)) (@aa _ _ _ _ _ (pv 3) (@aa _ _ _ _ _ (@aF _ _ _ _ _ _ _ _ _ _ nE (hr.mono (by decide)) (@aa _ _ _ _ _ (pv 0) (@aa _ _ _ _ _ (pv 1) af rfl) rfl) (by rfl) (by decide) (by rfl) (by rfl)) (@aa _ _ _ _ _ (@au _ _ _ _ _ _ (cJ K) bz (pv 1) (pv 2) (fun _ _=>rfl)) af rfl) rfl) rfl) rfl) (by rfl) (by decide) (by rfl) (by rfl)) (by rfl) (by first|exact .inl rfl|exact .inr rfl|assumption)) (@aE _ _ _ (@aZ _ _ _ _ (fV (cQ.of (show eS (aN vL) ["net","word","place","there","counts"] _ ["letter","counts"] [none,some 4]=true by decide+kernel)) (@fy _ _ _ _ (@bE _ _ _ _ _ _ _ _ (vM) (DM rfl) rfl jj tu (@aa _ _ _ _ _ (pv 4) af rfl) (by decide) (by decide) (by rfl) (by rfl))) (fun _ _ _ _=>⟨(aR (i:=0) (by show List.Nodup (["letter","counts"]:List Str);decide+kernel) rfl (Or.inl rfl)),gK,(@cy _ _ _ _ _ (@aa _ _ _ _ _ (pv 0) (@aa _ _ _ _ _ (@au _ _ _ _ _ _ (jr) mj (pv 1) (pv 0) (fun _ _=>rfl)) af rfl) rfl))⟩)))))),?_⟩
 refine Sv.fj hlive hds aD (ρ:=[.d false _, .d false _, .d false _, .no, .no]) rfl ?_
 clear aD hds
 have p2:=hN.hp.1
 have fP:=hN.fP
 have n0:=hN.n0
 have n1:=hN.n1
 have Rr:bO ws=kU (ws.map some):=by show PyData.list _=PyData.list _;rw[dz];rfl
 have WH:(ws.map some).length=n.toNat:=by rw[ak];exact hwl
 have nK:∀prs∈cs,l8 prs (ws.map some).length:=fun prs c5 pr aU=>by
  obtain⟨_,_,g⟩:=hN.ok prs c5
  obtain⟨a0,a1,a2,a3⟩:=g pr aU
  exact⟨a0,by omega,by unfold Sm;omega⟩
 have lF:kK (ws.map some):=fun x hx=>by
  obtain⟨y,hy,e⟩:=bW.mp hx
  cases e
  obtain⟨a0,a1⟩:=hws x hy
  unfold Sm;omega
 have FZ:pl.toNat<ws.length:=by omega
 have hat:bx (ws.map PyData.int) pl=some (.int (ws.getD pl.toNat 0)):=gY UH (by rw[aX,aQ FZ,eO,aQ FZ];rfl)
 have hvl:=oG (p:=p) (cs:=cs) (pl:=pl) cs.length
 walk_at "dt"
 refine Ev.n6 ?_
 refine Ev.aV C7 ?_
 walk_at "dt"
 refine⟨rfl,p,n,cs,[pl],rfl,hN,by simp,by show 1<=1000;omega,fun f0=>?_⟩
 refine⟨[(pl,PyData.list ((dQ p cs pl cs.length).map pairD))],rfl,?_⟩
 walk_at "dt"
 refine⟨_,by rw[pV,if_pos rfl],?_⟩
 walk_at "dt"
 refine Ev.aV Cc ?_
 walk_at "dt"
 refine Ev.aV vf ?_
 walk_at "dt"
 refine⟨rfl,p,n,cs,ws.map some,by show[_,_]=_;rw[Rr],by omega,by omega,nK,lF,?_⟩
 rw[t6]
 walk_at "dt"
 refine⟨rfl,p,ws.getD pl.toNat 0,dQ p cs pl cs.length,cY p cs ws,rfl,by omega,fP,by omega,fun qq hq=>?_,fun s hs=>?_,fun ks hK k9=>?_⟩
 ·obtain⟨c,prs,ff,e1,e2,e3,rfl⟩:=mU (aI _) hq
  have hr:=vJ (p:=p) (b:=ff) (a:=1) (by omega)
  refine⟨by show(0:Int)<=c;omega,?_,hr.1,hr.2⟩
  show(c:Int)<_
  unfold cY
  rw[ak]
  omega
 ·unfold cY at hs
  obtain⟨prs,_,rfl⟩:=bW.mp hs
  exact⟨gJ _ (by omega),gy _ (by omega)⟩
 have eL:(dQ p cs pl cs.length).map (fun q=>(ws.getD pl.toNat 0-(cY p cs ws).getD q.1.toNat 0*q.2)%p)=bw p cs ws pl:=by
  unfold bw
  apply fQ
  intro qq hq
  obtain⟨c,prs,ff,e1,e2,e3,rfl⟩:=mU (aI _) hq
  dsimp only
  rw[eT,zf c e2]
 rw[eL] at hK
 walk_at "dt"
 refine aG.ev (aG.iY (by decide) rfl ?_)
 refine aG.ev (aG.CG ?_)
 walk_at "dt"
 refine⟨ks,rfl,by omega,fun rs hrs dR=>?_⟩
 obtain⟨ms,nd,hm,rfl⟩:=id hK
 rw[dz,show((fun(x:Int×PyData)=>x.1)∘fun c=>(c,PyData.int ((bw p cs ws pl).count c)))=id from rfl,zc] at dR
 have hrnd:rs.Nodup:=dR.nodup_iff.mpr nd
 have xV:rs.Pairwise (· < ·):=(hrs.and hrnd).imp fun⟨x,y⟩=>by omega
 have hmem:∀k,k∈rs↔k∈bw p cs ws pl:=fun k=>by rw[dR.mem_iff,hm k]
 rw[ak] at k9
 have hrl:rs.length<=1000:=by rw[dR.length_eq];omega
 walk_at "dt"
 refine⟨by rw[ak];omega,fun v=>⟨true,fun i ds=>ds=(rs.take i).map fun r=>pairD (r,((bw p cs ws pl).count r:Int)),rfl,?_,?_⟩⟩
 ·rintro i d ds hd hl' rfl
  obtain⟨r,hr,rfl⟩:=fK hd
  have hrm:r∈ms:=dR.mem_iff.mp (eK hr)
  walk_at "dt"
  refine⟨by walk_at "wk",?_⟩
  walk_at "dt"
  refine Ev.n6 ?_
  walk_at "dt"
  refine⟨_,rfl,?_⟩
  walk_at "dt"
  refine⟨_,by rw[ou,if_pos hrm],?_⟩
  walk_at "dt"
  refine⟨fun _=>rfl,?_⟩
  show _=List.map _ (List.take (i+1) rs)
  rw[take_snoc hr,cN]
  rfl
 ·rintro ds hl' rfl
  rw[ak,gb]
  exact q rs xV hmem
def sC:DF:=fun ds Φ=>∃(p n:Int) (cs:List aq) (ws:List Int),ds=[.int p, .dict ((jM p cs n.toNat).map bZ), .list ((cY p cs ws).map .int),bO ws]/\eY p n cs/\ws.length=n.toNat/\(∀x∈ws,0<=x/\x<p)/\Φ true (.list ((aP p cs ws n.toNat).map bu))
theorem Ga:cO sC:=by
 intro ds Φ Ψ hm z
 obtain⟨p,n,cs,ws,e,h1,h2,h3,q⟩:=hm
 exact⟨p,n,cs,ws,e,h1,h2,h3,z _ _ q⟩
theorem pH:cz ["p","found","reached","word","turns","place","old","counts","new"] ["p","found","reached","word"] (aN zD):=⟨rfl,rfl,rfl,by decide+kernel,rfl,by decide+kernel,by decide+kernel⟩
theorem JD(F:bL K "turns_of" "turns_of" zD f fd)(qL:Callee P w K mg base "counts_of" 1 ["p","there","reached","letter"] (aS 4 qP))(kM:mg "enumerate"=none)(bf:mg "len"=none):
  bG P w K mg base bN 2 f fd ["p","found","reached","word"] (aS 4 sC):=by
 refine F.ok pH (fun vs H Q E h=>h.1) (fun cdv A outer s H vs Q E hr h=>?_)
 obtain⟨nb,ds,Φ,hlive,hds,aD,hF⟩:=fc h
 obtain⟨p,n,cs,ws,rfl,hN,hwl,hws,q⟩:=hF
 refine⟨_,(@ao _ _ _ _ _ (@aC _ _ (4) _ _ _ _ pH.nd rfl (Or.inl rfl) (@dM _ _ _ _ af) (by rfl) (by first|exact .inl rfl|exact .inr rfl|assumption)) (@ao _ _ _ _ _ (@fW _ _ _ _ _ _ _ _ eU rfl (@vY _ (K) _ _ _ _ _ _ _ rfl rfl kM (pv 3) (by rfl)) (@iF _ (K) _ _ _ (2) _ rfl rfl (@cG _ _ _ _ _ (aR (i:=5) pH.nd rfl (Or.inl rfl)) (@cG _ _ _ _ _ (aR (i:=6) pH.nd rfl (Or.inl rfl)) iC (by rfl)) (by rfl)) (by rfl) (by rfl)) (@ao _ _ _ _ _ (@aC _ _ (7) _ _ _ _ pH.nd rfl (Or.inl rfl) (@aF _ _ _ _ _ _ _ _ _ _ qL (hr.mono (by decide)) (@aa _ _ _ _ _ (pv 0) (@aa _ _ _ _ _ (@au _ _ _ _ _ _ (jr) mj (pv 1) (pv 5) (fun _ _=>rfl)) (@aa _ _ _ _ _ (pv 2) (@aa _ _ _ _ _ (pv 6) af rfl) rfl) rfl) rfl) (by rfl) (by decide) (by rfl) (by rfl)) (by rfl) (by first|exact .inl rfl|exact .inr rfl|assumption)) (@aE _ _ _ (@Oc _ _ _ (@fW _ _ _ _ _ _ _ _ eU rfl (@Q6 _ _ _ _ (pv 7)) (aR (i:=8) pH.nd rfl (Or.inl rfl)) (@aE _ _ _ (@dj _ _ _ _ _ _ _ _ (PW.pt (mK (@bF _ _ _ _ _ _ _ _ jL (pv 8) (pv 6) (br _)) (mJ (@bF _ _ _ _ _ _ _ _ xP (@aB _ _ _ _ _ _ _ _ gZ ai (@au _ _ _ _ _ _ (jr) mj (pv 7) (pv 8) (fun _ _=>rfl))) (@bE _ _ _ _ _ _ _ _ (dg K) dU rfl bf dP (@aa _ _ _ _ _ (@au _ _ _ _ _ _ (jr) mj (pv 1) (pv 5) (fun _ _=>rfl)) af rfl) (by decide) (by decide) (by rfl) (by rfl)) (br _))))) (@aE _ _ _ (@jY _ _ _ _ (jm j4 kG j6 jO (pv 4) (@aa _ _ _ _ _ (@cy _ _ _ _ _ (@aa _ _ _ _ _ (pv 5) (@aa _ _ _ _ _ (pv 6) (@aa _ _ _ _ _ (pv 8) af rfl) rfl) rfl)) af rfl)) (by rfl))) dX)) (by intro _;rfl))))) (by intro _;rfl)) (@aE _ _ _ (@aZ _ _ _ _ (pv 4))))),?_⟩
 refine Sv.fj hlive hds aD (ρ:=[.d false _, .d false _, .d false _, .d false _, .no, .no, .no, .no, .no]) rfl ?_
 clear aD hds
 have p2:=hN.hp.1
 have fP:=hN.fP
 have n0:=hN.n0
 have n1:=hN.n1
 have hcl:=hN.cl
 have nV:(ws.map PyData.int).length=ws.length:=ak ..
 have hsl:(cY p cs ws).length=cs.length:=by unfold cY;exact ak ..
 have xR:∀s∈cY p cs ws,0<=s/\s<p:=fun s hs=>by
  unfold cY at hs
  obtain⟨prs,_,rfl⟩:=bW.mp hs
  exact⟨gJ _ (by omega),gy _ (by omega)⟩
 walk_at "dt"
 intro A4
 refine Sv.seq ?_
 refine Sv.AG ?_
 walk_at "dt"
 refine fun v=>⟨fun i ρ=>∃(x5 x6 x7 x8:Sl),ρ=[.d false (.int p), .d false (.dict ((jM p cs n.toNat).map bZ)), .d false (.list ((cY p cs ws).map .int)), .d false (bO ws), .own A4 true ((aP p cs ws i).map bu),x5,x6,x7,x8],⟨_,_,_,_,rfl⟩,?_,?_⟩
 ·rintro i d ρ ⟨e,he,rfl⟩ ⟨x5,x6,x7,x8,rfl⟩
  obtain⟨old,hold,rfl⟩:=fK he
  have hil:=(bQ.mp hold).1
  have hin:i<n.toNat:=by omega
  have hval:=EG (p:=p) (cs:=cs) hin
  have hog:ws.getD i 0=old:=by rw[eO,hold];rfl
  have hvl:=oG (p:=p) (cs:=cs) (pl:=(i:Int)) cs.length
  have iR:=rX (p:=p) (cs:=cs) (ws:=ws) i
  have eL:(dQ p cs (i:Int) cs.length).map (fun q=>(old-(cY p cs ws).getD q.1.toNat 0*q.2)%p)=bw p cs ws (i:Int):=by
   unfold bw
   apply fQ
   intro qq hq
   obtain⟨c,prs,ff,e1,e2,e3,rfl⟩:=mU (aI _) hq
   dsimp only
   rw[eT,eT,zf c e2,hog]
  have DT:(dQ p cs (i:Int) cs.length).length=(bw p cs ws (i:Int)).length:=by unfold bw;rw[ak]
  walk_at "dt"
  refine Ev.aV Cc ?_
  walk_at "dt"
  refine Ev.n6 ?_
  walk_at "dt"
  refine⟨_,rfl,?_⟩
  walk_at "dt"
  refine⟨_,hval,?_⟩
  walk_at "dt"
  refine⟨rfl,p,old,dQ p cs (i:Int) cs.length,cY p cs ws,rfl,by omega,fP,by omega,fun qq hq=>?_,xR,fun ks hK k9=>?_⟩
  ·obtain⟨c,prs,ff,e1,e2,e3,rfl⟩:=mU (aI _) hq
   have hr:=vJ (p:=p) (b:=ff) (a:=1) (by omega)
   exact⟨by show(0:Int)<=c;omega,by show(c:Int)<_;omega,hr.1,hr.2⟩
  rw[eL] at hK
  obtain⟨ms,nd,hm,rfl⟩:=id hK
  rw[ak] at k9
  obtain⟨VL,kY⟩:∃VL,bw p cs ws (i:Int)=VL:=⟨_,rfl⟩
  rw[kY] at hm DT hK
  have G8:∀x∈VL,0<=x/\x<p:=by rw[<-kY];exact pT (by omega)
  simp only[kY]
  refine Gv.name ?_
  refine Sv.MK ?_
  walk_at "dt"
  refine⟨_,rfl,fun G' v=>?_⟩
  have OE:(ms.map fun c=>(c,PyData.int (VL.count c))).length=ms.length:=ak ..
  refine⟨fun j ρ=>∃(x8:Sl),ρ=[.d false (.int p), .d false (.dict ((jM p cs n.toNat).map bZ)), .d false (.list ((cY p cs ws).map .int)), .d false (bO ws), .own A4 true ((aP p cs ws i++((ms.take j).filter (cX VL old)).map fun x=>((i:Int),old,x)).map bu), .d true (.int i), .d true (.int old), .d true (.dict ((ms.map fun c=>(c,PyData.int (VL.count c))).map bZ)),x8],?_,?_,?_⟩
  ·refine⟨x8,?_⟩
   rw[List.take_zero,List.filter_nil,pW,ig]
   rfl
  ·rintro j d ρ ⟨kv,hkv,rfl⟩ ⟨x8,rfl⟩
   rw[aX] at hkv
   obtain⟨x,hx,rfl⟩:=jR.mp hkv
   have l9:=eK hx
   have hjl:=(bQ.mp hx).1
   have VX:VL.count x<=VL.length:=List.count_le_length
   have s1:Sm (VL.count x:Int):=by unfold Sm;omega
   have s2:Sm 2:=by unfold Sm;omega
   have Wt:(aP p cs ws i++((ms.take j).filter (cX VL old)).map fun x=>((i:Int),old,x)).length<9999:=by
    rw[bP,ak]
    have:=List.length_filter_le (cX VL old) (ms.take j)
    rw[iQ] at this
    omega
   have hts:=take_snoc hx
   refine Gv.qu ?_
   walk_at "dt"
   by_cases c1:x=old
   ·rw[if_neg (by simp[c1])]
    walk_at "dt"
    refine⟨.d true (.int x),?_⟩
    rw[hts,B4,show[x].filter (cX VL old)=[] by simp[cX,c1],ig]
    rfl
   ·rw[if_pos (by simp[c1])]
    walk_at "dt"
    refine Ev.n6 ?_
    walk_at "dt"
    refine⟨_,rfl,?_⟩
    walk_at "dt"
    refine⟨_,by rw[ou,if_pos l9],?_⟩
    walk_at "dt"
    refine Ev.n6 ?_
    walk_at "dt"
    refine⟨_,rfl,?_⟩
    walk_at "dt"
    refine⟨_,hval,?_⟩
    walk_at "dt"
    have rV:((dQ p cs (i:Int) cs.length).map pairD).length=VL.length:=by rw[ak,DT]
    rw[rV]
    by_cases c2:VL.length<2*VL.count x
    ·rw[if_pos (by simp;omega)]
     walk_at "dt"
     refine⟨by rw[ak];omega,?_⟩
     refine⟨.d true (.int x),?_⟩
     have heq:(aP p cs ws i++((ms.take (j+1)).filter (cX VL old)).map fun x=>((i:Int),old,x)).map bu=(aP p cs ws i++((ms.take j).filter (cX VL old)).map fun x=>((i:Int),old,x)).map bu++[bu ((i:Int),old,x)]:=by
      rw[hts,B4,show[x].filter (cX VL old)=[x] by simp[cX,c1,c2]]
      simp
     rw[heq]
     rfl
    ·rw[if_neg (by simp;omega)]
     walk_at "dt"
     refine⟨.d true (.int x),?_⟩
     rw[hts,B4,show[x].filter (cX VL old)=[] by simp[cX,c2],ig]
     rfl
  ·rintro ρ ⟨x8,rfl⟩
   rw[OE,gb,KP nd hm]
   have hs:aP p cs ws (i+1)=aP p cs ws i++(jb VL old).map fun x=>((i:Int),old,x):=by
    rw[GL]
    unfold lC
    rw[kY,hog]
   rw[<-hs]
   exact⟨_,_,_,_,rfl⟩
 ·rintro ρ ⟨x5,x6,x7,x8,rfl⟩
  rw[nV,hwl]
  walk_at "dt"
  exact q
def uW:DF:=fun ds Φ=>∃(ws:List Int) (ts:List (Int×Int×Int)),ds=[bO ws, .list (ts.map bu)]/\ws.length<=9000/\(∀t∈ts,0<=t.1/\t.1<ws.length)/\Φ true (bO (cA ws ts))
theorem Ig:cO uW:=by
 intro ds Φ Ψ hm z
 obtain⟨ws,ts,e,h1,h2,q⟩:=hm
 exact⟨ws,ts,e,h1,h2,z _ _ q⟩
theorem rF:cz ["word","turns","told","place","old","new"] ["word","turns"] (aN yT):=⟨rfl,rfl,rfl,by decide+kernel,rfl,by decide+kernel,by decide+kernel⟩
theorem OP(F:bL K "with_turns" "with_turns" yT f fd)(bS:mg "list"=none):
  bG P w K mg base bN 1 f fd ["word","turns"] (aS 2 uW):=by
 refine F.ok rF (fun vs H Q E h=>h.1) (fun cdv A outer s H vs Q E hr h=>?_)
 obtain⟨nb,ds,Φ,hlive,hds,aD,hF⟩:=fc h
 obtain⟨ws,ts,rfl,hwl,hts,q⟩:=hF
 refine⟨_,(@ao _ _ _ _ _ (@aC _ _ (2) _ _ _ _ rF.nd rfl (Or.inl rfl) (@fS _ _ _ _ _ _ _ _ (gR K) iW rfl bS gv (@aa _ _ _ _ _ (pv 0) af rfl) (by decide) (by decide) (by rfl) (by rfl)) (by rfl) (by first|exact .inl rfl|exact .inr rfl|assumption)) (@ao _ _ _ _ _ (@fW _ _ _ _ _ _ _ _ eU rfl (@fy _ _ _ _ (pv 1)) (@iF _ (K) _ _ _ (3) _ rfl rfl (@cG _ _ _ _ _ (aR (i:=3) rF.nd rfl (Or.inl rfl)) (@cG _ _ _ _ _ (aR (i:=4) rF.nd rfl (Or.inl rfl)) (@cG _ _ _ _ _ (aR (i:=5) rF.nd rfl (Or.inl rfl)) iC (by rfl)) (by rfl)) (by rfl)) (by rfl) (by rfl)) (@aE _ _ _ (@jx _ _ _ _ _ _ (pv 5) (lT (pv 2) (pv 3) set_list) (by rfl) (by rfl) (by rfl))) (by intro _;rfl)) (@aE _ _ _ (@aZ _ _ _ _ (pv 2))))),?_⟩
 refine Sv.fj hlive hds aD (ρ:=[.d false _, .d false _, .no, .no, .no, .no]) rfl ?_
 clear aD hds
 refine Sv.seq ?_
 refine Sv.w5 (aG.listOf ?_)
 walk_at "dt"
 intro A2
 rw[tS,rj]
 refine Sv.seq ?_
 refine Sv.forL ?_
 walk_at "dt"
 refine fun v=>⟨fun i ρ=>∃(x3 x4 x5:Sl),ρ=[.d false (bO ws), .d false (.list (ts.map bu)), .own A2 true ((cA ws (ts.take i)).map .int),x3,x4,x5],⟨_,_,_,rfl⟩,?_,?_⟩
 ·rintro i d ρ hd ⟨x3,x4,x5,rfl⟩
  obtain⟨t,ht,rfl⟩:=fK hd
  obtain⟨t0,t1⟩:=hts t (eK ht)
  have hl:=qB ws (ts.take i)
  have hix:gV ((cA ws (ts.take i)).map PyData.int).length t.1=some t.1.toNat:=by
   unfold gV
   rw[ak]
   repeat (first|rw[if_pos (by omega)]|rw[if_neg (by omega)])
  walk_at "dt"
  refine⟨_,_,rfl,hix,?_⟩
  rw[<-yb,<-PR,<-take_snoc ht]
  exact⟨_,_,_,rfl⟩
 ·rintro ρ ⟨x3,x4,x5,rfl⟩
  rw[ak,gb]
  walk_at "dt"
  exact q
def By:DF:=fun ds Φ=>∃(p n:Int) (cs:List aq) (ws:List Int),ds=[cL p n cs,bO ws]/\eY p n cs/\ws.length=n.toNat/\(∀x∈ws,0<=x/\x<p)/\Φ true (.tuple [bO (cA ws (aP p cs ws n.toNat)), .list ((aP p cs ws n.toNat).map bu)])
theorem zE:cO By:=by
 intro ds Φ Ψ hm z
 obtain⟨p,n,cs,ws,e,h1,h2,h3,q⟩:=hm
 exact⟨p,n,cs,ws,e,h1,h2,h3,z _ _ q⟩
theorem HU:cz ["net","word","turns"] ["net","word"] (aN BG):=⟨rfl,rfl,rfl,by decide+kernel,rfl,by decide+kernel,by decide+kernel⟩
theorem MB(F:bL K "turned" "turned" BG f fd)(Ce:Callee P w K mg base "turns_of" 2 ["p","found","reached","word"] (aS 4 sC))(qY:Callee P w K mg base "all_voices" 3 ["net"] (aS 1 qo))(nE:Callee P w K mg base "sums" 3 ["net","word"] (aS 2 pN))(yy:Callee P w K mg base "with_turns" 1 ["word","turns"] (aS 2 uW)):
  bG P w K mg base bN 4 f fd ["net","word"] (aS 2 By):=by
 refine F.ok HU (fun vs H Q E h=>h.1) (fun cdv A outer s H vs Q E hr h=>?_)
 obtain⟨nb,ds,Φ,hlive,hds,aD,hF⟩:=fc h
 obtain⟨p,n,cs,ws,rfl,hN,hwl,hws,q⟩:=hF
 refine⟨_,(@ao _ _ _ _ _ (@aC _ _ (2) _ _ _ _ HU.nd rfl (Or.inl rfl) (@aF _ _ _ _ _ _ _ _ _ _ Ce (hr.mono (by decide)) (@aa _ _ _ _ _ (@au _ _ _ _ _ _ (aL K) aO (pv 0) ai (fun _ _=>rfl)) (@aa _ _ _ _ _ (@aF _ _ _ _ _ _ _ _ _ _ qY (hr.mono (by decide)) (@aa _ _ _ _ _ (pv 0) af rfl) (by rfl) (by decide) (by rfl) (by rfl)) (@aa _ _ _ _ _ (@aF _ _ _ _ _ _ _ _ _ _ nE (hr.mono (by decide)) (@aa _ _ _ _ _ (pv 0) (@aa _ _ _ _ _ (pv 1) af rfl) rfl) (by rfl) (by decide) (by rfl) (by rfl)) (@aa _ _ _ _ _ (pv 1) af rfl) rfl) rfl) rfl) (by rfl) (by decide) (by rfl) (by rfl)) (by rfl) (by first|exact .inl rfl|exact .inr rfl|assumption)) (@aE _ _ _ (@aZ _ _ _ _ (@cy _ _ _ _ _ (@aa _ _ _ _ _ (@aF _ _ _ _ _ _ _ _ _ _ yy (hr.mono (by decide)) (@aa _ _ _ _ _ (pv 1) (@aa _ _ _ _ _ (pv 2) af rfl) rfl) (by rfl) (by decide) (by rfl) (by rfl)) (@aa _ _ _ _ _ (pv 2) af rfl) rfl))))),?_⟩
 refine Sv.fj hlive hds aD (ρ:=[.d false _, .d false _, .no]) rfl ?_
 clear aD hds
 have p2:=hN.hp.1
 have fP:=hN.fP
 have n0:=hN.n0
 have n1:=hN.n1
 have hcl:=hN.cl
 have nM:bO ws=kU (ws.map some):=by show PyData.list _=PyData.list _;rw[dz];rfl
 have nK:∀prs∈cs,l8 prs (ws.map some).length:=fun prs c5 pr aU=>by
  obtain⟨_,_,g⟩:=hN.ok prs c5
  obtain⟨a0,a1,a2,a3⟩:=g pr aU
  exact⟨a0,by rw[ak];omega,by unfold Sm;omega⟩
 have lF:kK (ws.map some):=fun x hx=>by
  obtain⟨y,hy,e⟩:=bW.mp hx
  cases e
  obtain⟨a0,a1⟩:=hws x hy
  unfold Sm;omega
 walk_at "dt"
 refine Ev.aV Ga ?_
 walk_at "dt"
 refine Ev.aV z7 ?_
 walk_at "dt"
 refine⟨rfl,p,n,cs,rfl,hN,fun f0=>?_⟩
 walk_at "dt"
 refine Ev.aV vf ?_
 walk_at "dt"
 refine⟨rfl,p,n,cs,ws.map some,by show[_,_]=_;rw[nM],by omega,by omega,nK,lF,?_⟩
 rw[t6]
 walk_at "dt"
 refine⟨rfl,p,n,cs,ws,rfl,hN,hwl,hws,?_⟩
 refine Gv.name ?_
 walk_at "dt"
 refine Ev.aV Ig ?_
 walk_at "dt"
 refine⟨rfl,ws,_,rfl,by omega,fun t ht=>?_,?_⟩
 ·obtain⟨i,hi,e1,_⟩:=sq ht
  omega
 walk_at "dt"
 exact q
def vK:DF:=fun ds Φ=>∃(ss:List Int),ds=[.list (ss.map .int)]/\ss.length<=9000/\Φ true (.int (ss.countP fun s=>decide (s≠0):Nat))
theorem IF:cO vK:=by
 intro ds Φ Ψ hm z
 obtain⟨ss,e,h1,q⟩:=hm
 exact⟨ss,e,h1,z _ _ q⟩
theorem Tf:cz ["reached"] ["reached"] (aN uY):=⟨rfl,rfl,rfl,by decide+kernel,rfl,by decide+kernel,by decide+kernel⟩
theorem UQ(F:bL K "broken_of" "broken_of" uY f fd)(bf:mg "len"=none):
  bG P w K mg base bN 1 f fd ["reached"] (aS 1 vK):=by
 refine F.ok Tf (fun vs H Q E h=>h.1) (fun cdv A outer s H vs Q E hr h=>?_)
 obtain⟨nb,ds,Φ,hlive,hds,aD,hF⟩:=fc h
 obtain⟨ss,rfl,hl,q⟩:=hF
 refine⟨_,(@aE _ _ _ (@aZ _ _ _ _ (@bE _ _ _ _ _ _ _ _ (dg K) dU rfl bf dP (@aa _ _ _ _ _ (fV (cQ.of (show eS (aN uY) ["reached"] _ ["number"] [none]=true by decide+kernel)) (@fy _ _ _ _ (pv 0)) (fun _ _ _ _=>⟨(aR (i:=0) (by show List.Nodup (["number"]:List Str);decide+kernel) rfl (Or.inl rfl)),(pZ (@bF _ _ _ _ _ _ _ _ jL (pv 0) ai (br _))),(pv 0)⟩)) af rfl) (by decide) (by decide) (by rfl) (by rfl)))),?_⟩
 refine Sv.fj hlive hds aD (ρ:=[.d false _]) rfl ?_
 clear aD hds
 walk_at "dt"
 refine aG.ev (aG.iY (by decide) rfl ?_)
 walk_at "dt"
 refine⟨by rw[ak];omega,fun v=>⟨false,fun i ds=>ds.length=(ss.take i).countP fun s=>decide (s≠0),rfl,?_,?_⟩⟩
 ·rintro i d ds hd hl' hds
  obtain⟨s,hs,rfl⟩:=fK hd
  have hts:=take_snoc hs
  walk_at "dt"
  refine⟨by walk_at "wk",?_⟩
  walk_at "dt"
  by_cases c:s=0
  ·rw[if_neg (by simp[c])]
   show ds.length=(ss.take (i+1)).countP _
   rw[hds,hts,lq,qW,if_neg (by simp[c])]
   rfl
  ·rw[if_pos (by simp[c])]
   walk_at "dt"
   show(ds++[_]).length=(ss.take (i+1)).countP _
   rw[bP,fE,hds,hts,lq,qW,if_pos (by simp[c])]
 ·rintro ds hl' hds
  rw[ak,gb] at hds
  refine⟨ds, .inl rfl,?_⟩
  rw[hds]
  walk_at "dt"
  exact q
def Cb:DF:=fun ds Φ=>∃(p n:Int) (cs:List aq) (ws:List Int) (m:Nat),ds=[cL p n cs,bO ws, .int m]/\eY p n cs/\m<=5000/\ws.length=n.toNat/\(∀x∈ws,0<=x/\x<p)/\Φ true (lE (cC p cs n.toNat m ws))
theorem A0:cO Cb:=by
 intro ds Φ Ψ hm z
 obtain⟨p,n,cs,ws,m,e,h1,h2,h3,h4,q⟩:=hm
 exact⟨p,n,cs,ws,m,e,h1,h2,h3,h4,z _ _ q⟩
theorem nU:cz ["net","word","most","found","told","rounds","reached","turns"] ["net","word","most"] (aN wz):=⟨rfl,rfl,rfl,by decide+kernel,rfl,by decide+kernel,by decide+kernel⟩
theorem Pr(F:bL K "voted" "voted" wz f fd)(qY:Callee P w K mg base "all_voices" 3 ["net"] (aS 1 qo))(nE:Callee P w K mg base "sums" 3 ["net","word"] (aS 2 pN))(Ce:Callee P w K mg base "turns_of" 2 ["p","found","reached","word"] (aS 4 sC))(yy:Callee P w K mg base "with_turns" 1 ["word","turns"] (aS 2 uW))(AF:Callee P w K mg base "broken_of" 1 ["reached"] (aS 1 vK))(bS:mg "list"=none)(bf:mg "len"=none):
  bG P w K mg base bN 4 f fd ["net","word","most"] (aS 3 Cb):=by
 refine F.ok nU (fun vs H Q E h=>h.1) (fun cdv A outer s H vs Q E hr h=>?_)
 obtain⟨nb,ds,Φ,hlive,hds,aD,hF⟩:=fc h
 obtain⟨p,n,cs,ws,m,rfl,hN,hm,hwl,hws,q⟩:=hF
 refine⟨_,(@ao _ _ _ _ _ (@aC _ _ (3) _ _ _ _ nU.nd rfl (Or.inl rfl) (@aF _ _ _ _ _ _ _ _ _ _ qY (hr.mono (by decide)) (@aa _ _ _ _ _ (pv 0) af rfl) (by rfl) (by decide) (by rfl) (by rfl)) (by rfl) (by first|exact .inl rfl|exact .inr rfl|assumption)) (@ao _ _ _ _ _ (@aC _ _ (4) _ _ _ _ nU.nd rfl (Or.inl rfl) (@fS _ _ _ _ _ _ _ _ (gR K) iW rfl bS gv (@aa _ _ _ _ _ (pv 1) af rfl) (by decide) (by decide) (by rfl) (by rfl)) (by rfl) (by first|exact .inl rfl|exact .inr rfl|assumption)) (@ao _ _ _ _ _ (@aC _ _ (5) _ _ _ _ nU.nd rfl (Or.inl rfl) (@dM _ _ _ _ af) (by rfl) (by first|exact .inl rfl|exact .inr rfl|assumption)) (@aE _ _ _ (@uB _ _ _ _ _ _ eU (@kE _ (K) _ _ rfl jG (fun _=>rfl)) (@ao _ _ _ _ _ (@aC _ _ (6) _ _ _ _ nU.nd rfl (Or.inl rfl) (@aF _ _ _ _ _ _ _ _ _ _ nE (hr.mono (by decide)) (@aa _ _ _ _ _ (pv 0) (@aa _ _ _ _ _ (pv 4) af rfl) rfl) (by rfl) (by decide) (by rfl) (by rfl)) (by rfl) (by first|exact .inl rfl|exact .inr rfl|assumption)) (@ao _ _ _ _ _ (@dj _ _ _ _ _ _ _ _ (@bF _ _ _ _ _ _ _ _ iG (@aF _ _ _ _ _ _ _ _ _ _ AF (hr.mono (by decide)) (@aa _ _ _ _ _ (pv 6) af rfl) (by rfl) (by decide) (by rfl) (by rfl)) ai (br _)) (@aE _ _ _ (@aZ _ _ _ _ (@cy _ _ _ _ _ (@aa _ _ _ _ _ (pv 4) (@aa _ _ _ _ _ (pv 5) (@aa _ _ _ _ _ (@cy _ _ _ _ _ (@aa _ _ _ _ _ lY af rfl)) af rfl) rfl) rfl)))) dX) (@ao _ _ _ _ _ (@dj _ _ _ _ _ _ _ _ (@bF _ _ _ _ _ _ _ _ Jg (@bE _ _ _ _ _ _ _ _ (dg K) dU rfl bf dP (@aa _ _ _ _ _ (pv 5) af rfl) (by decide) (by decide) (by rfl) (by rfl)) (pv 2) (br _)) (@aE _ _ _ (@aZ _ _ _ _ (@cy _ _ _ _ _ (@aa _ _ _ _ _ (pv 4) (@aa _ _ _ _ _ (pv 5) (@aa _ _ _ _ _ (@cy _ _ _ _ _ (@aa _ _ _ _ _ lY af rfl)) af rfl) rfl) rfl)))) dX) (@ao _ _ _ _ _ (@aC _ _ (7) _ _ _ _ nU.nd rfl (Or.inl rfl) (@aF _ _ _ _ _ _ _ _ _ _ Ce (hr.mono (by decide)) (@aa _ _ _ _ _ (@au _ _ _ _ _ _ (aL K) aO (pv 0) ai (fun _ _=>rfl)) (@aa _ _ _ _ _ (pv 3) (@aa _ _ _ _ _ (pv 6) (@aa _ _ _ _ _ (pv 4) af rfl) rfl) rfl) rfl) (by rfl) (by decide) (by rfl) (by rfl)) (by rfl) (by first|exact .inl rfl|exact .inr rfl|assumption)) (@ao _ _ _ _ _ (@dj _ _ _ _ _ _ _ _ (@bF _ _ _ _ _ _ _ _ (rJ hr.units) (pv 7) (@dM _ _ _ _ af) (br _)) (@aE _ _ _ (@aZ _ _ _ _ (@cy _ _ _ _ _ (@aa _ _ _ _ _ (pv 4) (@aa _ _ _ _ _ (pv 5) (@aa _ _ _ _ _ (@cy _ _ _ _ _ (@aa _ _ _ _ _ lY af rfl)) af rfl) rfl) rfl)))) dX) (@ao _ _ _ _ _ (@aC _ _ (4) _ _ _ _ nU.nd rfl (Or.inl rfl) (@aF _ _ _ _ _ _ _ _ _ _ yy (hr.mono (by decide)) (@aa _ _ _ _ _ (pv 4) (@aa _ _ _ _ _ (pv 7) af rfl) rfl) (by rfl) (by decide) (by rfl) (by rfl)) (by rfl) (by first|exact .inl rfl|exact .inr rfl|assumption)) (@aE _ _ _ (@jY _ _ _ _ (jm j4 kG j6 jO (pv 5) (@aa _ _ _ _ _ (pv 7) af rfl)) (by rfl)))))))))))))),?_⟩
 refine Sv.fj hlive hds aD (ρ:=[.d false _, .d false _, .d false _, .no, .no, .no, .no, .no]) rfl ?_
 clear aD hds
 have p2:=hN.hp.1
 have fP:=hN.fP
 have n0:=hN.n0
 have n1:=hN.n1
 have hcl:=hN.cl
 walk_at "dt"
 refine Ev.aV z7 ?_
 walk_at "dt"
 refine⟨rfl,p,n,cs,rfl,hN,fun f0=>?_⟩
 refine Gv.k8 ?_
 refine Sv.seq ?_
 refine Sv.asg ?_
 generalize xW:(fG 4:TG)=g4
 walk_at "dt"
 subst xW
 rw[tS,rj]
 refine Gv.name ?_
 walk_at "dt"
 intro A5
 obtain⟨wf,hwf⟩:∃wf,(cC p cs n.toNat m ws).1=wf:=⟨_,rfl⟩
 obtain⟨rf,D8⟩:∃rf,(cC p cs n.toNat m ws).2.1=rf:=⟨_,rfl⟩
 obtain⟨ef,hef⟩:∃ef,(cC p cs n.toNat m ws).2.2=ef:=⟨_,rfl⟩
 have q:Φ true (lE (wf,rf,ef)):=by rw[<-hwf,<-D8,<-hef];exact q
 refine Sv.Cv (fun ρ=>∃(w:List Int) (st:List (List cH)) (k:Nat) (x6 x7:Sl),w.length=n.toNat/\(∀x∈w,0<=x/\x<p)/\(cC p cs n.toNat k w).1=wf/\st++(cC p cs n.toNat k w).2.1=rf/\(cC p cs n.toNat k w).2.2=ef/\st.length+k=m/\ρ=[.d false (cL p n cs), .d false (bO ws), .d false (.int m), .d false (.dict ((jM p cs n.toNat).map bZ)), .d true (bO w), .own A5 true (st.map fF),x6,x7]) (fun(ρ:Rh)=>match ρ[5]? with|some (Sl.own _ _ ds)=>m-ds.length|_=>0) ⟨ws,[],m,_,_,hwl,hws,hwf,D8,hef,by simp,rfl⟩ ?_
 rintro ρ' ⟨w,st,k,x6,x7,hl,hr,h1,h2,h3,h4,rfl⟩
 have nM:bO w=kU (w.map some):=by show PyData.list _=PyData.list _;rw[dz];rfl
 have nK:∀prs∈cs,l8 prs (w.map some).length:=fun prs c5 pr aU=>by
  obtain⟨_,_,g⟩:=hN.ok prs c5
  obtain⟨a0,a1,a2,a3⟩:=g pr aU
  exact⟨a0,by rw[ak];omega,by unfold Sm;omega⟩
 have lF:kK (w.map some):=fun x hx=>by
  obtain⟨y,hy,e⟩:=bW.mp hx
  cases e
  obtain⟨a0,a1⟩:=hr x hy
  unfold Sm;omega
 walk_at "dt"
 refine Ev.aV vf ?_
 walk_at "dt"
 refine⟨rfl,p,n,cs,w.map some,by show[_,_]=_;rw[nM],by omega,by omega,nK,lF,?_⟩
 rw[t6]
 walk_at "dt"
 refine Ev.aV IF ?_
 walk_at "dt"
 refine⟨rfl,_,rfl,by unfold cY;rw[ak];omega,?_⟩
 rw[LV]
 walk_at "dt"
 by_cases c1:brk p cs w=0
 ·rw[if_pos (by simpa using c1)]
  rw[gF c1] at h1 h2 h3
  rw[ig] at h2
  dsimp only at h1 h3
  subst h1 h2 h3
  refine Sv.lD 5 rfl ?_
  walk_at "dt"
  exact q
 rw[if_neg (by simpa using c1)]
 walk_at "dt"
 rw[ak]
 by_cases c2:k=0
 ·subst c2
  rw[if_pos (by simp;omega)]
  rw[jP c1] at h1 h2 h3
  rw[ig] at h2
  dsimp only at h1 h3
  subst h1 h2 h3
  refine Sv.lD 5 rfl ?_
  walk_at "dt"
  exact q
 rw[if_neg (by simp;omega)]
 obtain⟨k,rfl⟩:∃k',k=k'+1:=⟨k-1,by omega⟩
 walk_at "dt"
 refine Ev.aV Ga ?_
 walk_at "dt"
 refine⟨rfl,p,n,cs,w,rfl,hN,hl,hr,?_⟩
 refine Gv.name ?_
 obtain⟨ts,hts⟩:∃ts,aP p cs w n.toNat=ts:=⟨_,rfl⟩
 rw[hts]
 walk_at "dt"
 refine⟨RL ts,QT,_,rfl,?_⟩
 rw[pW,Uh]
 by_cases c3:ts=[]
 ·have c4:=hts
  rw[c3] at c4
  rw[kI c1 c4] at h1 h2 h3
  rw[ig] at h2
  dsimp only at h1 h3
  subst h1 h2 h3
  subst c3
  rw[if_pos (by simp)]
  refine Sv.lD 5 rfl ?_
  walk_at "dt"
  exact q
 rw[if_neg (by simpa using c3)]
 rw[om c1 (by rw[hts];exact c3),hts] at h1 h2 h3
 dsimp only at h1 h2 h3
 have hrd:=t8 (cs:=cs) (by omega) hl hr
 rw[hts] at hrd
 refine Sv.next ?_
 refine Sv.seq ?_
 refine Sv.asg ?_
 generalize xW:(fG 4:TG)=g4
 refine Ev.aV Ig ?_
 walk_at "dt"
 refine⟨rfl,w,ts,rfl,by omega,fun t ht=>?_,?_⟩
 ·rw[<-hts] at ht
  obtain⟨i,hi,e1,_⟩:=sq ht
  omega
 subst xW
 refine Gv.name ?_
 walk_at "dt"
 refine⟨by rw[ak];omega,?_⟩
 refine⟨⟨cA w ts,st++[ts],k, .d false (.list ((cY p cs w).map .int)), .d true (.list (ts.map bu)),hrd.1,hrd.2,h1,by rw[jd];exact h2,h3,by rw[bP,fE];omega,by rw[cN];rfl⟩,?_⟩
 show m-(List.map fF st++[_]).length<m-(List.map fF st).length
 rw[bP,fE,ak]
 omega
def oV:Option (Int×Int×Int)->PyData
 |none=> .none
 |some t=>bu t
def zh:DF:=fun ds Φ=>∃(p n:Int) (cs:List aq) (ws:List Int),ds=[cL p n cs, .dict ((jM p cs n.toNat).map bZ),bO ws]/\eY p n cs/\cs.length<=62/\ws.length=n.toNat/\(∀x∈ws,0<=x/\x<p)/\Φ true (oV (bK p cs ws n.toNat).2)
theorem G9:cO zh:=by
 intro ds Φ Ψ hm z
 obtain⟨p,n,cs,ws,e,h1,h2,h3,h4,q⟩:=hm
 exact⟨p,n,cs,ws,e,h1,h2,h3,h4,z _ _ q⟩
theorem jw:cz ["net","found","word","reached","before","fewest","best","place","old","counts","letter","behind"] ["net","found","word"] (aN yW):=⟨rfl,rfl,rfl,by decide+kernel,rfl,by decide+kernel,by decide+kernel⟩
theorem NG(F:bL K "calming" "calming" yW f fd)(nE:Callee P w K mg base "sums" 3 ["net","word"] (aS 2 pN))(AF:Callee P w K mg base "broken_of" 1 ["reached"] (aS 1 vK))(qL:Callee P w K mg base "counts_of" 1 ["p","there","reached","letter"] (aS 4 qP))(kM:mg "enumerate"=none)(jj:mg "sorted"=none):
  bG P w K mg base bN 4 f fd ["net","found","word"] (aS 3 zh):=by
 refine F.ok jw (fun vs H Q E h=>h.1) (fun cdv A outer s H vs Q E hr h=>?_)
 obtain⟨nb,ds,Φ,hlive,hds,aD,hF⟩:=fc h
 obtain⟨p,n,cs,ws,rfl,hN,vg,hwl,hws,q⟩:=hF
 refine⟨_,(@ao _ _ _ _ _ (@aC _ _ (3) _ _ _ _ jw.nd rfl (Or.inl rfl) (@aF _ _ _ _ _ _ _ _ _ _ nE (hr.mono (by decide)) (@aa _ _ _ _ _ (pv 0) (@aa _ _ _ _ _ (pv 2) af rfl) rfl) (by rfl) (by decide) (by rfl) (by rfl)) (by rfl) (by first|exact .inl rfl|exact .inr rfl|assumption)) (@ao _ _ _ _ _ (@aC _ _ (4) _ _ _ _ jw.nd rfl (Or.inl rfl) (@aF _ _ _ _ _ _ _ _ _ _ AF (hr.mono (by decide)) (@aa _ _ _ _ _ (pv 3) af rfl) (by rfl) (by decide) (by rfl) (by rfl)) (by rfl) (by first|exact .inl rfl|exact .inr rfl|assumption)) (@ao _ _ _ _ _ (@aC _ _ (5) _ _ _ _ jw.nd rfl (Or.inl rfl) (pv 4) (by rfl) (by first|exact .inl rfl|exact .inr rfl|assumption)) (@ao _ _ _ _ _ (@aC _ _ (6) _ _ _ _ jw.nd rfl (Or.inl rfl) lQ (by rfl) (by first|exact .inl rfl|exact .inr rfl|assumption)) (@ao _ _ _ _ _ (@fW _ _ _ _ _ _ _ _ eU rfl (@vY _ (K) _ _ _ _ _ _ _ rfl rfl kM (pv 2) (by rfl)) (@iF _ (K) _ _ _ (2) _ rfl rfl (@cG _ _ _ _ _ (aR (i:=7) jw.nd rfl (Or.inl rfl)) (@cG _ _ _ _ _ (aR (i:=8) jw.nd rfl (Or.inl rfl)) iC (by rfl)) (by rfl)) (by rfl) (by rfl)) (@ao _ _ _ _ _ (@aC _ _ (9) _ _ _ _ jw.nd rfl (Or.inl rfl) (@aF _ _ _ _ _ _ _ _ _ _ qL (hr.mono (by decide)) (@aa _ _ _ _ _ (@au _ _ _ _ _ _ (aL K) aO (pv 0) ai (fun _ _=>rfl)) (@aa _ _ _ _ _ (@au _ _ _ _ _ _ (jr) mj (pv 1) (pv 7) (fun _ _=>rfl)) (@aa _ _ _ _ _ (pv 3) (@aa _ _ _ _ _ (pv 8) af rfl) rfl) rfl) rfl) (by rfl) (by decide) (by rfl) (by rfl)) (by rfl) (by first|exact .inl rfl|exact .inr rfl|assumption)) (@aE _ _ _ (@fW _ _ _ _ _ _ _ _ eU rfl (@fy _ _ _ _ (@bE _ _ _ _ _ _ _ _ (vM) (DM rfl) rfl jj tu (@aa _ _ _ _ _ (pv 9) af rfl) (by decide) (by decide) (by rfl) (by rfl))) (aR (i:=10) jw.nd rfl (Or.inl rfl)) (@ao _ _ _ _ _ (@aC _ _ (11) _ _ _ _ jw.nd rfl (Or.inl rfl) (@aB _ _ _ _ _ _ _ _ gc (@aB _ _ _ _ _ _ _ _ cS (pv 4) (jm HR Cr C3 Ed (pv 9) (@aa _ _ _ _ _ (pv 8) (@aa _ _ _ _ _ ai af rfl) rfl))) (@au _ _ _ _ _ _ (jr) mj (pv 9) (pv 10) (fun _ _=>rfl))) (by rfl) (by first|exact .inl rfl|exact .inr rfl|assumption)) (@aE _ _ _ (@dj _ _ _ _ _ _ _ _ (@bF _ _ _ _ _ _ _ _ lA (pv 11) (pv 5) (br _)) (@ao _ _ _ _ _ (@aC _ _ (5) _ _ _ _ jw.nd rfl (Or.inl rfl) (pv 11) (by rfl) (by first|exact .inl rfl|exact .inr rfl|assumption)) (@aE _ _ _ (@aC _ _ (6) _ _ _ _ jw.nd rfl (Or.inl rfl) (@cy _ _ _ _ _ (@aa _ _ _ _ _ (pv 7) (@aa _ _ _ _ _ (pv 10) (@aa _ _ _ _ _ (pv 11) af rfl) rfl) rfl)) (by rfl) (by first|exact .inl rfl|exact .inr rfl|assumption)))) dX))) (by intro _;rfl)))) (by intro _;rfl)) (@aE _ _ _ (@aZ _ _ _ _ (pv 6)))))))),?_⟩
 refine Sv.fj hlive hds aD (ρ:=[.d false _, .d false _, .d false _, .no, .no, .no, .no, .no, .no, .no, .no, .no]) rfl ?_
 clear aD hds
 have p2:=hN.hp.1
 have fP:=hN.fP
 have n0:=hN.n0
 have n1:=hN.n1
 have hcl:=hN.cl
 have nV:(ws.map PyData.int).length=ws.length:=ak ..
 have nM:bO ws=kU (ws.map some):=by show PyData.list _=PyData.list _;rw[dz];rfl
 have nK:∀prs∈cs,l8 prs (ws.map some).length:=fun prs c5 pr aU=>by
  obtain⟨_,_,g⟩:=hN.ok prs c5
  obtain⟨a0,a1,a2,a3⟩:=g pr aU
  exact⟨a0,by rw[ak];omega,by unfold Sm;omega⟩
 have lF:kK (ws.map some):=fun x hx=>by
  obtain⟨y,hy,e⟩:=bW.mp hx
  cases e
  obtain⟨a0,a1⟩:=hws x hy
  unfold Sm;omega
 have hsl:(cY p cs ws).length=cs.length:=by unfold cY;exact ak ..
 have xR:∀s∈cY p cs ws,0<=s/\s<p:=fun s hs=>by
  unfold cY at hs
  obtain⟨prs,_,rfl⟩:=bW.mp hs
  exact⟨gJ _ (by omega),gy _ (by omega)⟩
 have Nj:(cY p cs ws).countP (fun s=>decide (s≠0))=brk p cs ws:=by unfold cY brk;rw[rW];rfl
 walk_at "dt"
 refine Ev.aV vf ?_
 walk_at "dt"
 refine⟨rfl,p,n,cs,ws.map some,by show[_,_]=_;rw[nM],by omega,by omega,nK,lF,?_⟩
 rw[t6]
 refine Gv.name ?_
 walk_at "dt"
 refine Ev.aV IF ?_
 walk_at "dt"
 refine⟨rfl,_,rfl,by omega,?_⟩
 rw[Nj]
 walk_at "dt"
 refine Sv.AG ?_
 walk_at "dt"
 refine fun v=>⟨fun i ρ=>∃(x7 x8 x9 mL mW:Sl),ρ=[.d false (cL p n cs), .d false (.dict ((jM p cs n.toNat).map bZ)), .d false (bO ws), .d (true||iM [(false,cL p n cs),(false,bO ws)]) (.list ((cY p cs ws).map .int)), .d true (.int (brk p cs ws)), .d true (.int (bK p cs ws i).1), .d true (oV (bK p cs ws i).2),x7,x8,x9,mL,mW],⟨_,_,_,_,_,rfl⟩,?_,?_⟩
 ·rintro i d ρ ⟨e,he,rfl⟩ ⟨x7,x8,x9,mL,mW,rfl⟩
  obtain⟨old,hold,rfl⟩:=fK he
  have hil:=(bQ.mp hold).1
  have hin:i<n.toNat:=by omega
  have hval:=EG (p:=p) (cs:=cs) hin
  have hog:ws.getD i 0=old:=by rw[eO,hold];rfl
  have hvl:=oG (p:=p) (cs:=cs) (pl:=(i:Int)) cs.length
  have eL:(dQ p cs (i:Int) cs.length).map (fun q=>(old-(cY p cs ws).getD q.1.toNat 0*q.2)%p)=bw p cs ws (i:Int):=by
   unfold bw
   apply fQ
   intro qq hq
   obtain⟨c,prs,ff,e1,e2,e3,rfl⟩:=mU (aI _) hq
   dsimp only
   rw[eT,eT,zf c e2,hog]
  walk_at "dt"
  refine Ev.aV Cc ?_
  walk_at "dt"
  refine Ev.n6 ?_
  walk_at "dt"
  refine⟨_,rfl,?_⟩
  walk_at "dt"
  refine⟨_,hval,?_⟩
  walk_at "dt"
  refine⟨rfl,p,old,dQ p cs (i:Int) cs.length,cY p cs ws,rfl,by omega,fP,by omega,fun qq hq=>?_,xR,fun ks hK k9=>?_⟩
  ·obtain⟨c,prs,ff,e1,e2,e3,rfl⟩:=mU (aI _) hq
   have hr:=vJ (p:=p) (b:=ff) (a:=1) (by omega)
   exact⟨by show(0:Int)<=c;omega,by show(c:Int)<_;omega,hr.1,hr.2⟩
  rw[eL] at hK
  have Gz:=hK.get old
  obtain⟨ms,nd,hm,rfl⟩:=id hK
  rw[ak] at k9
  obtain⟨VL,kY⟩:∃VL,bw p cs ws (i:Int)=VL:=⟨_,rfl⟩
  have wL:=fun x x0 x1=>UL (p:=p) (cs:=cs) (ws:=ws) (pl:=i) (x:=x) hN.hp (fun prs c5=>by rw[hwl];exact hN.ok prs c5) hil hws x0 x1
  have G8:∀x∈VL,0<=x/\x<p:=by rw[<-kY];exact pT (by omega)
  rw[hog] at wL
  rw[kY] at hm wL Gz
  simp only[kY]
  refine Gv.name ?_
  refine Sv.forL ?_
  refine aG.ev (aG.CG ?_)
  walk_at "dt"
  refine⟨_,rfl,by rw[ak];omega,fun rs hrs dR=>?_⟩
  rw[dz,show((fun(x:Int×PyData)=>x.1)∘fun c=>(c,PyData.int (VL.count c)))=id from rfl,zc] at dR
  have hrnd:rs.Nodup:=dR.nodup_iff.mpr nd
  have xV:rs.Pairwise (· < ·):=(hrs.and hrnd).imp fun⟨x,y⟩=>by omega
  have wB:rs=je p cs ws i:=Uy xV fun k=>by rw[dR.mem_iff,hm k,kY]
  have hrm:(rs.map PyData.int).length=rs.length:=ak ..
  refine⟨_,rfl,fun v=>⟨fun j ρ=>∃(mL mW:Sl),ρ=[.d false (cL p n cs), .d false (.dict ((jM p cs n.toNat).map bZ)), .d false (bO ws), .d (true||iM [(false,cL p n cs),(false,bO ws)]) (.list ((cY p cs ws).map .int)), .d true (.int (brk p cs ws)), .d true (.int (gG p cs ws i (bK p cs ws i) (rs.take j)).1), .d true (oV (gG p cs ws i (bK p cs ws i) (rs.take j)).2), .d true (.int i), .d true (.int old), .d true (.dict ((ms.map fun c=>(c,PyData.int (VL.count c))).map bZ)),mL,mW],⟨_,_,rfl⟩,?_,?_⟩⟩
  ·rintro j d ρ hd ⟨mL,mW,rfl⟩
   obtain⟨x,hx,rfl⟩:=fK hd
   have l9:x∈ms:=dR.mem_iff.mp (eK hx)
   obtain⟨x0,x1⟩:=G8 x ((hm x).mp l9)
   have hpx:=wL x x0 x1
   have hts:=take_snoc hx
   have hst:gG p cs ws i (bK p cs ws i) (rs.take (j+1))=iI p cs ws i (gG p cs ws i (bK p cs ws i) (rs.take j)) x:=by rw[hts,RZ]
   obtain⟨S,hS⟩:∃S,gG p cs ws i (bK p cs ws i) (rs.take j)=S:=⟨_,rfl⟩
   rw[hS] at hst⊢
   have Ut:(brk p cs ws:Int)+VL.count old-VL.count x=brk p cs (ws.set i x):=hpx.symm
   refine Gv.qu ?_
   walk_at "dt"
   refine Ev.S7 ?_
   walk_at "dt"
   refine⟨_,rfl,?_⟩
   walk_at "dt"
   rw[Gz]
   walk_at "dt"
   refine Ev.n6 ?_
   walk_at "dt"
   refine⟨_,rfl,?_⟩
   walk_at "dt"
   refine⟨_,by rw[ou,if_pos l9],?_⟩
   walk_at "dt"
   rw[Ut]
   walk_at "dt"
   by_cases c:(brk p cs (ws.set i x):Int)<S.1
   ·rw[if_pos (by simpa using c)]
    generalize iR:(iJ (oF _) (fG 6):TS)=tl
    walk_at "dt"
    subst iR
    refine Sv.asg ?_
    generalize Lo:(fG 6:TG)=g6
    walk_at "dt"
    subst Lo
    refine Gv.name ?_
    refine⟨.d true (.int x), .d true (.int (brk p cs (ws.set i x))),?_⟩
    rw[hst]
    unfold iI
    rw[if_pos c]
    rfl
   ·rw[if_neg (by simpa using c)]
    walk_at "dt"
    refine⟨.d true (.int x), .d true (.int (brk p cs (ws.set i x))),?_⟩
    rw[hst]
    unfold iI
    rw[if_neg c]
    rfl
  ·rintro ρ ⟨mL,mW,rfl⟩
   rw[hrm,gb]
   have hts:gG p cs ws i (bK p cs ws i) rs=bK p cs ws (i+1):=by rw[nD,<-wB]
   rw[hts]
   exact⟨_,_,_,_,_,rfl⟩
 ·rintro ρ ⟨x7,x8,x9,mL,mW,rfl⟩
  rw[nV,hwl]
  walk_at "dt"
  exact q
def zT:DF:=fun ds Φ=>∃(p n:Int) (cs:List aq) (ws:List Int),ds=[cL p n cs,bO ws]/\eY p n cs/\cs.length<=62/\ws.length=n.toNat/\(∀x∈ws,0<=x/\x<p)/\Φ true (.tuple [bO (runC p cs n.toNat cs.length ws).1, .list ((runC p cs n.toNat cs.length ws).2.map bu)])
theorem yh:cO zT:=by
 intro ds Φ Ψ hm z
 obtain⟨p,n,cs,ws,e,h1,h2,h3,h4,q⟩:=hm
 exact⟨p,n,cs,ws,e,h1,h2,h3,h4,z _ _ q⟩
theorem NL(o:Option (Int×Int×Int)):p5 (oV o)=o.isNone:=by cases o<;>rfl
theorem pK:cz ["net","word","found","told","steps","step"] ["net","word"] (aN zw):=⟨rfl,rfl,rfl,by decide+kernel,rfl,by decide+kernel,by decide+kernel⟩
theorem Ud(F:bL K "calmed" "calmed" zw f fd)(qY:Callee P w K mg base "all_voices" 3 ["net"] (aS 1 qo))(Ij:Callee P w K mg base "calming" 4 ["net","found","word"] (aS 3 zh))(bS:mg "list"=none):
  bG P w K mg base bN 5 f fd ["net","word"] (aS 2 zT):=by
 refine F.ok pK (fun vs H Q E h=>h.1) (fun cdv A outer s H vs Q E hr h=>?_)
 obtain⟨nb,ds,Φ,hlive,hds,aD,hF⟩:=fc h
 obtain⟨p,n,cs,ws,rfl,hN,vg,hwl,hws,q⟩:=hF
 refine⟨_,(@ao _ _ _ _ _ (@aC _ _ (2) _ _ _ _ pK.nd rfl (Or.inl rfl) (@aF _ _ _ _ _ _ _ _ _ _ qY (hr.mono (by decide)) (@aa _ _ _ _ _ (pv 0) af rfl) (by rfl) (by decide) (by rfl) (by rfl)) (by rfl) (by first|exact .inl rfl|exact .inr rfl|assumption)) (@ao _ _ _ _ _ (@aC _ _ (3) _ _ _ _ pK.nd rfl (Or.inl rfl) (@fS _ _ _ _ _ _ _ _ (gR K) iW rfl bS gv (@aa _ _ _ _ _ (pv 1) af rfl) (by decide) (by decide) (by rfl) (by rfl)) (by rfl) (by first|exact .inl rfl|exact .inr rfl|assumption)) (@ao _ _ _ _ _ (@aC _ _ (4) _ _ _ _ pK.nd rfl (Or.inl rfl) (@dM _ _ _ _ af) (by rfl) (by first|exact .inl rfl|exact .inr rfl|assumption)) (@ao _ _ _ _ _ (@aC _ _ (5) _ _ _ _ pK.nd rfl (Or.inl rfl) (@aF _ _ _ _ _ _ _ _ _ _ Ij (hr.mono (by decide)) (@aa _ _ _ _ _ (pv 0) (@aa _ _ _ _ _ (pv 2) (@aa _ _ _ _ _ (pv 3) af rfl) rfl) rfl) (by rfl) (by decide) (by rfl) (by rfl)) (by rfl) (by first|exact .inl rfl|exact .inr rfl|assumption)) (@ao _ _ _ _ _ (@uB _ _ _ _ _ _ eU (@bF _ _ _ _ _ _ _ _ tW (pv 5) lQ (br _)) (@ao _ _ _ _ _ (@jx _ _ _ _ _ _ (@au _ _ _ _ _ _ (aL K) aO (pv 5) ai (fun _ _=>rfl)) (lT (pv 3) (@au _ _ _ _ _ _ (aL K) aO (pv 5) ai (fun _ _=>rfl)) set_list) (by rfl) (by rfl) (by rfl)) (@ao _ _ _ _ _ (@jY _ _ _ _ (jm j4 kG j6 jO (pv 4) (@aa _ _ _ _ _ (pv 5) af rfl)) (by rfl)) (@aE _ _ _ (@aC _ _ (5) _ _ _ _ pK.nd rfl (Or.inl rfl) (@aF _ _ _ _ _ _ _ _ _ _ Ij (hr.mono (by decide)) (@aa _ _ _ _ _ (pv 0) (@aa _ _ _ _ _ (pv 2) (@aa _ _ _ _ _ (pv 3) af rfl) rfl) rfl) (by rfl) (by decide) (by rfl) (by rfl)) (by rfl) (by first|exact .inl rfl|exact .inr rfl|assumption)))))) (@aE _ _ _ (@aZ _ _ _ _ (@cy _ _ _ _ _ (@aa _ _ _ _ _ (pv 3) (@aa _ _ _ _ _ (pv 4) af rfl) rfl))))))))),?_⟩
 refine Sv.fj hlive hds aD (ρ:=[.d false _, .d false _, .no, .no, .no, .no]) rfl ?_
 clear aD hds
 have p2:=hN.hp.1
 have n0:=hN.n0
 have n1:=hN.n1
 walk_at "dt"
 refine Ev.aV z7 ?_
 walk_at "dt"
 refine⟨rfl,p,n,cs,rfl,hN,fun f0=>?_⟩
 refine Gv.k8 ?_
 refine Sv.seq ?_
 refine Sv.w5 (aG.listOf ?_)
 walk_at "dt"
 intro A3
 rw[tS,rj]
 walk_at "dt"
 intro A4
 refine Sv.seq ?_
 refine Sv.asg ?_
 refine Ev.Es ?_
 refine jy.ES 3 rfl ?_
 refine jy.aV G9 ?_
 walk_at "dt"
 refine⟨rfl,p,n,cs,ws,rfl,hN,vg,hwl,hws,rfl,?_⟩
 refine Gv.name ?_
 refine Sv.seq ?_
 obtain⟨wf,hwf⟩:∃wf,(runC p cs n.toNat cs.length ws).1=wf:=⟨_,rfl⟩
 obtain⟨sf,E4⟩:∃sf,(runC p cs n.toNat cs.length ws).2=sf:=⟨_,rfl⟩
 rw[hwf,E4] at q
 refine Sv.Cv (fun ρ=>∃(w:List Int) (st:List (Int×Int×Int)) (k:Nat),w.length=n.toNat/\(∀x∈w,0<=x/\x<p)/\brk p cs w<=k/\(runC p cs n.toNat k w).1=wf/\st++(runC p cs n.toNat k w).2=sf/\st.length+k<=cs.length/\ρ=[.d false (cL p n cs), .d false (bO ws), .d false (.dict ((jM p cs n.toNat).map bZ)), .own A3 true (w.map .int), .own A4 true (st.map bu), .d true (oV (bK p cs w n.toNat).2)]) (fun(ρ:Rh)=>match ρ[4]? with|some (Sl.own _ _ ds)=>cs.length-ds.length|_=>0) ⟨ws,[],cs.length,hwl,hws,qA,hwf,E4,by simp,rfl⟩ ?_
 rintro ρ' ⟨w,st,k,hl,hr,hbk,h1,h2,h3,rfl⟩
 walk_at "dt"
 rw[NL]
 rcases o9 (p:=p) (cs:=cs) (ws:=w) (m:=n.toNat) (by omega) n.toNat (aI _) with ⟨e1,e2⟩|⟨j,y,hj,e,hlt,y0,y1⟩
 ·rw[e1]
  rw[jJ e1] at h1 h2
  rw[ig] at h2
  subst h1 h2
  rw[if_neg (by decide)]
  refine Sv.lD 3 rfl ?_
  refine Sv.lD 4 rfl ?_
  walk_at "dt"
  exact q
 ·have es:(bK p cs w n.toNat).2=some ((j:Int),y,(brk p cs (w.set j y):Int)):=by rw[e]
  obtain⟨k',rfl⟩:∃k',k=k'+1:=⟨k-1,by omega⟩
  rw[kg es] at h1 h2
  dsimp only at h1 h2
  rw[eT] at h1 h2
  rw[es]
  have hix:gV (w.map PyData.int).length (j:Int)=some j:=by
   unfold gV
   rw[ak]
   repeat (first|rw[if_pos (by omega)]|rw[if_neg (by omega)])
   simp
  walk_at "dt"
  rw[show oV (some ((j:Int),y,(brk p cs (w.set j y):Int)))=bu ((j:Int),y,(brk p cs (w.set j y):Int)) from rfl]
  generalize iR:(rD (tR _) _:TS)=tl
  walk_at "dt"
  refine⟨_,_,rfl,hix,?_⟩
  subst iR
  rw[<-yb]
  have hl2:(w.set j y).length=n.toNat:=by rw[fh];exact hl
  have hr2:∀x∈w.set j y,0<=x/\x<p:=fun x hx=>by
   rcases AY hx with z|z
   ·exact hr x z
   ·rw[z];exact⟨y0,y1⟩
  refine Sv.seq ?_
  refine Sv.append rfl ?_
  refine Ev.var rfl ?_
  refine⟨by rw[ak];omega,?_⟩
  refine Sv.asg ?_
  refine Ev.Es ?_
  refine jy.ES 3 rfl ?_
  refine jy.aV G9 ?_
  walk_at "dt"
  refine⟨rfl,p,n,cs,w.set j y,rfl,hN,vg,hl2,hr2,rfl,?_⟩
  refine Gv.name ?_
  refine⟨⟨w.set j y,st++[((j:Int),y,(brk p cs (w.set j y):Int))],k',hl2,hr2,by omega,h1,by rw[jd];exact h2,by rw[bP,fE];omega,by rw[cN];rfl⟩,?_⟩
  show cs.length-(List.map bu st++[_]).length<cs.length-(List.map bu st).length
  rw[bP,fE,ak]
  omega
theorem uM:cz ["script","stir","cell"] ["script"] (aN ua):=⟨rfl,rfl,rfl,by decide+kernel,rfl,by decide+kernel,by decide+kernel⟩
theorem MW(F:bL K "_law_bag" "_law_bag" ua f fd)(zg:mg "abs"=none):
  bG P w K mg base bN 1 f fd ["script"] (Fc K):=by
 refine F.ok uM (fun vs H Q E h=>?_) (fun cdv A outer s H vs Q E hr h=>?_)
 ·obtain⟨a,ns,rfl,hS,hl,q⟩:=h
  rfl
 obtain⟨a,ns,rfl,hS,hl,q⟩:=h
 refine⟨_,(@ao _ _ _ _ _ (@aC _ _ (1) _ _ _ _ uM.nd rfl (Or.inl rfl) ai (by rfl) (by first|exact .inl rfl|exact .inr rfl|assumption)) (@ao _ _ _ _ _ (@fW _ _ _ _ _ _ _ _ eU rfl (@fy _ _ _ _ (@nI _ _ _ _ _ _ _ _ _ _ m5 (pv 0) n9 (@m8 _ _ _ ai))) (aR (i:=2) uM.nd rfl (Or.inl rfl)) (@aE _ _ _ (@aC _ _ (1) _ _ _ _ uM.nd rfl (Or.inl rfl) (@aB _ _ _ _ _ _ _ _ iT (@aB _ _ _ _ _ _ _ _ cS (@aB _ _ _ _ _ _ _ _ cS (@aB _ _ _ _ _ _ _ _ gZ (pv 1) ai) (@aB _ _ _ _ _ _ _ _ iT (pv 2) ai)) ai) ai) (by rfl) (by first|exact .inl rfl|exact .inr rfl|assumption))) (by intro _;rfl)) (@aE _ _ _ (@aZ _ _ _ _ (@dM _ _ _ _ (@aa _ _ _ _ _ (fV (cQ.of (show eS (aN ua) ["script","stir","cell"] _ ["cell"] [none]=true by decide+kernel)) (@fy _ _ _ _ (@nI _ _ _ _ _ _ _ _ _ _ m5 (pv 0) n9 (@m8 _ _ _ ai))) (fun _ _ _ _=>⟨(aR (i:=0) (by show List.Nodup (["cell"]:List Str);decide+kernel) rfl (Or.inl rfl)),gK,(@aB _ _ _ _ _ _ _ _ iT (@bE _ _ _ _ _ _ _ _ _ Uj rfl zg PyProof.Rows.boot_abs (@aa _ _ _ _ _ (pv 0) af rfl) (by decide) (by decide) (by rfl) (by rfl)) (@aB _ _ _ _ _ _ _ _ E3 ai ai))⟩)) (@aa _ _ _ _ _ ai (@aa _ _ _ _ _ ai (@aa _ _ _ _ _ (pv 1) (@aa _ _ _ _ _ ai af rfl) rfl) rfl) rfl) rfl)))))),?_⟩
 have CJ:kQ (ns.map V.int) none (some 63)=ns.map V.int:=by
  have e:(ns.map V.int).length=ns.length:=ak _
  show List.take (min 63 (ns.map V.int).length-0) (List.drop 0 (ns.map V.int))=_
  rw[Bm]
  exact yU (by omega)
 walk_at "st"
 refine R.E6 hS fun c hc=>?_
 rw[CJ]
 refine R.vB (aW.of aY) ?_
 refine E8 (xs:=ns.map V.int) (fun i σ H1=>∃(st:Int) (x:Option V),σ=[some (.ref a),some (.int st),x]/\0<=st/\st<2147483647/\H1=upd H c (.lst (ns.map V.int))) ⟨19,none,rfl,by omega,by omega,rfl⟩ ?_ ?_ ?_
 ·rintro i σ H1 hi ⟨st,x,rfl,h1,h2,rfl⟩
  exact aW.of aY
 ·rintro i x σ H1 hx ⟨st,y,rfl,h1,h2,rfl⟩
  rw[aX] at hx
  obtain⟨n,_,rfl⟩:=jR.mp hx
  walk_at "st"
  exact⟨_,_,rfl,gJ _ (by decide),gy _ (by decide),rfl⟩
 ·rintro σ H1 ⟨st,x,rfl,h1,h2,rfl⟩
  walk_at "st"
  refine R.E6 ((dI hc).seq hS) fun c2 hc2=>?_
  rw[CJ]
  refine R.vB (aW.of aY) ?_
  intro acc hacc
  refine R.Cw (xs:=ns.map V.int) (fun i σ H2=>∃(x:Option V),σ=[x]/\H2=upd (upd (upd H c (.lst (ns.map V.int))) c2 (.lst (ns.map V.int))) acc (.lst (((ns.take i).map fun n=>(if n<0 then-n else n)%10^60).map V.int))) ⟨none,rfl,rfl⟩ ?_ ?_ ?_
  ·rintro i σ H1 hi ⟨x,rfl,rfl⟩
   refine aW.of ?_
   rw[az (iH aY hacc)]
   exact aY
  ·rintro i x σ H1 hx ⟨y,rfl,rfl⟩
   rw[aX] at hx
   obtain⟨n,hn,rfl⟩:=jR.mp hx
   walk_at "st"
   refine⟨_,aY,?_,_,rfl,?_⟩
   ·rw[ak,ak,iQ]
    exact Ge (by omega)
   ·rw[BW,wX,hn,cN,cN]
    rfl
  ·rintro σ H1 ⟨x,rfl,rfl⟩
   walk_at "st"
   refine(show A8 _ _ _ from⟨by show 5<=sizeLine;decide,fun p hp=>?_⟩)
   have hn1:=iH (aY (H:=upd (upd H c (.lst (ns.map V.int))) c2 (.lst (ns.map V.int))) (a:=acc)) hp
   have s1:dD H (upd (upd (upd H c (.lst (ns.map V.int))) c2 (.lst (ns.map V.int))) acc (.lst (((ns.take (ns.map V.int).length).map fun n=>(if n<0 then-n else n)%10^60).map V.int))):=(dI hc).trans ((dI hc2).trans (dI hacc))
   refine q p acc _ (s1.trans (dI hp)) (s1.free hp) ⟨_,0,0,st,0,aY,by rw[az hn1];exact aY,?_,?_,by omega,by omega,by omega,h1,h2⟩
   ·intro y hy
    obtain⟨z,_,rfl⟩:=bW.mp hy
    exact⟨gJ _ (by decide),gy _ (by decide)⟩
   ·rw[ak,iQ]
    omega
theorem vF:cz ["bag","many","found","k"] ["bag","many"] (aN zz):=⟨rfl,rfl,rfl,by decide+kernel,rfl,by decide+kernel,by decide+kernel⟩
theorem Pa(F:bL K "_law_stirred" "_law_stirred" zz f fd)(bD:mg "range"=none):
  bG P w K mg base bN 1 f fd ["bag","many"] jN:=by
 refine F.ok vF (fun vs H Q E h=>?_) (fun cdv A outer s H vs Q E hr h=>?_)
 ·obtain⟨b,l,many,rfl,hB,hm,hs,q⟩:=h
  rfl
 obtain⟨b,l,many,rfl,hB,hm,hs,q⟩:=h
 refine⟨_,(@ao _ _ _ _ _ (@aC _ _ (2) _ _ _ _ vF.nd rfl (Or.inl rfl) ai (by rfl) (by first|exact .inl rfl|exact .inr rfl|assumption)) (@ao _ _ _ _ _ (@fW _ _ _ _ _ _ _ _ eU rfl (@jc _ _ _ _ _ _ rfl bD (@aa _ _ _ _ _ (@aB _ _ _ _ _ _ _ _ cS ai (@aB _ _ _ _ _ _ _ _ p7 (RY PySem.F.plainAttrs_int PySem.F.slot_int_bit_length PySem.F.type_int_bit_length LU (pv 1)) ai)) af rfl) (by rfl)) (aR (i:=3) vF.nd rfl (Or.inl rfl)) (@ao _ _ _ _ _ (@jx _ _ _ _ _ _ (@aB _ _ _ _ _ _ _ _ cS (@au _ _ _ _ _ _ _ bz (pv 0) ai (fun _ _=>rfl)) ai) (lT (pv 0) ai set_list) (by rfl) (by rfl) (by rfl)) (@ao _ _ _ _ _ (@jx _ _ _ _ _ _ (@aB _ _ _ _ _ _ _ _ iT (@aB _ _ _ _ _ _ _ _ cS (@aB _ _ _ _ _ _ _ _ cS (@aB _ _ _ _ _ _ _ _ cS (@aB _ _ _ _ _ _ _ _ E3 (@au _ _ _ _ _ _ _ bz (pv 0) ai (fun _ _=>rfl)) ai) (@aB _ _ _ _ _ _ _ _ gZ ai (@au _ _ _ _ _ _ _ bz (pv 0) ai (fun _ _=>rfl)))) (@aB _ _ _ _ _ _ _ _ gZ ai (@au _ _ _ _ _ _ _ bz (pv 0) ai (fun _ _=>rfl)))) ai) ai) (lT (pv 0) ai set_list) (by rfl) (by rfl) (by rfl)) (@aE _ _ _ (@aC _ _ (2) _ _ _ _ vF.nd rfl (Or.inl rfl) (@aB _ _ _ _ _ _ _ _ cS (@aB _ _ _ _ _ _ _ _ gZ (pv 2) ai) (@aB _ _ _ _ _ _ _ _ p7 (@au _ _ _ _ _ _ _ bz (pv 0) ai (fun _ _=>rfl)) ai)) (by rfl) (by first|exact .inl rfl|exact .inr rfl|assumption))))) (by intro _;rfl)) (@aE _ _ _ (@aZ _ _ _ _ (@aB _ _ _ _ _ _ _ _ iT (pv 2) (pv 1)))))),?_⟩
 have Wr:=BA hs
 walk_at "st"
 refine As (fun i σ H1=>∃(fv:Int) (x:Option V),σ=[some (.ref b),some (.int many),some (.int fv),x]/\bh (Nb b) H H1/\c9 H1 b l) ⟨0,none,rfl,bh.refl _ _,hB⟩ ?_ ?_
 ·rintro i σ H1 hi ⟨fv,x,rfl,bt,ns,j,c,st,n,h1,h2,h3,h4,h5,h6,h7,h8,h9⟩
  have hlb:=IE h1 h2
  walk_at "st"
  refine⟨_,_,rfl,bt.trans (bh.set rfl),?_⟩
  exact c9.put hlb h2 h3 h4 h5 h6 h7 (gJ _ (by decide)) (gy _ (by decide))
 ·rintro σ H1 ⟨fv,x,rfl,bt,B⟩
  walk_at "st"
  exact q _ _ (gJ _ (by omega)) (gy _ hm) bt B
theorem FE:cz ["bag","many","found"] ["bag","many"] (aN yq):=⟨rfl,rfl,rfl,by decide+kernel,rfl,by decide+kernel,by decide+kernel⟩
theorem UO(F:bL K "_law_draw" "_law_draw" yq f fd)(Qp:Callee P w K mg base "_law_stirred" 1 ["bag","many"] jN)(bf:mg "len"=none):
  bG P w K mg base bN 2 f fd ["bag","many"] jN:=by
 refine F.ok FE (fun vs H Q E h=>?_) (fun cdv A outer s H vs Q E hr h=>?_)
 ·obtain⟨b,l,many,rfl,hB,hm,hs,q⟩:=h
  rfl
 obtain⟨b,l,many,rfl,hB,hm,hs,q⟩:=h
 refine⟨_,(@ao _ _ _ _ _ (@dj _ _ _ _ _ _ _ _ (PW.pt (mK (@bF _ _ _ _ _ _ _ _ iG (@au _ _ _ _ _ _ _ bz (pv 0) ai (fun _ _=>rfl)) ai (br _)) (mJ (@bF _ _ _ _ _ _ _ _ lA (@au _ _ _ _ _ _ _ bz (pv 0) ai (fun _ _=>rfl)) (@bE _ _ _ _ _ _ _ _ _ DH rfl bf dP (@aa _ _ _ _ _ (@au _ _ _ _ _ _ _ bz (pv 0) ai (fun _ _=>rfl)) af rfl) (by decide) (by decide) (by rfl) (by rfl)) (br _))))) (@ao _ _ _ _ _ (@jx _ _ _ _ _ _ (@au _ _ _ _ _ _ _ bz (@au _ _ _ _ _ _ _ bz (pv 0) ai (fun _ _=>rfl)) (@au _ _ _ _ _ _ _ bz (pv 0) ai (fun _ _=>rfl)) (fun _ _=>rfl)) (lT (pv 0) ai set_list) (by rfl) (by rfl) (by rfl)) (@aE _ _ _ (@jx _ _ _ _ _ _ (@aB _ _ _ _ _ _ _ _ cS (@au _ _ _ _ _ _ _ bz (pv 0) ai (fun _ _=>rfl)) ai) (lT (pv 0) ai set_list) (by rfl) (by rfl) (by rfl)))) (@aE _ _ _ (@dj _ _ _ _ _ _ _ _ (@bF _ _ _ _ _ _ _ _ iG (@au _ _ _ _ _ _ _ bz (pv 0) ai (fun _ _=>rfl)) ai (br _)) (@aE _ _ _ (@aZ _ _ _ _ (@aF _ _ _ _ _ _ _ _ _ _ Qp (hr.mono (by decide)) (@aa _ _ _ _ _ (pv 0) (@aa _ _ _ _ _ (pv 1) af rfl) rfl) (by rfl) (by decide) (by rfl) (by rfl)))) dX))) (@ao _ _ _ _ _ (@aC _ _ (2) _ _ _ _ FE.nd rfl (Or.inl rfl) (@aB _ _ _ _ _ _ _ _ iT (@au _ _ _ _ _ _ _ bz (pv 0) ai (fun _ _=>rfl)) (pv 1)) (by rfl) (by first|exact .inl rfl|exact .inr rfl|assumption)) (@ao _ _ _ _ _ (@jx _ _ _ _ _ _ (@aB _ _ _ _ _ _ _ _ p7 (@au _ _ _ _ _ _ _ bz (pv 0) ai (fun _ _=>rfl)) (pv 1)) (lT (pv 0) ai set_list) (by rfl) (by rfl) (by rfl)) (@aE _ _ _ (@aZ _ _ _ _ (pv 2)))))),?_⟩
 obtain⟨ns,i,c,st,n,h1,h2,h3,h4,h5,h6,h7,h8,h9⟩:=id hB
 have hlb:=IE h1 h2
 have fin:∀(H1:Hp) (i' c':Int),H1 b=some (.lst [.ref l, .int i', .int c', .int st, .int n])->bh (Nb b) H H1->0<=i'->0<=c'->c'<10^60->
   ∀(H2:Hp),H2=upd H1 b (.lst [.ref l, .int i', .int (c'/many), .int st, .int n])->Q (.int (c'%many)) H2:=fun H1 i' c' e1 bt g1 g2 g3 H2 e2=>by
  subst e2
  have hd1:0<=c'/many:=vA g2 (by omega)
  have hd2:c'/many<=c':=zL _ g2
  exact q _ _ (gJ _ (by omega)) (gy _ hm) (bt.trans (bh.set rfl)) (c9.put hlb (bt _ _ hlb h2) h3 h4 g1 hd1 (by omega) h8 h9)
 walk_at "st"
 refine ow (fun c1=>?_) (fun c1=>?_)
 ·have c1:c=0:=of_decide_eq_true c1
  walk_at "st"
  refine ow (fun c2=>?_) (fun c2=>?_)
  ·have c2:i<(List.map V.int ns).length:=of_decide_eq_true c2
   rw[ak] at c2
   have hi:i.toNat<ns.length:=by omega
   obtain⟨g1,g2⟩:=h3 _ (ie hi)
   walk_at "st"
   refine R.uT h2 (v:= .int ns[i.toNat]) (gY h5 (by rw[aX,aQ hi];rfl)) ?_
   walk_at "st"
   refine fin (upd H b (.lst [.ref l, .int (i+1), .int ns[i.toNat], .int st, .int n])) (i+1) ns[i.toNat] aY (bh.set rfl) (by omega) g1 g2 _ ?_
   rw[BW]
   rfl
  ·walk_at "st"
   exact⟨b,l,many,rfl,hB,hm,hs,q⟩
 ·have c1:¬c=0:=of_decide_eq_false (xN.mpr c1)
  walk_at "st"
  exact fin H i c h1 (bh.refl _ _) h5 h6 h7 _ rfl
theorem LO(is:List Int):PyData.eqv (.list (is.map PyData.int)) (.list [])=decide (is=[]):=by
 cases is<;>simp[PyData.eqv,PyData.eqvAll]
theorem NN(is:List Int):SeqAt.shaped (.list (is.map PyData.int))=true:=by
 have h:PyData.depthAll (is.map PyData.int)=0/\PyData.canLayAll0 (is.map PyData.int)=true:=by
  induction is with
  |nil=>simp[PyData.depthAll,PyData.canLayAll0]
  |cons a r ih=>simp[PyData.depthAll,PyData.depth,PyData.canLayAll0,PyData.canLay0,ih.2,ih.1]
 unfold SeqAt.shaped
 simp[PyData.canLay0,PyData.depth,h.2,h.1]
theorem C2{nb:Addr->Prop}{H:Hp}:∀is:List Int,ah nb H (is.map PyData.int) (is.map V.int)
 |[]=>ah.nil
 |i::is=>ah.cons (.int i) (C2 is)
theorem Kg{r:Int}(h0:r<=10100)(h:∀d:Int,2<=d->d<102->¬(d*d<=r/\r%d=0)):vH r:=fun d d1 d2 e=>by
 by_cases hd:d<102
 ·exact h d d1 hd ⟨d2,e⟩
 ·have:102*102<=d*d:=Int.mul_le_mul (by omega) (by omega) (by omega) (by omega)
  omega
theorem Hy:cz ["number","found"] ["number"] (aN uK):=⟨rfl,rfl,rfl,by decide+kernel,rfl,by decide+kernel,by decide+kernel⟩
theorem Kc(F:bL K "_law_prime_from" "_law_prime_from" uK f fd)(bD:mg "range"=none):
  bG P w K mg base bN 1 f fd ["number"] Ab:=by
 refine F.ok Hy (fun vs H Q E h=>?_) (fun cdv A outer s H vs Q E hr h=>?_)
 ·obtain⟨n,rfl,hn1,hn2,q⟩:=h
  rfl
 obtain⟨n,rfl,hn1,hn2,q⟩:=h
 refine⟨_,(@ao _ _ _ _ _ (@fW _ _ _ _ _ _ _ _ eU rfl (@GV _ _ _ _ _ _ _ rfl bD (@aa _ _ _ _ _ (pv 0) (@aa _ _ _ _ _ (@aB _ _ _ _ _ _ _ _ cS (pv 0) ai) af rfl) rfl) (by rfl) (by rfl)) (aR (i:=1) Hy.nd rfl (Or.inr rfl)) (@aE _ _ _ (@dj _ _ _ _ _ _ _ _ (@bF _ _ _ _ _ _ _ _ (rJ hr.units) (fV (cQ.of (show eS (aN uK) ["number","found"] _ ["k","found"] [none,some 1]=true by decide+kernel)) (@GV _ _ _ _ _ _ _ rfl bD (@aa _ _ _ _ _ ai (@aa _ _ _ _ _ ai af rfl) rfl) (by rfl) (by rfl)) (fun _ _ _ _=>⟨(aR (i:=0) (by show List.Nodup (["k","found"]:List Str);decide+kernel) rfl (Or.inl rfl)),(pZ (PW.pt (mK (@bF _ _ _ _ _ _ _ _ NY (@aB _ _ _ _ _ _ _ _ gZ (pv 0) (pv 0)) (pv 1) (br _)) (mJ (@bF _ _ _ _ _ _ _ _ iG (@aB _ _ _ _ _ _ _ _ iT (pv 1) (pv 0)) ai (br _)))))),(pv 0)⟩)) (@dM _ _ _ _ af) (br _)) (@aE _ _ _ (@aZ _ _ _ _ (pv 1))) dX)) (by intro _;rfl)) (@aE _ _ _ (@aZ _ _ _ _ ai))),?_⟩
 walk_at "st"
 refine As (fun i σ H1=>dD H H1/\∃(x:Option V),σ=[some (.int n),x]) ⟨dD.refl _,none,rfl⟩ ?_ ?_
 ·rintro i σ H1 hi ⟨s1,x,rfl⟩
  have hi2:(i:Int)<60:=by omega
  walk_at "st"
  intro acc hacc
  refine R.Js (fun j σ H2=>dD H1 H2/\(∃x:Option V,σ=[x,some (.int (n+i))])/\∃is:List Int,H2 acc=some (.lst (is.map V.int))/\is.length<=j/\(is=[]->∀d:Int,2<=d->d<2+j->¬(d*d<=n+i/\(n+i)%d=0))) ?_ ?_ ?_
  ·exact⟨dI hacc,⟨none,rfl⟩,[],aY,dW _,fun _ d d1 d2=>by omega⟩
  ·rintro j σ H2 hj ⟨s2,⟨x,rfl⟩,is,e2,l2,h2⟩
   have hj2:(j:Int)<100:=by omega
   have next:∀d:Int,d<2+((j+1:Nat):Int)->d<2+j\/d=2+j:=fun d h=>by omega
   walk_at "st"
   refine ow (fun c1=>?_) (fun c1=>?_)
   ·have c1:(2+(j:Int))*(2+j)<=n+i:=of_decide_eq_true c1
    walk_at "st"
    refine ow (fun c2=>?_) (fun c2=>?_)
    ·have c2:(n+i)%(2+(j:Int))=0:=of_decide_eq_true c2
     walk_at "st"
     refine⟨_,e2,?_,?_,⟨_,rfl⟩,is++[2+(j:Int)],?_,?_,fun e=>?_⟩
     ·rw[ak];exact Ge (by omega)
     ·exact fun a o h=>by rw[az (iH h hacc)];exact s2 _ _ h
     ·rw[aY,cN];rfl
     ·rw[bP,fE];omega
     ·simp at e
    ·have c2:¬(n+i)%(2+(j:Int))=0:=of_decide_eq_false (xN.mpr c2)
     refine⟨s2,⟨_,rfl⟩,is,e2,by omega,fun e d d1 d2=>?_⟩
     rcases next d d2 with h|h
     ·exact h2 e d d1 h
     ·rw[h];exact fun z=>c2 z.2
   ·have c1:¬(2+(j:Int))*(2+j)<=n+i:=of_decide_eq_false (xN.mpr c1)
    walk_at "st"
    refine⟨s2,⟨_,rfl⟩,is,e2,by omega,fun e d d1 d2=>?_⟩
    rcases next d d2 with h|h
    ·exact h2 e d d1 h
    ·rw[h];exact fun z=>c1 z.1
  ·rintro σ H2 ⟨s2,⟨x,rfl⟩,is,e2,l2,h2⟩
   walk_at "st"
   refine R.QG (by decide) fun p H3 s3 f3 e3=>?_
   refine⟨fun _=>False, .list (is.map PyData.int), .list [], .lst id (s3 _ _ e2) (C2 is), .lst id e3 ah.nil,NN is,by decide,?_⟩
   rw[LO]
   walk_at "st"
   have s:dD H H3:=s1.trans (s2.trans s3)
   refine ow (fun c=>?_) (fun c=>?_)
   ·have c:is=[]:=by simpa using c
    walk_at "st"
    exact q _ _ s (by omega) (by omega) (Kg (by omega) fun d d1 d2=>h2 c d d1 (by omega))
   ·walk_at "st"
    exact⟨s,_,rfl⟩
 ·rintro σ H1 ⟨s1,x,rfl⟩
  walk_at "st"
  refine q _ _ s1 (by omega) (by omega) fun d d1 d2=>?_
  have:2*2<=d*d:=Int.mul_le_mul d1 d1 (by omega) (by omega)
  omega
def vS:DF:=fun ds Φ=>ds=[]/\∀p:Int,fO p->p<10^40->∀f,Φ f (.int p)
theorem RN:cO vS:=by
 intro ds Φ Ψ hm z
 obtain⟨e,q⟩:=hm
 exact⟨e,fun p h1 h2 f=>z _ _ (q p h1 h2 f)⟩
theorem LG:∀x∈([2,3,5,7,2,11,101,10007,65537,1000003,998244353,1000000007,2147483647,1000000000039,1000000000000000003,18446744073709551557,2305843009213693951,618970019642690137449562111,162259276829213363391578010288127,170141183460469231731687303715884105727,1000000000000000000000000000000000000003,9999999999999999999999999999999999999983]:List Int),x∈uo/\x<10^40:=by decide+kernel
theorem oY:cz ["bag","some","way"] ["bag"] (aN Aq):=⟨rfl,rfl,rfl,by decide+kernel,rfl,by decide+kernel,by decide+kernel⟩
theorem QM(F:bL K "_law_prime" "_law_prime" Aq f fd)(dB:Callee P w K mg base "_law_draw" 2 ["bag","many"] jN)(Qf:Callee P w K mg base "_law_prime_from" 1 ["number"] Ab):
  bG P w K mg base bN 3 f fd ["bag"] (fX 1 vS):=by
 refine F.ok oY (fun vs H Q E h=>h.1) (fun cdv A outer s H vs Q E hr h=>?_)
 obtain⟨b,l,ws,nb,ds,Φ,rfl,hB,hlive,hnb,hds,aD,hF⟩:=nh h
 obtain⟨rfl,q⟩:=hF
 refine⟨_,(@ao _ _ _ _ _ (@R7 _ 1 _ _ _ _ _ _ oY.nd rfl (Or.inl rfl) rfl (Or.inl rfl)) (@ao _ _ _ _ _ (@aC _ _ (1) _ _ _ _ oY.nd rfl (Or.inl rfl) (@aB _ _ _ _ _ _ _ _ jt (pv 1) (@dM _ _ _ _ (@Fy _ _ _ rfl))) (by rfl) (by first|exact .inl rfl|exact .inr rfl|assumption)) (@ao _ _ _ _ _ (@aC _ _ (1) _ _ _ _ oY.nd rfl (Or.inl rfl) (@aB _ _ _ _ _ _ _ _ jt (pv 1) (@dM _ _ _ _ (@aa _ _ _ _ _ ai (@aa _ _ _ _ _ ai af rfl) rfl))) (by rfl) (by first|exact .inl rfl|exact .inr rfl|assumption)) (@ao _ _ _ _ _ (@aC _ _ (1) _ _ _ _ oY.nd rfl (Or.inl rfl) (@aB _ _ _ _ _ _ _ _ jt (pv 1) (@dM _ _ _ _ (@aa _ _ _ _ _ ai (@aa _ _ _ _ _ ai af rfl) rfl))) (by rfl) (by first|exact .inl rfl|exact .inr rfl|assumption)) (@ao _ _ _ _ _ (@aC _ _ (2) _ _ _ _ oY.nd rfl (Or.inl rfl) (@aF _ _ _ _ _ _ _ _ _ _ dB (hr.mono (by decide)) (@aa _ _ _ _ _ (pv 0) (@aa _ _ _ _ _ ai af rfl) rfl) (by rfl) (by decide) (by rfl) (by rfl)) (by rfl) (by first|exact .inl rfl|exact .inr rfl|assumption)) (@aE _ _ _ (@aZ _ _ _ _ (@oN _ _ _ _ _ _ _ _ (@bF _ _ _ _ _ _ _ _ lA (pv 2) ai (br _)) (@au _ _ _ _ _ _ (cJ K) bz (pv 1) (pv 2) (fun _ _=>rfl)) (@aF _ _ _ _ _ _ _ _ _ _ Qf (hr.mono (by decide)) (@aa _ _ _ _ _ (@aB _ _ _ _ _ _ _ _ cS ai (@aF _ _ _ _ _ _ _ _ _ _ dB (hr.mono (by decide)) (@aa _ _ _ _ _ (pv 0) (@aa _ _ _ _ _ ai af rfl) rfl) (by rfl) (by decide) (by rfl) (by rfl))) af rfl) (by rfl) (by decide) (by rfl) (by rfl)))))))))),?_⟩
 refine Sv.nJ hB hlive hnb hds aD (ρ:=[.aA, .no, .no]) rfl ?_
 clear aD hds
 walk_at "dt"
 intro way w1 w2
 by_cases c:way<22
 ·walk_at "dt"
  obtain⟨m,em,hm1,hm2⟩:=pick (L:=[2,3,5,7,2,11,101,10007,65537,1000003,998244353,1000000007,2147483647,1000000000039,1000000000000000003,18446744073709551557,2305843009213693951,618970019642690137449562111,162259276829213363391578010288127,170141183460469231731687303715884105727,1000000000000000000000000000000000000003,9999999999999999999999999999999999999983]) (k:=way) w1 (by show _<(22:Int);omega) _ LG
  refine⟨_,em,?_⟩
  exact q m (TR m hm1) hm2 _
 ·walk_at "dt"
  intro r r1 r2
  walk_at "dt"
  exact fun r' h1 h2=>q r' h1 h2 _
def zJ:DF:=fun ds Φ=>∃p n:Int,ds=[.int p, .int n]/\QO p/\0<=n/\n<=10000/\∀os:List Int,(os.length:Int)=n->(∀x∈os,0<=x/\x<p)->Φ true (.list (os.map .int))
theorem Lg:cO zJ:=by
 intro ds Φ Ψ hm z
 obtain⟨p,n,e,h1,h2,h3,q⟩:=hm
 exact⟨p,n,e,h1,h2,h3,fun os a b=>z _ _ (q os a b)⟩
theorem D0:cz ["bag","p","n","way"] ["bag","p","n"] (aN rR):=⟨rfl,rfl,rfl,by decide+kernel,rfl,by decide+kernel,by decide+kernel⟩
theorem Ku(F:bL K "_law_letters" "_law_letters" rR f fd)(dB:Callee P w K mg base "_law_draw" 2 ["bag","many"] jN)(bD:mg "range"=none)(jV:mg "int"=none)(zV:mg "min"=none):
  bG P w K mg base bN 3 f fd ["bag","p","n"] (fX 3 zJ):=by
 refine F.ok D0 (fun vs H Q E h=>h.1) (fun cdv A outer s H vs Q E hr h=>?_)
 obtain⟨b,l,ws,nb,ds,Φ,rfl,hB,hlive,hnb,hds,aD,hF⟩:=nh h
 obtain⟨p,n,rfl,⟨p2,Wz⟩,n0,n1,q⟩:=hF
 refine⟨_,(@ao _ _ _ _ _ (@aC _ _ (3) _ _ _ _ D0.nd rfl (Or.inr rfl) (@aF _ _ _ _ _ _ _ _ _ _ dB (hr.mono (by decide)) (@aa _ _ _ _ _ (pv 0) (@aa _ _ _ _ _ ai af rfl) rfl) (by rfl) (by decide) (by rfl) (by rfl)) (by rfl) (by first|exact .inl rfl|exact .inr rfl|assumption)) (@ao _ _ _ _ _ (@dj _ _ _ _ _ _ _ _ (@bF _ _ _ _ _ _ _ _ iG (pv 3) ai (br _)) (@aE _ _ _ (@aZ _ _ _ _ (fV (cQ.of (show eS (aN rR) ["bag","p","n","way"] _ ["k","bag","p"] [none,some 0,some 1]=true by decide+kernel)) (@jc _ _ _ _ _ _ rfl bD (@aa _ _ _ _ _ (pv 2) af rfl) (by rfl)) (fun _ _ _ _=>⟨(aR (i:=0) (by show List.Nodup (["k","bag","p"]:List Str);decide+kernel) rfl (Or.inl rfl)),gK,(@aB _ _ _ _ _ _ _ _ gZ (@aF _ _ _ _ _ _ _ _ _ _ dB (hr.mono (by decide)) (@aa _ _ _ _ _ (pv 1) (@aa _ _ _ _ _ (pv 2) af rfl) rfl) (by rfl) (by decide) (by rfl) (by rfl)) (@fS _ _ _ _ _ _ _ _ _ Qx rfl jV yM (@aa _ _ _ _ _ (@rO _ _ _ _ _ _ _ _ iG (@aF _ _ _ _ _ _ _ _ _ _ dB (hr.mono (by decide)) (@aa _ _ _ _ _ (pv 1) (@aa _ _ _ _ _ ai af rfl) rfl) (by rfl) (by decide) (by rfl) (by rfl)) ai (br _)) af rfl) (by decide) (by decide) (by rfl) (by rfl)))⟩)))) dX) (@aE _ _ _ (@aZ _ _ _ _ (fV (cQ.of (show eS (aN rR) ["bag","p","n","way"] _ ["k","bag","p","way"] [none,some 0,some 1,some 3]=true by decide+kernel)) (@jc _ _ _ _ _ _ rfl bD (@aa _ _ _ _ _ (pv 2) af rfl) (by rfl)) (fun _ _ _ _=>⟨(aR (i:=0) (by show List.Nodup (["k","bag","p","way"]:List Str);decide+kernel) rfl (Or.inl rfl)),gK,(@aF _ _ _ _ _ _ _ _ _ _ dB (hr.mono (by decide)) (@aa _ _ _ _ _ (pv 1) (@aa _ _ _ _ _ (@au _ _ _ _ _ _ (cJ K) bz (@dM _ _ _ _ (@aa _ _ _ _ _ (pv 2) (@aa _ _ _ _ _ (@bE _ _ _ _ _ _ _ _ _ (Ug rfl) rfl zV PyProof.Rows.boot_min (@aa _ _ _ _ _ (pv 2) (@aa _ _ _ _ _ ai af rfl) rfl) (by decide) (by decide) (by rfl) (by rfl)) af rfl) rfl)) (pv 3) (fun _ _=>rfl)) af rfl) rfl) (by rfl) (by decide) (by rfl) (by rfl))⟩)))))),?_⟩
 refine Sv.nJ hB hlive hnb hds aD (ρ:=[.aA, .d false _, .d false _, .no]) rfl ?_
 clear aD hds
 walk_at "dt"
 intro way w1 w2
 by_cases c:way=2
 ·walk_at "dt"
  refine aG.ev (aG.nY (by decide) rfl ?_)
  walk_at "dt"
  refine gz.ints (fun x=>0<=x/\x<p) ?_ fun os jI hos=>q os (by omega) hos
  rintro i d ⟨hi,rfl⟩
  walk_at "dt"
  refine⟨by walk_at "wk",?_⟩
  walk_at "dt"
  intro r r1 r2
  walk_at "dt"
  intro s s1 s2
  by_cases c2:s=3
  ·walk_at "dt"
   rw[decide_eq_true c2]
   exact⟨by simp;omega,by simp;omega⟩
  ·walk_at "dt"
   rw[decide_eq_false c2]
   exact⟨by simp,by simp;omega⟩
 ·obtain⟨m,em,m1,m2⟩:∃m:Int,bx [PyData.int p, .int (if 3<p then 3 else p)] way=some (.int m)/\1<=m/\m<=p:=by
   rcases(show way=0\/way=1 by omega) with rfl|rfl
   ·exact⟨p,rfl,by omega,by omega⟩
   ·exact⟨_,rfl,by split<;>omega,by split<;>omega⟩
  walk_at "dt"
  refine aG.ev (aG.nY (by decide) rfl ?_)
  walk_at "dt"
  refine gz.ints (fun x=>0<=x/\x<p) ?_ fun os jI hos=>q os (by omega) hos
  rintro i d ⟨hi,rfl⟩
  walk_at "dt"
  refine⟨by walk_at "wk",?_⟩
  walk_at "dt"
  exact fun r r1 r2=>⟨r,rfl,r1,by omega⟩
def wV:DF:=fun ds Φ=>∃p a b:Int,ds=[.int p, .int a, .int b]/\fO p/\p<10^40/\b%p≠0/\ -(10^61)<=a/\a<=10^61/\((∃k,b*sol p b a-a=p*k)->Φ true (.int (sol p b a)))
theorem Vb:cO wV:=by
 intro ds Φ Ψ hm z
 obtain⟨p,a,b,e,h1,h2,h3,h4,h5,q⟩:=hm
 exact⟨p,a,b,e,h1,h2,h3,h4,h5,fun h=>z _ _ (q h)⟩
theorem kh:cz ["p","a","b","old","new","one","two","times"] ["p","a","b"] (aN zl):=⟨rfl,rfl,rfl,by decide+kernel,rfl,by decide+kernel,by decide+kernel⟩
theorem MI(F:bL K "_law_over" "_law_over" zl f fd):
  bG P w K mg base bN 1 f fd ["p","a","b"] (aS 3 wV):=by
 refine F.ok kh (fun vs H Q E h=>h.1) (fun cdv A outer s H vs Q E hr h=>?_)
 obtain⟨nb,ds,Φ,hlive,hds,aD,hF⟩:=fc h
 obtain⟨p,a,b,rfl,hp,iU,hb,a0,a1,q⟩:=hF
 refine⟨_,(@ao _ _ _ _ _ (@jx _ _ _ _ _ _ (@cy _ _ _ _ _ (@aa _ _ _ _ _ (@aB _ _ _ _ _ _ _ _ iT (pv 2) (pv 0)) (@aa _ _ _ _ _ (pv 0) (@aa _ _ _ _ _ ai (@aa _ _ _ _ _ ai af rfl) rfl) rfl) rfl)) (@iF _ (K) _ _ _ (4) _ rfl rfl (@cG _ _ _ _ _ (aR (i:=3) kh.nd rfl (Or.inl rfl)) (@cG _ _ _ _ _ (aR (i:=4) kh.nd rfl (Or.inl rfl)) (@cG _ _ _ _ _ (aR (i:=5) kh.nd rfl (Or.inl rfl)) (@cG _ _ _ _ _ (aR (i:=6) kh.nd rfl (Or.inl rfl)) iC (by rfl)) (by rfl)) (by rfl)) (by rfl)) (by rfl) (by rfl)) (by rfl) (by rfl) (by rfl)) (@ao _ _ _ _ _ (@uB _ _ _ _ _ _ eU (@bF _ _ _ _ _ _ _ _ jL (pv 4) ai (br _)) (@ao _ _ _ _ _ (@aC _ _ (7) _ _ _ _ kh.nd rfl (Or.inl rfl) (@aB _ _ _ _ _ _ _ _ p7 (pv 3) (pv 4)) (by rfl) (by first|exact .inl rfl|exact .inr rfl|assumption)) (@aE _ _ _ (@jx _ _ _ _ _ _ (@cy _ _ _ _ _ (@aa _ _ _ _ _ (pv 4) (@aa _ _ _ _ _ (@aB _ _ _ _ _ _ _ _ gc (pv 3) (@aB _ _ _ _ _ _ _ _ gZ (pv 7) (pv 4))) (@aa _ _ _ _ _ (pv 6) (@aa _ _ _ _ _ (@aB _ _ _ _ _ _ _ _ gc (pv 5) (@aB _ _ _ _ _ _ _ _ gZ (pv 7) (pv 6))) af rfl) rfl) rfl) rfl)) (@iF _ (K) _ _ _ (4) _ rfl rfl (@cG _ _ _ _ _ (aR (i:=3) kh.nd rfl (Or.inl rfl)) (@cG _ _ _ _ _ (aR (i:=4) kh.nd rfl (Or.inl rfl)) (@cG _ _ _ _ _ (aR (i:=5) kh.nd rfl (Or.inl rfl)) (@cG _ _ _ _ _ (aR (i:=6) kh.nd rfl (Or.inl rfl)) iC (by rfl)) (by rfl)) (by rfl)) (by rfl)) (by rfl) (by rfl)) (by rfl) (by rfl) (by rfl))))) (@aE _ _ _ (@aZ _ _ _ _ (@aB _ _ _ _ _ _ _ _ iT (@aB _ _ _ _ _ _ _ _ gZ (pv 1) (pv 5)) (pv 0)))))),?_⟩
 refine Sv.fj hlive hds aD (ρ:=[.d false _, .d false _, .d false _, .no, .no, .no, .no, .no]) rfl ?_
 clear aD hds
 have p2:=hp.1
 have m1:=gJ b (show p≠0 by omega)
 have m2:=gy b (show 0<p by omega)
 walk_at "dt"
 show lI _ _ _ _ [PyData.int (b%p), .int p, .int 1, .int 0] _
 walk_at "dt"
 refine Sv.Cv (fun ρ=>∃(L lt r t:Int) (x6:Sl),ρ=[.d false (.int p), .d false (.int a), .d false (.int b), .d true (.int L), .d true (.int r), .d true (.int lt), .d true (.int t),x6]/\(-p<=lt/\lt<=p)/\((L=b%p/\r=p/\lt=1/\t=0)\/Eu p b L lt r t)) (fun ρ:Rh=>match ρ[4]? with|some (Sl.d _ (PyData.int r))=>r.toNat|_=>0) ⟨_,_,_,_,_,rfl,by omega, .inl ⟨rfl,rfl,rfl,rfl⟩⟩ ?_
 rintro ρ ⟨L,lt,r,t,x6,rfl,hlt,hI⟩
 by_cases c:r=0
 ·rcases hI with ⟨_,h,_,_⟩|hE
  ·omega
  subst c
  obtain⟨k,hk⟩:=hE.fin hp hb
  obtain⟨t1,t2⟩:=hE.tb
  have sa:Sm a:=by unfold Sm;omega
  have sl:Sm lt:=by unfold Sm;omega
  walk_at "dt"
  have e:=rY (a*lt) p
  have ef:=rY lt p
  have ex:∃k,b*(a*lt%p)-a=p*k:=⟨a*k+a*(lt/p)*b-a*lt/p*b,by
   generalize a*lt/p=Q1 at*
   generalize a*lt%p=R1 at*
   generalize lt/p=Q2 at*
   generalize lt%p=R2 at*
   have h1:R1=a*lt-p*Q1:=by omega
   have h2:lt=p*Q2+R2:=by omega
   rw[h1]
   have h3:a*(R2*b)=a*(1+p*k):=by rw[hk]
   grind⟩
  have es:=EJ (x:=a*lt%p) (a:=a) hp hb (gJ _ (by omega)) (gy _ (by omega)) ex
  rw[es]
  rw[es] at ex
  exact q ex
 ·rcases hI with ⟨rfl,rfl,rfl,rfl⟩|hE
  ·have e0:b%r/r=0:=Int.ediv_eq_zero_of_lt m1 m2
   walk_at "dt"
   show lI _ _ _ _ [PyData.int r, .int (b%r-b%r/r*r), .int 0, .int (1-b%r/r*0)] _
   rw[e0]
   walk_at "dt"
   refine⟨⟨_,_,_,_,_,rfl,by omega, .inr ?_⟩,?_⟩
   ·rw[m9,tN,Int.mul_zero,tN]
    exact Eu.start p2
   ·show(b%r-0*r).toNat<r.toNat
    rw[m9];omega
  ·obtain⟨t1,t2⟩:=hE.tb
   have e1:=hE.l0
   have e2:=hE.r0
   have e3:=hE.lp
   have e4:=hE.rp
   have hr:0<r:=by omega
   have q1:0<=L/r:=vA (by omega) (by omega)
   have q2:L/r<=L:=zL _ (by omega)
   obtain⟨N1,N2⟩:=hE.next hr
   walk_at "dt"
   show lI _ _ _ _ [PyData.int r, .int (L-L/r*r), .int t, .int (lt-L/r*t)] _
   walk_at "dt"
   exact⟨⟨_,_,_,_,_,rfl,⟨t1,t2⟩, .inr N1⟩,by show(L-L/r*r).toNat<r.toNat;omega⟩
def tM:DF:=fun ds Φ=>∃(p:Int) (prs:aq) (wd:Wo),ds=[.int p,dw prs,kU wd]/\0<p/\prs.length<=10000/\l8 prs wd.length/\kK wd/\Φ true (.int (bq prs wd%p))
theorem DB:cO tM:=by
 intro ds Φ Ψ hm z
 obtain⟨p,prs,wd,e,h1,h2,h3,h4,q⟩:=hm
 exact⟨p,prs,wd,e,h1,h2,h3,h4,z _ _ q⟩
theorem Vu:cz ["p","pairs","word"] ["p","pairs","word"] (aN tH):=⟨rfl,rfl,rfl,by decide+kernel,rfl,by decide+kernel,by decide+kernel⟩
theorem Kv(F:bL K "_law_sum" "_law_sum" tH f fd)(AJ:mg "sum"=none):
    bG P w K mg base bN 1 f fd ["p","pairs","word"] (aS 3 tM):=by
  refine F.ok Vu (fun vs H Q E h=>h.1) (fun cdv A outer s H vs Q E hr h=>?_)
  obtain⟨nb,ds,Φ,hlive,hds,aD,hF⟩:=fc h
  obtain⟨p,prs,wd,rfl,hp,hl,h1,h2,q⟩:=hF
  refine⟨_,(@aE _ _ _ (@aZ _ _ _ _ (@aB _ _ _ _ _ _ _ _ iT (@bE _ _ _ _ _ _ _ _ (xg K) (QI rfl) rfl AJ PyProof.Rows.boot_sum (@aa _ _ _ _ _ (fV (cQ.of (show eS (aN tH) ["p","pairs","word"] _ ["place","factor","word"] [none,none,some 2]=true by decide+kernel)) (@fy _ _ _ _ (pv 1)) (fun _ _ _ _=>⟨(@iF _ (K) _ _ _ (2) _ rfl rfl (@cG _ _ _ _ _ (aR (i:=0) (by show List.Nodup (["place","factor","word"]:List Str);decide+kernel) rfl (Or.inl rfl)) (@cG _ _ _ _ _ (aR (i:=1) (by show List.Nodup (["place","factor","word"]:List Str);decide+kernel) rfl (Or.inl rfl)) iC (by rfl)) (by rfl)) (by rfl) (by rfl)),(pZ (@bF _ _ _ _ _ _ _ _ tW (@au _ _ _ _ _ _ (cJ K) bz (pv 2) (pv 0) (fun _ _=>rfl)) lQ (br _))),(@aB _ _ _ _ _ _ _ _ gZ (pv 1) (@au _ _ _ _ _ _ (cJ K) bz (pv 2) (pv 0) (fun _ _=>rfl)))⟩)) af rfl) (by decide) (by decide) (by rfl) (by rfl)) (pv 0)))),?_⟩
  refine Sv.fj hlive hds aD (ρ:=[.d false _, .d false _, .d false _]) rfl ?_
  clear aD hds
  walk_at "dt"
  refine aG.ev (aG.iY (by decide) rfl ?_)
  walk_at "dt"
  refine⟨by rw[ak];exact hl,fun v=>⟨false,fun i ds=>∃ns:List Int,ds=ns.map .int/\ns.sum=bq (prs.take i) wd,⟨[],rfl,by simp[bq]⟩,?_,?_⟩⟩
  · rintro i d ds hd hl' ⟨ns,rfl,hs⟩
    obtain⟨pr,aU,rfl⟩:=fK hd
    obtain⟨g1,g2,g3⟩:=h1 pr (eK aU)
    obtain⟨o,ho,hat⟩:=EN (xs:=wd) iN g1 g2 rfl
    have hi:i<prs.length:=(bQ.mp aU).1
    have zK:=Fq (wd:=wd) hi
    have S2:prs[i]=pr:=(bQ.mp aU).2
    rw[S2] at zK
    walk_at "dt"
    refine⟨by walk_at "wk",?_⟩
    walk_at "dt"
    rw[Jp]
    cases o with
    | none =>
      walk_at "dt"
      refine⟨ns,rfl,?_⟩
      rw[zK,hs]
      unfold ia
      rw[ho];simp
    | some x =>
      have hx:Sm x:=h2 x (eK ho)
      have Wj:bx (wd.map iN) pr.1=some (.int x):=hat
      walk_at "dt"
      refine⟨ns++[pr.2*x],by simp,?_⟩
      rw[zK,List.sum_append,hs]
      unfold ia
      rw[ho];simp
  · rintro ds hl' ⟨ns,rfl,hs⟩
    rw[ak,gb] at hs
    refine⟨ns,rfl,?_⟩
    rw[hs]
    walk_at "dt"
    exact q
def tX:Option aq->PyData
 |none=> .none
 |some prs=>dw prs
def xA:DF:=fun ds Φ=>∃(p wide:Int) (wd:List Int),ds=[.int p, .list (wd.map .int), .int wide]/\fO p/\p<10^40/\1<=wd.length/\wd.length<=400/\(∀x∈wd,0<=x/\x<p)/\1<=wide/\wide<=60/\∀(o:Option aq) (f:Bool),(∀prs,o=some prs->jD p wd.length prs/\prs≠[])->Φ f (tX o)
theorem Vt:cO xA:=by
 intro ds Φ Ψ hm z
 obtain⟨p,w,wd,e,h1,h2,h3,h4,h5,h6,h7,q⟩:=hm
 exact⟨p,w,wd,e,h1,h2,h3,h4,h5,h6,h7,fun o f h=>z _ _ (q o f h)⟩
theorem pX:cz ["bag","p","word","wide","n","places","pairs","rest","last"] ["bag","p","word","wide"] (aN rB):=⟨rfl,rfl,rfl,by decide+kernel,rfl,by decide+kernel,by decide+kernel⟩
theorem UE(F:bL K "_law_planted_check" "_law_planted_check" rB f fd)(zp:Callee P w K mg base "_law_sum" 1 ["p","pairs","word"] (aS 3 tM))(dB:Callee P w K mg base "_law_draw" 2 ["bag","many"] jN)(Po:Callee P w K mg base "_law_over" 1 ["p","a","b"] (aS 3 wV))(bf:mg "len"=none)(jj:mg "sorted"=none)(oz:mg "set"=none)(bD:mg "range"=none):
  bG P w K mg base bN 3 f fd ["bag","p","word","wide"] (fX 4 xA):=by
 refine F.ok pX (fun vs H Q E h=>h.1) (fun cdv A outer s H vs Q E hr h=>?_)
 obtain⟨b,l,ws,nb,ds,Φ,rfl,hB,hlive,hnb,hds,aD,hF⟩:=nh h
 obtain⟨p,wide,wd,rfl,hp,iU,w1,w2,uu,d1,d2,q⟩:=hF
 refine⟨_,(@ao _ _ _ _ _ (@aC _ _ (4) _ _ _ _ pX.nd rfl (Or.inr rfl) (@bE _ _ _ _ _ _ _ _ (dg K) dU rfl bf dP (@aa _ _ _ _ _ (pv 2) af rfl) (by decide) (by decide) (by rfl) (by rfl)) (by rfl) (by first|exact .inl rfl|exact .inr rfl|assumption)) (@ao _ _ _ _ _ (@aC _ _ (5) _ _ _ _ pX.nd rfl (Or.inl rfl) (@bE _ _ _ _ _ _ _ _ (uV P w) (DP rfl) rfl jj tu (@aa _ _ _ _ _ (@fS _ _ _ _ _ _ _ _ (uI P w K) (DU rfl) rfl oz FJ (@aa _ _ _ _ _ (fV (cQ.of (show eS (aN rB) ["bag","p","word","wide","n","places","pairs","rest","last"] _ ["k","bag","n"] [none,some 0,some 4]=true by decide+kernel)) (@jc _ _ _ _ _ _ rfl bD (@aa _ _ _ _ _ (@aB _ _ _ _ _ _ _ _ cS ai (@aF _ _ _ _ _ _ _ _ _ _ dB (hr.mono (by decide)) (@aa _ _ _ _ _ (pv 0) (@aa _ _ _ _ _ (pv 3) af rfl) rfl) (by rfl) (by decide) (by rfl) (by rfl))) af rfl) (by rfl)) (fun _ _ _ _=>⟨(aR (i:=0) (by show List.Nodup (["k","bag","n"]:List Str);decide+kernel) rfl (Or.inl rfl)),gK,(@aF _ _ _ _ _ _ _ _ _ _ dB (hr.mono (by decide)) (@aa _ _ _ _ _ (pv 1) (@aa _ _ _ _ _ (pv 2) af rfl) rfl) (by rfl) (by decide) (by rfl) (by rfl))⟩)) af rfl) (by decide) (by decide) (by rfl) (by rfl)) af rfl) (by decide) (by decide) (by rfl) (by rfl)) (by rfl) (by first|exact .inl rfl|exact .inr rfl|assumption)) (@ao _ _ _ _ _ (AU (i:=6) pX.nd rfl rfl (cQ.of (show eS (aN rB) ["bag","p","word","wide","n","places","pairs","rest","last"] _ ["place","bag","p"] [none,some 0,some 1]=true by decide+kernel)) (@fy _ _ _ _ (pv 5)) (fun _ _ _ _=>⟨(aR (i:=0) (by show List.Nodup (["place","bag","p"]:List Str);decide+kernel) rfl (Or.inl rfl)),gK,(@cy _ _ _ _ _ (@aa _ _ _ _ _ (pv 0) (@aa _ _ _ _ _ (@aB _ _ _ _ _ _ _ _ cS ai (@aF _ _ _ _ _ _ _ _ _ _ dB (hr.mono (by decide)) (@aa _ _ _ _ _ (pv 1) (@aa _ _ _ _ _ (@aB _ _ _ _ _ _ _ _ gc (pv 2) ai) af rfl) rfl) (by rfl) (by decide) (by rfl) (by rfl))) af rfl) rfl))⟩)) (@ao _ _ _ _ _ (@aC _ _ (7) _ _ _ _ pX.nd rfl (Or.inl rfl) (@aF _ _ _ _ _ _ _ _ _ _ zp (hr.mono (by decide)) (@aa _ _ _ _ _ (pv 1) (@aa _ _ _ _ _ (@nI _ _ _ _ _ _ _ _ _ (kX K) m5 (pv 6) n9 (@m8 _ _ _ (@vI _ _ _ _ _ _ u5 ai))) (@aa _ _ _ _ _ (pv 2) af rfl) rfl) rfl) (by rfl) (by decide) (by rfl) (by rfl)) (by rfl) (by first|exact .inl rfl|exact .inr rfl|assumption)) (@ao _ _ _ _ _ (@aC _ _ (8) _ _ _ _ pX.nd rfl (Or.inl rfl) (@au _ _ _ _ _ _ (cJ K) bz (pv 5) (@vI _ _ _ _ _ _ u5 ai) (fun _ _=>rfl)) (by rfl) (by first|exact .inl rfl|exact .inr rfl|assumption)) (@ao _ _ _ _ _ (@dj _ _ _ _ _ _ _ _ (PW.pt (mK (@bF _ _ _ _ _ _ _ _ jL (pv 7) ai (br _)) (mJ (@bF _ _ _ _ _ _ _ _ jL (@au _ _ _ _ _ _ (cJ K) bz (pv 2) (pv 8) (fun _ _=>rfl)) ai (br _))))) (@aE _ _ _ (@aZ _ _ _ _ (@aB _ _ _ _ _ _ _ _ jt (@nI _ _ _ _ _ _ _ _ _ (kX K) m5 (pv 6) n9 (@m8 _ _ _ (@vI _ _ _ _ _ _ u5 ai))) (@dM _ _ _ _ (@aa _ _ _ _ _ (@cy _ _ _ _ _ (@aa _ _ _ _ _ (pv 8) (@aa _ _ _ _ _ (@aF _ _ _ _ _ _ _ _ _ _ Po (hr.mono (by decide)) (@aa _ _ _ _ _ (pv 1) (@aa _ _ _ _ _ (@aB _ _ _ _ _ _ _ _ gc ai (pv 7)) (@aa _ _ _ _ _ (@au _ _ _ _ _ _ (cJ K) bz (pv 2) (pv 8) (fun _ _=>rfl)) af rfl) rfl) rfl) (by rfl) (by decide) (by rfl) (by rfl)) af rfl) rfl)) af rfl))))) dX) (@ao _ _ _ _ _ (@dj _ _ _ _ _ _ _ _ (PW.pt (mK (@bF _ _ _ _ _ _ _ _ iG (pv 7) ai (br _)) (mJ (@bF _ _ _ _ _ _ _ _ iG (@au _ _ _ _ _ _ (cJ K) bz (pv 2) (pv 8) (fun _ _=>rfl)) ai (br _))))) (@aE _ _ _ (@aZ _ _ _ _ (pv 6))) dX) (@aE _ _ _ (@aZ _ _ _ _ (@oN _ _ _ _ _ _ _ _ (PW.pt (mK (@bF _ _ _ _ _ _ _ _ iG (pv 7) ai (br _)) (mJ (@bF _ _ _ _ _ _ _ _ xP (@bE _ _ _ _ _ _ _ _ (dg K) dU rfl bf dP (@aa _ _ _ _ _ (pv 6) af rfl) (by decide) (by decide) (by rfl) (by rfl)) ai (br _))))) (@nI _ _ _ _ _ _ _ _ _ (kX K) m5 (pv 6) n9 (@m8 _ _ _ (@vI _ _ _ _ _ _ u5 ai))) lQ)))))))))),?_⟩
 refine Sv.nJ hB hlive hnb hds aD (ρ:=[.aA, .d false _, .d false _, .d false _, .no, .no, .no, .no, .no]) rfl ?_
 clear aD hds
 have p2:=hp.1
 have FL:(wd.map PyData.int).length=wd.length:=ak ..
 have hsm:∀x:Int,0<=x->x<=p->Sm x:=fun x x0 x1=>by unfold Sm;omega
 walk_at "dt"
 refine aG.ev (aG.FD (aG.ev (aG.nY (by decide) rfl ?_)))
 walk_at "dt"
 intro k0 k1 k2
 walk_at "dt"
 refine gz.ints (fun x=>0<=x/\x<(wd.map PyData.int).length) ?_ fun os jI hos=>⟨os,rfl,by omega,fun rs Bb hmem=>?_⟩
 ·rintro i d ⟨hi,rfl⟩
  walk_at "dt"
  refine⟨by walk_at "wk",?_⟩
  walk_at "dt"
  exact fun r r1 r2=>⟨r,rfl,r1,r2⟩
 have hrs:rs.Nodup:=Bb.imp fun h=>by omega
 have hrl:0<rs.length:=by
  have:0<os.length:=by omega
  obtain⟨y,hy⟩:=GI this
  exact C4 ((hmem y).mpr hy)
 have Va:rs.length<=os.length:=u6 hrs fun k hk=>(hmem k).mp hk
 walk_at "dt"
 refine aG.ev (aG.iY (by decide) rfl ?_)
 walk_at "dt"
 refine⟨by rw[ak];omega,fun v=>gz.rel pairD true (fun i pr=>rs[i]?=some pr.1/\1<=pr.2/\pr.2<p) ?_ fun prs hpl c5=>?_⟩
 ·rintro i d hd
  obtain⟨x,hx,rfl⟩:=fK hd
  walk_at "dt"
  refine⟨by walk_at "wk",?_⟩
  walk_at "dt"
  intro r r1 r2
  walk_at "dt"
  exact⟨fun _=>rfl,(x,1+r),rfl,hx,by show 1<=1+r;omega,by show 1+r<p;omega⟩
 rw[ak] at hpl
 have ve:prs.map (·.1)=rs:=by
  apply iw
  intro j
  rw[aX]
  cases e:prs[j]? with
  |none=>rw[gC (by have:=qx.mp e;omega)];rfl
  |some pr=>exact(c5 j pr e).1.symm
 have hQ:jD p wd.length prs:=⟨by rw[ve];exact hrs,by omega,fun pr aU=>by
  obtain⟨k,hk⟩:=mH aU
  have h2:=c5 k pr hk
  have h1:=hos pr.1 ((hmem _).mp (eK h2.1))
  omega⟩
 have OR:(prs.map pairD).length=prs.length:=ak ..
 have vD:eZ (prs.map pairD) none (some (-1))=prs.dropLast.map pairD:=by
  unfold eZ HT.dS
  simp only[Bm,Nat.sub_zero]
  rw[List.dropLast_eq_take,List.map_take,OR]
  congr 1
  first|omega|(split<;>omega)
 have hdl:prs.dropLast.length=prs.length-1:=List.length_dropLast ..
 have wG:jD p wd.length prs.dropLast:=⟨((List.dropLast_sublist prs).map _).nodup hQ.1,by omega,fun pr aU=>hQ.2.2 pr (List.dropLast_subset _ aU)⟩
 have Du:rs.length-1<rs.length:=by omega
 have KC:bx (rs.map PyData.int) (-1)=some (.int rs[rs.length-1]):=by
  unfold bx gV
  rw[if_neg (by decide),if_pos (by rw[ak];omega)]
  show(rs.map PyData.int)[_]?=_
  rw[aX,ak,show(-1+(rs.length:Int)).toNat=rs.length-1 by omega,aQ Du];rfl
 obtain⟨last,sO⟩:∃x,rs[rs.length-1]=x:=⟨_,rfl⟩
 rw[sO] at KC
 have rV:0<=last/\last<wd.length:=by
  have:=hos last ((hmem _).mp (sO▸ie Du))
  omega
 have hlt:last.toNat<wd.length:=by omega
 have WE:bx (wd.map PyData.int) last=some (.int wd[last.toNat]):=gY rV.1 (by rw[aX,aQ hlt];rfl)
 have hwl:=uu _ (ie hlt)
 generalize wd[last.toNat]=wl at*
 have hD:wd.map PyData.int=(wd.map some).map iN:=by rw[dz];rfl
 have Tw:l8 prs.dropLast (wd.map some).length:=fun pr aU=>by
  have:=wG.2.2 pr aU
  rw[ak]
  exact⟨this.1,this.2.1,hsm _ (by omega) (by omega)⟩
 have Ko:kK (wd.map some):=fun x hx=>by
  obtain⟨y,hy,e⟩:=bW.mp hx
  cases e
  have:=uu x hy
  exact hsm x (by omega) (by omega)
 walk_at "dt"
 refine Ev.aV DB ?_
 walk_at "dt"
 refine⟨rfl,p,prs.dropLast,wd.map some,by show[_,PyData.list _,PyData.list _]=_;rw[vD,hD],by omega,by omega,Tw,Ko,?_⟩
 have R0:=gJ (bq prs.dropLast (wd.map some)) (show p≠0 by omega)
 have R1:=gy (bq prs.dropLast (wd.map some)) (show 0<p by omega)
 generalize bq prs.dropLast (wd.map some)%p=R at*
 walk_at "dt"
 by_cases cR:R=0
 ·walk_at "dt"
  by_cases cw:wl=0
  ·walk_at "dt"
   exact q (some prs) _ (fun _ e=>by cases e;exact⟨hQ,uJ (by omega)⟩)
  ·walk_at "dt"
   by_cases cl:1<((prs.map pairD).length:Int)
   ·walk_at "dt"
    rw[vD]
    exact q (some prs.dropLast) _ (fun _ e=>by cases e;exact⟨wG,uJ (by omega)⟩)
   ·walk_at "dt"
    exact q none _ (fun _ e=>by cases e)
 ·walk_at "dt"
  by_cases cw:wl=0
  ·walk_at "dt"
   exact q none _ (fun _ e=>by cases e)
  ·have hwp:wl%p≠0:=by rw[q9 (by omega) (by omega)];exact cw
   walk_at "dt"
   refine Ev.aV Vb ?_
   walk_at "dt"
   refine⟨rfl,p,0-R,wl,rfl,hp,iU,hwp,by omega,by omega,fun⟨k,hk⟩=>?_⟩
   have hs:=vJ (p:=p) (b:=wl) (a:=0-R) (by omega)
   generalize sol p wl (0-R)=sl at*
   have hs1:sl≠0:=fun z=>by
    subst z
    rw[Int.mul_zero] at hk
    have Wc:R=p*k:=by omega
    rcases Int.lt_trichotomy k 0 with z|z|z
    ·have:p*k<=p*(-1):=rM (by omega) (by omega)
     omega
    ·subst z;omega
    ·have:p*1<=p*k:=rM (by omega) (by omega)
     omega
   walk_at "dt"
   refine⟨by rw[vD,ak];show _+1<=10000;omega,?_⟩
   show Φ _ (.list (eZ (prs.map pairD) none (some (-1))++[pairD (last,sl)]))
   rw[vD,show(prs.dropLast.map pairD++[pairD (last,sl)])=(prs.dropLast++[(last,sl)]).map pairD by rw[cN];rfl]
   refine q (some (prs.dropLast++[(last,sl)])) _ (fun _ e=>?_)
   cases e
   have hdr:(prs.dropLast++[(last,sl)]).map (·.1)=rs:=by
    rw[cN,List.map_dropLast,ve,List.map_singleton,<-sO]
    have:=List.dropLast_concat_getLast (uJ hrl)
    rw[List.getLast_eq_getElem] at this
    exact this
   refine⟨⟨by rw[hdr];exact hrs,by rw[bP,fE];omega,fun pr aU=>?_⟩,by simp⟩
   rcases gP.mp aU with h|h
   ·exact wG.2.2 pr h
   ·rw[cg.mp h]
    exact⟨rV.1,rV.2,by show 1<=sl;omega,hs.2⟩
def zy:DF:=fun ds Φ=>∃(p many wide:Int) (wd:List Int),ds=[.int p, .list (wd.map .int), .int many, .int wide]/\fO p/\p<10^40/\1<=wd.length/\wd.length<=400/\(∀x∈wd,0<=x/\x<p)/\0<=many/\many<=400/\1<=wide/\wide<=60/\∀(cs:List aq) (f:Bool),(cs.length:Int)<=many->(∀prs∈cs,jD p wd.length prs/\prs≠[])->Φ f (cL p wd.length cs)
theorem M4:cO zy:=by
 intro ds Φ Ψ hm z
 obtain⟨p,m,w,wd,e,h1,h2,h3,h4,h5,h6,h7,h8,h9,q⟩:=hm
 exact⟨p,m,w,wd,e,h1,h2,h3,h4,h5,h6,h7,h8,h9,fun cs f a b=>z _ _ (q cs f a b)⟩
theorem Ke(o:Option aq):p5 (tX o)=o.isNone:=by cases o<;>rfl
theorem IJ:cz ["bag","p","word","many","wide","checks"] ["bag","p","word","many","wide"] (aN rL):=⟨rfl,rfl,rfl,by decide+kernel,rfl,by decide+kernel,by decide+kernel⟩
theorem RJ(F:bL K "_law_planted" "_law_planted" rL f fd)(Ro:Callee P w K mg base "_law_planted_check" 3 ["bag","p","word","wide"] (fX 4 xA))(bf:mg "len"=none)(bD:mg "range"=none):
    bG P w K mg base bN 4 f fd ["bag","p","word","many","wide"] (fX 5 zy):=by
  refine F.ok IJ (fun vs H Q E h=>h.1) (fun cdv A outer s H vs Q E hr h=>?_)
  obtain⟨b,l,ws,nb,ds,Φ,rfl,hB,hlive,hnb,hds,aD,hF⟩:=nh h
  obtain⟨p,many,wide,wd,rfl,hp,iU,w1,w2,uu,m1,m2,d1,d2,q⟩:=hF
  refine⟨_,(@ao _ _ _ _ _ (AU (i:=5) IJ.nd rfl rfl (cQ.of (show eS (aN rL) ["bag","p","word","many","wide","checks"] _ ["c","bag","p","word","wide"] [none,some 0,some 1,some 2,some 4]=true by decide+kernel)) (@jc _ _ _ _ _ _ rfl bD (@aa _ _ _ _ _ (pv 3) af rfl) (by rfl)) (fun _ _ _ _=>⟨(aR (i:=0) (by show List.Nodup (["c","bag","p","word","wide"]:List Str);decide+kernel) rfl (Or.inl rfl)),gK,(@aF _ _ _ _ _ _ _ _ _ _ Ro (hr.mono (by decide)) (@aa _ _ _ _ _ (pv 1) (@aa _ _ _ _ _ (pv 2) (@aa _ _ _ _ _ (pv 3) (@aa _ _ _ _ _ (pv 4) af rfl) rfl) rfl) rfl) (by rfl) (by decide) (by rfl) (by rfl))⟩)) (@aE _ _ _ (@aZ _ _ _ _ (@cy _ _ _ _ _ (@aa _ _ _ _ _ (pv 1) (@aa _ _ _ _ _ (@bE _ _ _ _ _ _ _ _ (dg K) dU rfl bf dP (@aa _ _ _ _ _ (pv 2) af rfl) (by decide) (by decide) (by rfl) (by rfl)) (@aa _ _ _ _ _ (fV (cQ.of (show eS (aN rL) ["bag","p","word","many","wide","checks"] _ ["pairs"] [none]=true by decide+kernel)) (@fy _ _ _ _ (pv 5)) (fun _ _ _ _=>⟨(aR (i:=0) (by show List.Nodup (["pairs"]:List Str);decide+kernel) rfl (Or.inl rfl)),(pZ (@bF _ _ _ _ _ _ _ _ tW (pv 0) lQ (br _))),(pv 0)⟩)) af rfl) rfl) rfl))))),?_⟩
  refine Sv.nJ hB hlive hnb hds aD (ρ:=[.aA, .d false _, .d false _, .d false _, .d false _, .no]) rfl ?_
  clear aD hds
  have FL:(wd.map PyData.int).length=wd.length:=ak ..
  walk_at "dt"
  refine aG.ev (aG.nY (by decide) rfl ?_)
  walk_at "dt"
  refine gz.rel tX false (fun _ o=>∀prs,o=some prs->jD p wd.length prs/\prs≠[]) ?_ fun os jI hos=>?_
  · rintro i d ⟨hi,rfl⟩
    walk_at "dt"
    refine⟨by walk_at "wk",?_⟩
    refine Ev.lG Vt rfl ?_
    walk_at "dt"
    exact⟨rfl,p,wide,wd,rfl,hp,iU,w1,w2,uu,d1,d2,fun o f h=>⟨(fun z=>by cases z),o,rfl,h⟩⟩
  walk_at "dt"
  refine aG.ev (aG.iY (by decide) rfl ?_)
  walk_at "dt"
  refine⟨by rw[ak];omega,fun v=>⟨false,fun i ds=>∃es:List aq,ds=es.map dw/\es.length<=i/\∀prs∈es,jD p wd.length prs/\prs≠[],⟨[],rfl,aI _,(fun _ h=>nomatch h)⟩,?_,?_⟩⟩
  · rintro j d ds hd hl' ⟨es,rfl,hel,hes⟩
    obtain⟨o,ho,rfl⟩:=fK hd
    walk_at "dt"
    refine⟨by walk_at "wk",?_⟩
    walk_at "dt"
    rw[Ke]
    cases o with
    | none =>
      walk_at "dt"
      exact⟨es,rfl,by omega,hes⟩
    | some prs =>
      rw[show tX (some prs)=dw prs from rfl]
      walk_at "dt"
      refine⟨es++[prs],by rw[cN];rfl,by simp;omega,fun q hq=>?_⟩
      rcases gP.mp hq with h|h
      · exact hes q h
      · rw[cg.mp h];exact hos j _ ho prs rfl
  rintro ds hl' ⟨es,rfl,hel,hes⟩
  walk_at "dt"
  rw[ak] at hel
  show Φ _ (.tuple [.int p, .int ((wd.map PyData.int).length:Int), .list (es.map dw)])
  rw[FL]
  exact q es _ (by omega) hes
def zo:DF:=fun ds Φ=>∃(p places many wide:Int),ds=[.int p, .int places, .int many, .int wide]/\fO p/\p<10^40/\1<=places/\places<=400/\0<=many/\many<=400/\1<=wide/\wide<=60/\∀(n:Int) (cs:List aq) (f:Bool),eY p n cs->(∀prs∈cs,prs≠[])->n<=places->(cs.length:Int)<=many->Φ f (cL p n cs)
theorem PY:cO zo:=by
 intro ds Φ Ψ hm z
 obtain⟨p,a,b,c,e,hp,h4,h1,h2,h3,h5,h6,h7,q⟩:=hm
 exact⟨p,a,b,c,e,hp,h4,h1,h2,h3,h5,h6,h7,fun n cs f h o g k=>z _ _ (q n cs f h o g k)⟩
theorem qE:cz ["bag","p","places","many","wide","n","checks","c","there"] ["bag","p","places","many","wide"] (aN qM):=⟨rfl,rfl,rfl,by decide+kernel,rfl,by decide+kernel,by decide+kernel⟩
theorem Vh(F:bL K "_law_net" "_law_net" qM f fd)(dB:Callee P w K mg base "_law_draw" 2 ["bag","many"] jN)(bD:mg "range"=none)(jj:mg "sorted"=none)(oz:mg "set"=none):
  bG P w K mg base bN 3 f fd ["bag","p","places","many","wide"] (fX 5 zo):=by
 refine F.ok qE (fun vs H Q E h=>h.1) (fun cdv A outer s H vs Q E hr h=>?_)
 obtain⟨b,l,ws,nb,ds,Φ,rfl,hB,hlive,hnb,hds,aD,hF⟩:=nh h
 obtain⟨p,places,many,wide,rfl,hp,iU,l1,l2,m1,m2,w1,w2,q⟩:=hF
 refine⟨_,(@ao _ _ _ _ _ (@aC _ _ (5) _ _ _ _ qE.nd rfl (Or.inr rfl) (@aB _ _ _ _ _ _ _ _ cS ai (@aF _ _ _ _ _ _ _ _ _ _ dB (hr.mono (by decide)) (@aa _ _ _ _ _ (pv 0) (@aa _ _ _ _ _ (pv 2) af rfl) rfl) (by rfl) (by decide) (by rfl) (by rfl))) (by rfl) (by first|exact .inl rfl|exact .inr rfl|assumption)) (@ao _ _ _ _ _ (@aC _ _ (6) _ _ _ _ qE.nd rfl (Or.inl rfl) (@dM _ _ _ _ af) (by rfl) (by first|exact .inl rfl|exact .inr rfl|assumption)) (@ao _ _ _ _ _ (@fW _ _ _ _ _ _ _ _ eU rfl (@jc _ _ _ _ _ _ rfl bD (@aa _ _ _ _ _ (@aF _ _ _ _ _ _ _ _ _ _ dB (hr.mono (by decide)) (@aa _ _ _ _ _ (pv 0) (@aa _ _ _ _ _ (@aB _ _ _ _ _ _ _ _ cS (pv 3) ai) af rfl) rfl) (by rfl) (by decide) (by rfl) (by rfl)) af rfl) (by rfl)) (aR (i:=7) qE.nd rfl (Or.inl rfl)) (@ao _ _ _ _ _ (@aC _ _ (8) _ _ _ _ qE.nd rfl (Or.inl rfl) (@bE _ _ _ _ _ _ _ _ (uV P w) (DP rfl) rfl jj tu (@aa _ _ _ _ _ (@fS _ _ _ _ _ _ _ _ (uI P w K) (DU rfl) rfl oz FJ (@aa _ _ _ _ _ (fV (cQ.of (show eS (aN qM) ["bag","p","places","many","wide","n","checks","c","there"] _ ["k","bag","n"] [none,some 0,some 5]=true by decide+kernel)) (@jc _ _ _ _ _ _ rfl bD (@aa _ _ _ _ _ (@aB _ _ _ _ _ _ _ _ cS ai (@aF _ _ _ _ _ _ _ _ _ _ dB (hr.mono (by decide)) (@aa _ _ _ _ _ (pv 0) (@aa _ _ _ _ _ (pv 4) af rfl) rfl) (by rfl) (by decide) (by rfl) (by rfl))) af rfl) (by rfl)) (fun _ _ _ _=>⟨(aR (i:=0) (by show List.Nodup (["k","bag","n"]:List Str);decide+kernel) rfl (Or.inl rfl)),gK,(@aF _ _ _ _ _ _ _ _ _ _ dB (hr.mono (by decide)) (@aa _ _ _ _ _ (pv 1) (@aa _ _ _ _ _ (pv 2) af rfl) rfl) (by rfl) (by decide) (by rfl) (by rfl))⟩)) af rfl) (by decide) (by decide) (by rfl) (by rfl)) af rfl) (by decide) (by decide) (by rfl) (by rfl)) (by rfl) (by first|exact .inl rfl|exact .inr rfl|assumption)) (@aE _ _ _ (@jY _ _ _ _ (jm j4 kG j6 jO (pv 6) (@aa _ _ _ _ _ (fV (cQ.of (show eS (aN qM) ["bag","p","places","many","wide","n","checks","c","there"] _ ["place","bag","p"] [none,some 0,some 1]=true by decide+kernel)) (@fy _ _ _ _ (pv 8)) (fun _ _ _ _=>⟨(aR (i:=0) (by show List.Nodup (["place","bag","p"]:List Str);decide+kernel) rfl (Or.inl rfl)),gK,(@cy _ _ _ _ _ (@aa _ _ _ _ _ (pv 0) (@aa _ _ _ _ _ (@aB _ _ _ _ _ _ _ _ cS ai (@aF _ _ _ _ _ _ _ _ _ _ dB (hr.mono (by decide)) (@aa _ _ _ _ _ (pv 1) (@aa _ _ _ _ _ (@aB _ _ _ _ _ _ _ _ gc (pv 2) ai) af rfl) rfl) (by rfl) (by decide) (by rfl) (by rfl))) af rfl) rfl))⟩)) af rfl)) (by rfl)))) (by intro _;rfl)) (@aE _ _ _ (@aZ _ _ _ _ (@cy _ _ _ _ _ (@aa _ _ _ _ _ (pv 1) (@aa _ _ _ _ _ (pv 5) (@aa _ _ _ _ _ (pv 6) af rfl) rfl) rfl))))))),?_⟩
 refine Sv.nJ hB hlive hnb hds aD (ρ:=[.aA, .d false _, .d false _, .d false _, .d false _, .no, .no, .no, .no]) rfl ?_
 clear aD hds
 have p2:=hp.1
 walk_at "dt"
 intro n n0 n1
 walk_at "dt"
 intro A6
 refine Sv.seq ?_
 refine Sv.oQ ?_
 walk_at "dt"
 intro m mm0 mm1
 walk_at "dt"
 refine⟨fun c ρ=>∃(cs:List aq) (f6:Bool) (x7 x8:Sl),cs.length<=c/\(∀prs∈cs,jD p (1+n).toNat prs/\prs≠[])/\ρ=[.aA, .d false (.int p), .d false (.int places), .d false (.int many), .d false (.int wide), .d true (.int (1+n)), .own A6 f6 (cs.map dw),x7,x8],⟨[],_,_,_,aI _,(fun _ h=>nomatch h),rfl⟩,?_,?_⟩
 ·rintro c d ρ ⟨hc,rfl⟩ ⟨cs,f6,x7,x8,hcl,hcs,rfl⟩
  refine Gv.qu ?_
  walk_at "dt"
  refine aG.ev (aG.FD (aG.ev (aG.nY (by decide) rfl ?_)))
  walk_at "dt"
  intro k0 k1 k2
  walk_at "dt"
  refine gz.ints (fun x=>0<=x/\x<1+n) ?_ fun os jI hos=>⟨os,rfl,by omega,fun rs Bb hmem=>?_⟩
  ·rintro i d ⟨hi,rfl⟩
   walk_at "dt"
   refine⟨by walk_at "wk",?_⟩
   walk_at "dt"
   exact fun r r1 r2=>⟨r,rfl,r1,r2⟩
  have hrs:rs.Nodup:=Bb.imp fun h=>by omega
  have hrl:0<rs.length:=by
   have:0<os.length:=by omega
   obtain⟨y,hy⟩:=GI this
   exact C4 ((hmem y).mpr hy)
  have Va:rs.length<=os.length:=u6 hrs fun k hk=>(hmem k).mp hk
  walk_at "dt"
  refine aG.ev (aG.iY (by decide) rfl ?_)
  walk_at "dt"
  refine⟨by rw[ak];omega,fun v=>gz.rel pairD true (fun i pr=>rs[i]?=some pr.1/\1<=pr.2/\pr.2<p) ?_ fun prs hpl c5=>?_⟩
  ·rintro i d hd
   obtain⟨x,hx,rfl⟩:=fK hd
   walk_at "dt"
   refine⟨by walk_at "wk",?_⟩
   walk_at "dt"
   intro r r1 r2
   walk_at "dt"
   exact⟨fun _=>rfl,(x,1+r),rfl,hx,by show 1<=1+r;omega,by show 1+r<p;omega⟩
  rw[ak] at hpl
  have ve:prs.map (·.1)=rs:=by
   apply iw
   intro j
   rw[aX]
   cases e:prs[j]? with
   |none=>rw[gC (by have:=qx.mp e;omega)];rfl
   |some pr=>exact(c5 j pr e).1.symm
  have hQ:jD p (1+n).toNat prs:=⟨by rw[ve];exact hrs,by omega,fun pr aU=>by
   obtain⟨k,hk⟩:=mH aU
   have h2:=c5 k pr hk
   have h1:=hos pr.1 ((hmem _).mp (eK h2.1))
   omega⟩
  refine⟨by rw[ak];omega,?_⟩
  refine⟨cs++[prs],_,_,_,by rw[bP,fE];omega,fun q' hq'=>?_,by rw[cN];rfl⟩
  rcases gP.mp hq' with h|h
  ·exact hcs q' h
  ·rw[cg.mp h];exact⟨hQ,uJ (by omega)⟩
 ·rintro ρ ⟨cs,f6,x7,x8,hcl,hcs,rfl⟩
  refine Sv.lD 6 rfl ?_
  walk_at "dt"
  exact q (1+n) cs _ ⟨hp,iU,by omega,by omega,by omega,fun prs h=>(hcs prs h).1⟩ (fun prs h=>(hcs prs h).2) (by omega) (by omega)
def Ak:DF:=fun ds Φ=>∃(p places many wide:Int),ds=[.int p, .int places, .int many, .int wide]/\fO p/\p<10^40/\1<=places/\places<=62/\0<=many/\many<=61/\1<=wide/\wide<=60/\∀(n:Int) (cs:List aq) (ws:List Int) (f:Bool),eY p n cs->(∀prs∈cs,prs≠[])->n<=places->(cs.length:Int)<=many->ws.length=n.toNat->(∀x∈ws,0<=x/\x<p)->Φ f (.tuple [cL p n cs,bO ws])
theorem HF:cO Ak:=by
 intro ds Φ Ψ hm z
 obtain⟨p,a,b,c,e,hp,h4,h1,h2,h3,h5,h6,h7,q⟩:=hm
 exact⟨p,a,b,c,e,hp,h4,h1,h2,h3,h5,h6,h7,fun n cs ws f h o g k l m=>z _ _ (q n cs ws f h o g k l m)⟩
theorem l5:cz ["bag","p","places","many","wide","way","net","word","k","at"] ["bag","p","places","many","wide"] (aN Ag):=⟨rfl,rfl,rfl,by decide+kernel,rfl,by decide+kernel,by decide+kernel⟩
theorem OS(F:bL K "_law_side" "_law_side" Ag f fd)(dB:Callee P w K mg base "_law_draw" 2 ["bag","many"] jN)(RE:Callee P w K mg base "_law_net" 3 ["bag","p","places","many","wide"] (fX 5 zo))(NZ:Callee P w K mg base "_law_letters" 3 ["bag","p","n"] (fX 3 zJ))(Qs:Callee P w K mg base "_law_planted" 4 ["bag","p","word","many","wide"] (fX 5 zy))(bD:mg "range"=none):
  bG P w K mg base bN 5 f fd ["bag","p","places","many","wide"] (fX 5 Ak):=by
 refine F.ok l5 (fun vs H Q E h=>h.1) (fun cdv A outer s H vs Q E hr h=>?_)
 obtain⟨b,l,ws,nb,ds,Φ,rfl,hB,hlive,hnb,hds,aD,hF⟩:=nh h
 obtain⟨p,places,many,wide,rfl,hp,iU,l1,l2,m1,m2,w1,w2,q⟩:=hF
 refine⟨_,(@ao _ _ _ _ _ (@aC _ _ (5) _ _ _ _ l5.nd rfl (Or.inl rfl) (@aF _ _ _ _ _ _ _ _ _ _ dB (hr.mono (by decide)) (@aa _ _ _ _ _ (pv 0) (@aa _ _ _ _ _ ai af rfl) rfl) (by rfl) (by decide) (by rfl) (by rfl)) (by rfl) (by first|exact .inl rfl|exact .inr rfl|assumption)) (@ao _ _ _ _ _ (@aC _ _ (6) _ _ _ _ l5.nd rfl (Or.inl rfl) (@aF _ _ _ _ _ _ _ _ _ _ RE (hr.mono (by decide)) (@aa _ _ _ _ _ (pv 0) (@aa _ _ _ _ _ (pv 1) (@aa _ _ _ _ _ (pv 2) (@aa _ _ _ _ _ (pv 3) (@aa _ _ _ _ _ (pv 4) af rfl) rfl) rfl) rfl) rfl) (by rfl) (by decide) (by rfl) (by rfl)) (by rfl) (by first|exact .inl rfl|exact .inr rfl|assumption)) (@ao _ _ _ _ _ (@aC _ _ (7) _ _ _ _ l5.nd rfl (Or.inl rfl) (@aF _ _ _ _ _ _ _ _ _ _ NZ (hr.mono (by decide)) (@aa _ _ _ _ _ (pv 0) (@aa _ _ _ _ _ (pv 1) (@aa _ _ _ _ _ (@au _ _ _ _ _ _ (aL K) aO (pv 6) ai (fun _ _=>rfl)) af rfl) rfl) rfl) (by rfl) (by decide) (by rfl) (by rfl)) (by rfl) (by first|exact .inl rfl|exact .inr rfl|assumption)) (@ao _ _ _ _ _ (@dj _ _ _ _ _ _ _ _ (@bF _ _ _ _ _ _ _ _ xP (pv 5) ai (br _)) (@ao _ _ _ _ _ (@aC _ _ (6) _ _ _ _ l5.nd rfl (Or.inl rfl) (@aF _ _ _ _ _ _ _ _ _ _ Qs (hr.mono (by decide)) (@aa _ _ _ _ _ (pv 0) (@aa _ _ _ _ _ (pv 1) (@aa _ _ _ _ _ (pv 7) (@aa _ _ _ _ _ (@aF _ _ _ _ _ _ _ _ _ _ dB (hr.mono (by decide)) (@aa _ _ _ _ _ (pv 0) (@aa _ _ _ _ _ (@aB _ _ _ _ _ _ _ _ cS (pv 3) ai) af rfl) rfl) (by rfl) (by decide) (by rfl) (by rfl)) (@aa _ _ _ _ _ (pv 4) af rfl) rfl) rfl) rfl) rfl) (by rfl) (by decide) (by rfl) (by rfl)) (by rfl) (by first|exact .inl rfl|exact .inr rfl|assumption)) (@aE _ _ _ (@fW _ _ _ _ _ _ _ _ eU rfl (@jc _ _ _ _ _ _ rfl bD (@aa _ _ _ _ _ (@aF _ _ _ _ _ _ _ _ _ _ dB (hr.mono (by decide)) (@aa _ _ _ _ _ (pv 0) (@aa _ _ _ _ _ ai af rfl) rfl) (by rfl) (by decide) (by rfl) (by rfl)) af rfl) (by rfl)) (aR (i:=8) l5.nd rfl (Or.inl rfl)) (@ao _ _ _ _ _ (@aC _ _ (9) _ _ _ _ l5.nd rfl (Or.inl rfl) (@aF _ _ _ _ _ _ _ _ _ _ dB (hr.mono (by decide)) (@aa _ _ _ _ _ (pv 0) (@aa _ _ _ _ _ (@au _ _ _ _ _ _ (aL K) aO (pv 6) ai (fun _ _=>rfl)) af rfl) rfl) (by rfl) (by decide) (by rfl) (by rfl)) (by rfl) (by first|exact .inl rfl|exact .inr rfl|assumption)) (@aE _ _ _ (@aC _ _ (7) _ _ _ _ l5.nd rfl (Or.inl rfl) (@aB _ _ _ _ _ _ _ _ jt (@aB _ _ _ _ _ _ _ _ jt (@nI _ _ _ _ _ _ _ _ _ (kX K) m5 (pv 7) n9 (@m8 _ _ _ (pv 9))) (@dM _ _ _ _ (@aa _ _ _ _ _ (@aF _ _ _ _ _ _ _ _ _ _ dB (hr.mono (by decide)) (@aa _ _ _ _ _ (pv 0) (@aa _ _ _ _ _ (pv 1) af rfl) rfl) (by rfl) (by decide) (by rfl) (by rfl)) af rfl))) (@nI _ _ _ _ _ _ _ _ _ (kX K) m5 (pv 7) (@m8 _ _ _ (@aB _ _ _ _ _ _ _ _ cS (pv 9) ai)) n9)) (by rfl) (by first|exact .inl rfl|exact .inr rfl|assumption)))) (by intro _;rfl)))) dX) (@aE _ _ _ (@aZ _ _ _ _ (@cy _ _ _ _ _ (@aa _ _ _ _ _ (pv 6) (@aa _ _ _ _ _ (pv 7) af rfl) rfl)))))))),?_⟩
 refine Sv.nJ hB hlive hnb hds aD (ρ:=[.aA, .d false _, .d false _, .d false _, .d false _, .no, .no, .no, .no, .no]) rfl ?_
 clear aD hds
 have p2:=hp.1
 walk_at "dt"
 intro way y0 y1
 walk_at "dt"
 refine Ev.lG PY rfl ?_
 walk_at "dt"
 refine⟨rfl,p,places,many,wide,rfl,hp,iU,l1,by omega,m1,by omega,w1,w2,fun n cs f hV hne hn hcl=>?_⟩
 have n0:=hV.n0
 have n1:=hV.n1
 have hsm:∀(n:Int) (ws:List Int) (k:Int),0<=k->k<(ws.length:Int)->∀y,eZ (ws.map PyData.int) none (some k)++[.int y]++eZ (ws.map PyData.int) (some (k+1)) none=(ws.set k.toNat y).map .int:=fun n ws k h0 h1 y=>by
  rw[LS h0 (by rw[ak];exact h1),yb]
 walk_at "dt"
 refine Ev.lG Lg rfl ?_
 walk_at "dt"
 refine⟨rfl,p,n,rfl,⟨by omega,by omega⟩,by omega,by omega,fun ws hwl hws=>?_⟩
 by_cases cw:0<way
 ·walk_at "dt"
  refine Ev.lG M4 rfl ?_
  walk_at "dt"
  intro u0 u1 u2
  walk_at "dt"
  refine⟨rfl,p,_,wide,ws,rfl,hp,iU,by omega,by omega,hws,by omega,by omega,w1,w2,fun Ii f2 hc2 hq2=>?_⟩
  refine Gv.k8 ?_
  refine Sv.oQ ?_
  walk_at "dt"
  intro g0 g1 g2
  walk_at "dt"
  refine⟨fun i ρ=>∃(fk:List Int) (f7:Bool) (x8 x9:Sl),fk.length=ws.length/\(∀x∈fk,0<=x/\x<p)/\ρ=[.aA, .d false (.int p), .d false (.int places), .d false (.int many), .d false (.int wide), .d true (.int way), .d false (cL p (ws.length:Int) Ii), .d f7 (.list (fk.map .int)),x8,x9],⟨ws,_,_,_,rfl,hws,rfl⟩,?_,?_⟩
  ·rintro i d ρ ⟨hi,rfl⟩ ⟨fk,f7,x8,x9,hl',hw',rfl⟩
   have nV:(fk.map PyData.int).length=fk.length:=ak ..
   walk_at "dt"
   intro pI a1 a2
   have hc1:=Di (xs:=fk.map PyData.int) (lo:=none) (hi:=some pI)
   have hc2:=Di (xs:=fk.map PyData.int) (lo:=some (pI+1)) (hi:=none)
   walk_at "dt"
   intro y y1 y2
   walk_at "dt"
   refine⟨by show _+1<=_;omega,_,rfl,?_⟩
   walk_at "dt"
   refine⟨by rw[bP];show _+1+_<=_;omega,?_⟩
   show Gv _ _ _ _ (.list (eZ (fk.map PyData.int) none (some pI)++[.int y]++eZ (fk.map PyData.int) (some (pI+1)) none)) _
   rw[hsm n fk pI a1 (by omega) y]
   refine Gv.name ?_
   exact⟨fk.set pI.toNat y,_,_,_,by rw[fh];exact hl',fun x hx=>(AY hx).elim (hw' x) fun z=>z▸⟨y1,y2⟩,rfl⟩
  rintro ρ ⟨fk,f7,x8,x9,hl',hw',rfl⟩
  walk_at "dt"
  exact q (ws.length:Int) Ii fk _ ⟨hp,iU,by omega,by omega,by omega,fun prs h=>by rw[eT];exact(hq2 prs h).1⟩ (fun prs h=>(hq2 prs h).2) (by omega) (by omega) (by omega) hw'
 ·walk_at "dt"
  exact q n cs ws _ hV hne hn hcl (by omega) hws
def pQ:Nat->PyData->Prop
 |0,_=>False
 |n+1,d=>ji d=true\/∃ds,(d= .list ds\/d= .tuple ds)/\ds.length<=10000/\∀e∈ds,pQ n e
def nA(n:Nat):DF:=fun ds Φ=>∃d,ds=[d,d]/\pQ n d/\Φ true (.bool true)
theorem oR(n:Nat):cO (nA n):=fun ds Φ Ψ ⟨d,e,h,q⟩ z=>⟨d,e,h,z _ _ q⟩
theorem OC:∀vs H Q E,¬aS 2 (nA 0) vs H Q E:=fun vs H Q E ⟨_,_,_,_,_,d,_,h,_⟩=>h
theorem L0:cz ["found","due"] ["found","due"] (aN t7):=⟨rfl,rfl,rfl,by decide+kernel,rfl,by decide+kernel,by decide+kernel⟩
theorem qj(n:Nat)(F:bL K "_law_alike" "_law_alike" t7 f fd)(mT:Callee P w K mg base "_law_alike" (n) ["found","due"] (aS 2 (nA n)))(gM:mg "isinstance"=none)(bS:mg "list"=none)(lP:mg "tuple"=none)(nH:mg "all"=none)(bf:mg "len"=none)(mG:mg "bool"=none)(jV:mg "int"=none)(lU:mg "str"=none)(bD:mg "range"=none):
  bG P w K mg base bN (n+1) f fd ["found","due"] (aS 2 (nA (n+1))):=by
 refine F.ok L0 (fun vs H Q E h=>h.1) (fun cdv A outer s H vs Q E hr h=>?_)
 obtain⟨nb,ds,Φ,hlive,hds,aD,hF⟩:=fc h
 obtain⟨d,rfl,hok,q⟩:=hF
 refine⟨_,(@ao _ _ _ _ _ (@dj _ _ _ _ _ _ _ _ (@kE _ (K) _ _ rfl (@bE _ _ _ _ _ _ _ _ (uD) De rfl gM kc (@aa _ _ _ _ _ (pv 1) (@aa _ _ _ _ _ (@cy _ _ _ _ _ (@aa _ _ _ _ _ (jl (v:= .ty "list") rfl bS gv rfl) (@aa _ _ _ _ _ (jl (v:= .ty "tuple") rfl lP Dy rfl) af rfl) rfl)) af rfl) rfl) (by decide) (by decide) (by rfl) (by rfl)) (fun _=>rfl)) (@ao _ _ _ _ _ (@dj _ _ _ _ _ _ _ _ (PW.pt (BZ (@nk _ _ _ _ (@kE _ (K) _ _ rfl (@bE _ _ _ _ _ _ _ _ (uD) De rfl gM kc (@aa _ _ _ _ _ (pv 0) (@aa _ _ _ _ _ (@cy _ _ _ _ _ (@aa _ _ _ _ _ (jl (v:= .ty "list") rfl bS gv rfl) (@aa _ _ _ _ _ (jl (v:= .ty "tuple") rfl lP Dy rfl) af rfl) rfl)) af rfl) rfl) (by decide) (by decide) (by rfl) (by rfl)) (fun _=>rfl))) (wO (@bF _ _ _ _ _ _ _ _ jL (@bE _ _ _ _ _ _ _ _ (kC K) lN rfl gM kc (@aa _ _ _ _ _ (pv 0) (@aa _ _ _ _ _ (jl (v:= .ty "list") rfl bS gv rfl) af rfl) rfl) (by decide) (by decide) (by rfl) (by rfl)) (@bE _ _ _ _ _ _ _ _ (kC K) lN rfl gM kc (@aa _ _ _ _ _ (pv 1) (@aa _ _ _ _ _ (jl (v:= .ty "list") rfl bS gv rfl) af rfl) rfl) (by decide) (by decide) (by rfl) (by rfl)) (br _))))) (@aE _ _ _ (@aZ _ _ _ _ jG)) dX) (@ao _ _ _ _ _ (@dj _ _ _ _ _ _ _ _ (@bF _ _ _ _ _ _ _ _ jL (@bE _ _ _ _ _ _ _ _ (dg K) dU rfl bf dP (@aa _ _ _ _ _ (pv 0) af rfl) (by decide) (by decide) (by rfl) (by rfl)) (@bE _ _ _ _ _ _ _ _ (dg K) dU rfl bf dP (@aa _ _ _ _ _ (pv 1) af rfl) (by decide) (by decide) (by rfl) (by rfl)) (br _)) (@aE _ _ _ (@aZ _ _ _ _ jG)) dX) (@aE _ _ _ (@aZ _ _ _ _ (@bE _ _ _ _ _ _ _ _ (Aw K) (Rx rfl) rfl nH PyProof.Rows.boot_all (@aa _ _ _ _ _ (fV (cQ.of (show eS (aN t7) ["found","due"] _ ["k","found","due"] [none,some 0,some 1]=true by decide+kernel)) (@jc _ _ _ _ _ _ rfl bD (@aa _ _ _ _ _ (@bE _ _ _ _ _ _ _ _ (dg K) dU rfl bf dP (@aa _ _ _ _ _ (pv 1) af rfl) (by decide) (by decide) (by rfl) (by rfl)) af rfl) (by rfl)) (fun _ _ _ _=>⟨(aR (i:=0) (by show List.Nodup (["k","found","due"]:List Str);decide+kernel) rfl (Or.inl rfl)),gK,(@aF _ _ _ _ _ _ _ _ _ _ mT (hr.mono (aI _)) (@aa _ _ _ _ _ (@au _ _ _ _ _ _ (sJ K) Ja (pv 1) (pv 0) (fun _ _=>rfl)) (@aa _ _ _ _ _ (@au _ _ _ _ _ _ (sJ K) Ja (pv 2) (pv 0) (fun _ _=>rfl)) af rfl) rfl) (by rfl) (by decide) (by rfl) (by rfl))⟩)) af rfl) (by decide) (by decide) (by rfl) (by rfl)))))) dX) (@ao _ _ _ _ _ (@dj _ _ _ _ _ _ _ _ (PW.pt (BZ (@bF _ _ _ _ _ _ _ _ jL (@bE _ _ _ _ _ _ _ _ (kC K) lN rfl gM kc (@aa _ _ _ _ _ (pv 0) (@aa _ _ _ _ _ (jl (v:= .ty "bool") rfl mG Fi rfl) af rfl) rfl) (by decide) (by decide) (by rfl) (by rfl)) (@bE _ _ _ _ _ _ _ _ (kC K) lN rfl gM kc (@aa _ _ _ _ _ (pv 1) (@aa _ _ _ _ _ (jl (v:= .ty "bool") rfl mG Fi rfl) af rfl) rfl) (by decide) (by decide) (by rfl) (by rfl)) (br _)) (wO (@bF _ _ _ _ _ _ _ _ jL (@bE _ _ _ _ _ _ _ _ (kC K) lN rfl gM kc (@aa _ _ _ _ _ (pv 0) (@aa _ _ _ _ _ (jl (v:= .ty "int") rfl jV yM rfl) af rfl) rfl) (by decide) (by decide) (by rfl) (by rfl)) (@bE _ _ _ _ _ _ _ _ (kC K) lN rfl gM kc (@aa _ _ _ _ _ (pv 1) (@aa _ _ _ _ _ (jl (v:= .ty "int") rfl jV yM rfl) af rfl) rfl) (by decide) (by decide) (by rfl) (by rfl)) (br _))))) (@aE _ _ _ (@aZ _ _ _ _ jG)) dX) (@aE _ _ _ (@aZ _ _ _ _ (@Lz _ _ _ _ _ _ _ (@rO _ _ _ _ _ _ _ _ iG (@bE _ _ _ _ _ _ _ _ (kC K) lN rfl gM kc (@aa _ _ _ _ _ (pv 0) (@aa _ _ _ _ _ (jl (v:= .ty "str") rfl lU Eh rfl) af rfl) rfl) (by decide) (by decide) (by rfl) (by rfl)) (@bE _ _ _ _ _ _ _ _ (kC K) lN rfl gM kc (@aa _ _ _ _ _ (pv 1) (@aa _ _ _ _ _ (jl (v:= .ty "str") rfl lU Eh rfl) af rfl) rfl) (by decide) (by decide) (by rfl) (by rfl)) (br _)) (@Tn _ _ _ _ _ (@rO _ _ _ _ _ _ _ _ iG (pv 0) (pv 1) (br _)))))))),?_⟩
 refine Sv.fj hlive hds aD (ρ:=[.d false _, .d false _]) rfl ?_
 clear aD hds
 walk_at "dt"
 rcases hok with hs|⟨ds,hd,hl,he⟩
 ·have h1:(iO d "list" ||iO d "tuple")=false:=by cases d<;>first|rfl|cases hs
  rw[h1]
  walk_at "dt"
  rw[beq_self_eq_true]
  walk_at "dt"
  rw[beq_self_eq_true]
  walk_at "dt"
  rw[beq_self_eq_true]
  walk_at "dt"
  exact⟨true, .self hs,q⟩
 rcases hd with rfl|rfl
 ·rw[(G5 ds).1,(G5 ds).2,Bool.true_or]
  walk_at "dt"
  refine aG.ev (aG.nY (by decide) rfl ?_)
  walk_at "dt"
  refine⟨true,fun i es=>es=List.replicate i (.bool true),rfl,?_,?_⟩
  ·rintro i d' es ⟨hi,rfl⟩ hl' rfl
   have hi':i<ds.length:=by omega
   have hat:bx ds (0+(i:Int))=some ds[i]:=gY (by omega) (by rw[show(0+(i:Int)).toNat=i by omega];exact aQ hi')
   walk_at "dt"
   refine⟨by walk_at "wk",?_⟩
   walk_at "dt"
   refine Ev.aV (oR n) ?_
   walk_at "dt"
   refine⟨rfl,ds[i],rfl,he _ (ie hi'),fun _=>rfl,?_⟩
   show _=List.replicate (i+1) _
   rw[Ji]
  ·rintro es hl' rfl
   refine⟨List.replicate ds.length true,by simp,?_⟩
   rw[show(List.replicate ds.length true).all id=true by simp]
   exact q
 ·rw[(Eb ds).1,(Eb ds).2,rT]
  walk_at "dt"
  refine aG.ev (aG.nY (by decide) rfl ?_)
  walk_at "dt"
  refine⟨true,fun i es=>es=List.replicate i (.bool true),rfl,?_,?_⟩
  ·rintro i d' es ⟨hi,rfl⟩ hl' rfl
   have hi':i<ds.length:=by omega
   have hat:bx ds (0+(i:Int))=some ds[i]:=gY (by omega) (by rw[show(0+(i:Int)).toNat=i by omega];exact aQ hi')
   walk_at "dt"
   refine⟨by walk_at "wk",?_⟩
   walk_at "dt"
   refine Ev.aV (oR n) ?_
   walk_at "dt"
   refine⟨rfl,ds[i],rfl,he _ (ie hi'),fun _=>rfl,?_⟩
   show _=List.replicate (i+1) _
   rw[Ji]
  ·rintro es hl' rfl
   refine⟨List.replicate ds.length true,by simp,?_⟩
   rw[show(List.replicate ds.length true).all id=true by simp]
   exact q
def tE:DF:=fun ds Φ=>∃(p n:Int) (cs:List aq),ds=[cL p n cs]/\cs.length<=10000/\∀f,Φ f (cL p n cs)
theorem l6:cO tE:=by
 intro ds Φ Ψ hm z
 obtain⟨p,n,cs,e,h,q⟩:=hm
 exact⟨p,n,cs,e,h,fun f=>z _ _ (q f)⟩
theorem JL:cz ["net"] ["net"] (aN u7):=⟨rfl,rfl,rfl,by decide+kernel,rfl,by decide+kernel,by decide+kernel⟩
theorem MX(F:bL K "_law_copy" "_law_copy" u7 f fd)(bS:mg "list"=none):
  bG P w K mg base bN 1 f fd ["net"] (aS 1 tE):=by
 refine F.ok JL (fun vs H Q E h=>h.1) (fun cdv A outer s H vs Q E hr h=>?_)
 obtain⟨nb,ds,Φ,hlive,hds,aD,hF⟩:=fc h
 obtain⟨p,n,cs,rfl,hl,q⟩:=hF
 refine⟨_,(@aE _ _ _ (@aZ _ _ _ _ (@cy _ _ _ _ _ (@aa _ _ _ _ _ (@au _ _ _ _ _ _ (aL K) aO (pv 0) ai (fun _ _=>rfl)) (@aa _ _ _ _ _ (@au _ _ _ _ _ _ (aL K) aO (pv 0) ai (fun _ _=>rfl)) (@aa _ _ _ _ _ (fV (cQ.of (show eS (aN u7) ["net"] _ ["pairs"] [none]=true by decide+kernel)) (@fy _ _ _ _ (@au _ _ _ _ _ _ (aL K) aO (pv 0) ai (fun _ _=>rfl))) (fun _ _ _ _=>⟨(aR (i:=0) (by show List.Nodup (["pairs"]:List Str);decide+kernel) rfl (Or.inl rfl)),gK,(@fS _ _ _ _ _ _ _ _ (gR K) iW rfl bS gv (@aa _ _ _ _ _ (pv 0) af rfl) (by decide) (by decide) (by rfl) (by rfl))⟩)) af rfl) rfl) rfl)))),?_⟩
 refine Sv.fj hlive hds aD (ρ:=[.d false _]) rfl ?_
 clear aD hds
 walk_at "dt"
 refine aG.ev (aG.iY (by decide) rfl ?_)
 walk_at "dt"
 refine⟨by rw[ak];exact hl,fun v=>⟨false,fun i ds=>ds=(cs.take i).map dw,rfl,?_,?_⟩⟩
 ·rintro i d ds hd hl' rfl
  obtain⟨prs,c5,rfl⟩:=fK hd
  walk_at "dt"
  refine⟨by walk_at "wk",?_⟩
  walk_at "dt"
  refine⟨fun z=>(by cases z),?_⟩
  show _=List.map _ _
  rw[take_snoc c5,cN]
  rfl
 ·rintro ds hl' rfl
  rw[ak,gb]
  walk_at "dt"
  exact q _
theorem Ws{n:Int}{c:List aq}:(c.map (gQ n)).length=c.length:=ak ..
def xT:DF:=fun ds Φ=>∃(p n m:Int) (c1 c2:List aq),ds=[cL p n c1,cL p m c2]/\eY p n c1/\eY p m c2/\n+m<=400/\c1.length<=30/\c2.length<=30/\(∀q∈c1,q≠[])/\(∀q∈c2,q≠[])/\∀(cs:List aq) (f:Bool),Jn p n m c1 c2 cs->Φ f (cL p (n+m) cs)
theorem M3:cO xT:=by
 intro ds Φ Ψ hm z
 obtain⟨p,n,m,c1,c2,e,h1,h2,h3,h4,h5,h6,h7,q⟩:=hm
 exact⟨p,n,m,c1,c2,e,h1,h2,h3,h4,h5,h6,h7,fun cs f h=>z _ _ (q cs f h)⟩
theorem oj:cz ["bag","one","other","far","checks","k","first","done"] ["bag","one","other"] (aN rA):=⟨rfl,rfl,rfl,by decide+kernel,rfl,by decide+kernel,by decide+kernel⟩
theorem Lu(F:bL K "_law_joined" "_law_joined" rA f fd)(dB:Callee P w K mg base "_law_draw" 2 ["bag","many"] jN)(bD:mg "range"=none)(bf:mg "len"=none)(bS:mg "list"=none):
  bG P w K mg base bN 3 f fd ["bag","one","other"] (fX 3 xT):=by
 refine F.ok oj (fun vs H Q E h=>h.1) (fun cdv A outer s H vs Q E hr h=>?_)
 obtain⟨b,l,ws,nb,ds,Φ,rfl,hB,hlive,hnb,hds,aD,hF⟩:=nh h
 obtain⟨p,n,m,c1,c2,rfl,hv1,hv2,hnm,hl1,hl2,Rw,wF,q⟩:=hF
 refine⟨_,(@ao _ _ _ _ _ (AU (i:=3) oj.nd rfl rfl (cQ.of (show eS (aN rA) ["bag","one","other","far","checks","k","first","done"] _ ["pairs","one"] [none,some 1]=true by decide+kernel)) (@fy _ _ _ _ (@au _ _ _ _ _ _ (aL K) aO (pv 2) ai (fun _ _=>rfl))) (fun _ _ _ _=>⟨(aR (i:=0) (by show List.Nodup (["pairs","one"]:List Str);decide+kernel) rfl (Or.inl rfl)),gK,(by(refine' Pe (cQ.of (NX:=["pairs","one"]) (N:=["place","factor","one"]) (mp:=[none,none,some 1]) ?S5) ?Mp ?Oj);(case Mp=>exact(MR (K:=K) rfl (pv 0)));(case Oj=>exact(fun _ _ _ _=>⟨(iF (K:=K) (n:=2) rfl rfl (cG (aR (i:=0) (by show List.Nodup (["place","factor","one"]:List Str);decide+kernel) rfl (Or.inl rfl)) (cG (aR (i:=1) (by show List.Nodup (["place","factor","one"]:List Str);decide+kernel) rfl (Or.inl rfl)) iC))),gK,(cy (aa (aB cS (pv 0) (au (r:=aL K) aO (pv 2) ai (fun _ _=>rfl))) (aa (pv 1) af rfl) rfl))⟩));(case S5=>decide+kernel))⟩)) (@ao _ _ _ _ _ (@aC _ _ (4) _ _ _ _ oj.nd rfl (Or.inl rfl) (@dM _ _ _ _ af) (by rfl) (by first|exact .inl rfl|exact .inr rfl|assumption)) (@ao _ _ _ _ _ (@fW _ _ _ _ _ _ _ _ eU rfl (@jc _ _ _ _ _ _ rfl bD (@aa _ _ _ _ _ (@aB _ _ _ _ _ _ _ _ cS (@bE _ _ _ _ _ _ _ _ (dg K) dU rfl bf dP (@aa _ _ _ _ _ (@au _ _ _ _ _ _ (aL K) aO (pv 1) ai (fun _ _=>rfl)) af rfl) (by decide) (by decide) (by rfl) (by rfl)) (@bE _ _ _ _ _ _ _ _ (dg K) dU rfl bf dP (@aa _ _ _ _ _ (pv 3) af rfl) (by decide) (by decide) (by rfl) (by rfl))) af rfl) (by rfl)) (aR (i:=5) oj.nd rfl (Or.inl rfl)) (@ao _ _ _ _ _ (@aC _ _ (6) _ _ _ _ oj.nd rfl (Or.inl rfl) (@rO _ _ _ _ _ _ _ _ iG (@aF _ _ _ _ _ _ _ _ _ _ dB (hr.mono (by decide)) (@aa _ _ _ _ _ (pv 0) (@aa _ _ _ _ _ ai af rfl) rfl) (by rfl) (by decide) (by rfl) (by rfl)) ai (br _)) (by rfl) (by first|exact .inl rfl|exact .inr rfl|assumption)) (@ao _ _ _ _ _ (@aC _ _ (7) _ _ _ _ oj.nd rfl (Or.inl rfl) (@bE _ _ _ _ _ _ _ _ (dg K) dU rfl bf dP (@aa _ _ _ _ _ (fV (cQ.of (show eS (aN rA) ["bag","one","other","far","checks","k","first","done"] _ ["pairs","one"] [none,some 1]=true by decide+kernel)) (@fy _ _ _ _ (pv 4)) (fun _ _ _ _=>⟨(aR (i:=0) (by show List.Nodup (["pairs","one"]:List Str);decide+kernel) rfl (Or.inl rfl)),(pZ (@bF _ _ _ _ _ _ _ _ lA (@au _ _ _ _ _ _ (aL K) aO (@au _ _ _ _ _ _ (cJ K) bz (pv 0) ai (fun _ _=>rfl)) ai (fun _ _=>rfl)) (@au _ _ _ _ _ _ (aL K) aO (pv 1) ai (fun _ _=>rfl)) (br _))),(pv 0)⟩)) af rfl) (by decide) (by decide) (by rfl) (by rfl)) (by rfl) (by first|exact .inl rfl|exact .inr rfl|assumption)) (@aE _ _ _ (@dj _ _ _ _ _ _ _ _ (PW.pt (mK (@bF _ _ _ _ _ _ _ _ lA (pv 7) (@bE _ _ _ _ _ _ _ _ (dg K) dU rfl bf dP (@aa _ _ _ _ _ (@au _ _ _ _ _ _ (aL K) aO (pv 1) ai (fun _ _=>rfl)) af rfl) (by decide) (by decide) (by rfl) (by rfl)) (br _)) (mJ (PW.pt (BZ (@kE _ (K) _ _ rfl (pv 6) (fun _=>rfl)) (wO (@bF _ _ _ _ _ _ _ _ iG (@aB _ _ _ _ _ _ _ _ gc (@bE _ _ _ _ _ _ _ _ (dg K) dU rfl bf dP (@aa _ _ _ _ _ (pv 4) af rfl) (by decide) (by decide) (by rfl) (by rfl)) (pv 7)) (@bE _ _ _ _ _ _ _ _ (dg K) dU rfl bf dP (@aa _ _ _ _ _ (pv 3) af rfl) (by decide) (by decide) (by rfl) (by rfl)) (br _)))))))) (@aE _ _ _ (@jY _ _ _ _ (jm j4 kG j6 jO (pv 4) (@aa _ _ _ _ _ (@fS _ _ _ _ _ _ _ _ (gR K) iW rfl bS gv (@aa _ _ _ _ _ (@au _ _ _ _ _ _ (cJ K) bz (@au _ _ _ _ _ _ (aL K) aO (pv 1) ai (fun _ _=>rfl)) (pv 7) (fun _ _=>rfl)) af rfl) (by decide) (by decide) (by rfl) (by rfl)) af rfl)) (by rfl))) (@aE _ _ _ (@jY _ _ _ _ (jm j4 kG j6 jO (pv 4) (@aa _ _ _ _ _ (@au _ _ _ _ _ _ (cJ K) bz (pv 3) (@aB _ _ _ _ _ _ _ _ gc (@bE _ _ _ _ _ _ _ _ (dg K) dU rfl bf dP (@aa _ _ _ _ _ (pv 4) af rfl) (by decide) (by decide) (by rfl) (by rfl)) (pv 7)) (fun _ _=>rfl)) af rfl)) (by rfl))))))) (by intro _;rfl)) (@aE _ _ _ (@aZ _ _ _ _ (@cy _ _ _ _ _ (@aa _ _ _ _ _ (@au _ _ _ _ _ _ (aL K) aO (pv 1) ai (fun _ _=>rfl)) (@aa _ _ _ _ _ (@aB _ _ _ _ _ _ _ _ cS (@au _ _ _ _ _ _ (aL K) aO (pv 1) ai (fun _ _=>rfl)) (@au _ _ _ _ _ _ (aL K) aO (pv 2) ai (fun _ _=>rfl))) (@aa _ _ _ _ _ (pv 4) af rfl) rfl) rfl))))))),?_⟩
 refine Sv.nJ hB hlive hnb hds aD (ρ:=[.aA, .d false _, .d false _, .no, .no, .no, .no, .no]) rfl ?_
 clear aD hds
 have hm1:(c1.map dw).length=c1.length:=ak ..
 have hm2:(c2.map dw).length=c2.length:=ak ..
 walk_at "dt"
 refine aG.ev (aG.iY (by decide) rfl ?_)
 walk_at "dt"
 refine fun v=>gz.rel dw true (fun j x=>∃prs,c2[j]?=some prs/\x=gQ n prs) ?_ fun F Lq hF=>?_
 ·rintro j d hd
  obtain⟨prs,hj,rfl⟩:=fK hd
  have hpl:=(hv2.ok prs (eK hj)).2.1
  have dR:(prs.map pairD).length=prs.length:=ak ..
  walk_at "dt"
  refine⟨by walk_at "wk",?_⟩
  refine aG.ev (aG.iY (by decide) rfl ?_)
  walk_at "dt"
  refine fun v=>gz.rel pairD true (fun i x=>∃pr,prs[i]?=some pr/\x=(pr.1+n,pr.2)) ?_ fun os jI hos=>?_
  ·rintro i d hd
   obtain⟨pr,hi,rfl⟩:=fK hd
   unfold pairD
   walk_at "dt"
   refine⟨by walk_at "wk",?_⟩
   walk_at "dt"
   exact⟨fun _=>rfl,(pr.1+n,pr.2),rfl,pr,hi,rfl⟩
  rw[dR] at jI
  have yD:os=gQ n prs:=by
   unfold gQ
   apply iw
   intro k
   rw[aX]
   by_cases hk:k<prs.length
   ·obtain⟨t,e1,e2⟩:=hos k os[k] (aQ (by omega))
    rw[e1,aQ (by omega),e2];rfl
   ·rw[gC (by omega),gC (by omega)];rfl
  exact⟨fun _=>rfl,os,rfl,prs,hj,yD⟩
 rw[hm2] at Lq
 have eF:F=c2.map (gQ n):=by
  apply iw
  intro k
  rw[aX]
  by_cases hk:k<c2.length
  ·obtain⟨t,e1,e2⟩:=hF k F[k] (aQ (by omega))
   rw[e1,aQ (by omega),e2];rfl
  ·rw[gC (by omega),gC (by omega)];rfl
 have Wl:(F.map dw).length=F.length:=ak ..
 walk_at "dt"
 intro A4
 refine Sv.seq ?_
 refine Sv.oQ ?_
 walk_at "dt"
 have n0:=hv1.n0
 have za:∀x∈c1,∃pr r,x=pr::r/\pr.1<n:=fun x hx=>by
  cases x with
  |nil=>exact absurd rfl (Rw _ hx)
  |cons pr r=>exact⟨pr,r,rfl,by obtain⟨a,b,_⟩:=(hv1.ok _ hx).2.2 pr bA;omega⟩
 have BF:∀x∈F,∃pr r,x=pr::r/\n<=pr.1:=fun x hx=>by
  rw[eF] at hx
  obtain⟨y,hy,rfl⟩:=bW.mp hx
  cases y with
  |nil=>exact absurd rfl (wF _ hy)
  |cons pr r=>exact⟨_,_,rfl,by obtain⟨a,b,_⟩:=(hv2.ok _ hy).2.2 pr bA;show n<=pr.1+n;omega⟩
 refine⟨fun k ρ=>∃(cs:List aq) (d e:Nat) (f4:Bool) (x5 x6 x7:Sl),d+e=k/\d<=c1.length/\e<=F.length/\cs.Perm (c1.take d++F.take e)/\ρ=[.aA, .d false (cL p n c1), .d false (cL p m c2), .d false (.list (F.map dw)), .own A4 f4 (cs.map dw),x5,x6,x7],⟨[],0,0,_,_,_,_,rfl,dW _,dW _,by simp,rfl⟩,?_,?_⟩
 ·rintro k d0 ρ ⟨hk,rfl⟩ ⟨cs,d,e,f4,x5,x6,x7,hde,hd,he,dR,rfl⟩
  have hcl:cs.length=k:=by rw[dR.length_eq,bP,iQ,iQ];omega
  have nq:(cs.map dw).length=cs.length:=ak ..
  have hmem:∀x∈cs,x∈c1\/x∈F:=fun x hx=>(gP.mp (dR.mem_iff.mp hx)).imp pL pL
  obtain⟨P,hP⟩:∃P:aq->Bool,P=fun x=>decide ((x.headD (0,0)).1<n):=⟨_,rfl⟩
  have RX:cs.countP P=d:=by
   rw[dR.countP_eq,lq,hP]
   have e1:(c1.take d).countP (fun x=>decide ((x.headD (0,0)).1<n))=d:=by
    rw[List.countP_eq_length.mpr fun x hx=>?_,iQ]
    ·omega
    ·obtain⟨pr,r,rfl,h⟩:=za x (pL hx)
     exact decide_eq_true h
   have e2:(F.take e).countP (fun x=>decide ((x.headD (0,0)).1<n))=0:=uq.mpr fun x hx z=>by
    obtain⟨pr,r,rfl,h⟩:=BF x (pL hx)
    have:pr.1<n:=of_decide_eq_true z
    omega
   omega
  walk_at "dt"
  intro r r0 r1
  generalize iR:(rD (iJ (e7 _ _) (fG 7)) _:TS)=tl
  walk_at "dt"
  subst iR
  refine Sv.seq ?_
  refine Sv.asg ?_
  refine Ev.lend 4 rfl ?_
  walk_at "dt"
  refine aG.ev (aG.iY (by decide) rfl ?_)
  walk_at "dt"
  refine fun v=>⟨false,fun i ds=>ds.length=(cs.take i).countP P,rfl,?_,?_⟩
  ·rintro i d' ds hd' hl' hds
   obtain⟨prs,c5,rfl⟩:=fK hd'
   have hstep:(cs.take (i+1)).countP P=(cs.take i).countP P+if P prs=true then 1 else 0:=by
    rw[take_snoc c5,lq,qW]
   obtain⟨pr,r,rfl⟩:∃pr r,prs=pr::r:=by
    rcases hmem prs (eK c5) with z|z
    ·obtain⟨pr,r,e,_⟩:=za prs z;exact⟨pr,r,e⟩
    ·obtain⟨pr,r,e,_⟩:=BF prs z;exact⟨pr,r,e⟩
   have V1:bx ((pr::r).map pairD) 0=some (pairD pr):=gY (by omega) rfl
   walk_at "dt"
   refine⟨by walk_at "wk",?_⟩
   walk_at "dt"
   have Dq:P (pr::r)=decide (pr.1<n):=by rw[hP];rfl
   by_cases c:pr.1<n
   ·rw[if_pos (by simp[c])]
    walk_at "dt"
    show(ds++[_]).length=(cs.take (i+1)).countP P
    rw[bP,fE,hds,hstep,if_pos (by rw[Dq];exact decide_eq_true c)]
   ·rw[if_neg (by simp[c])]
    show ds.length=(cs.take (i+1)).countP P
    rw[hds,hstep,if_neg (by rw[Dq,decide_eq_false c];decide)]
    rfl
  ·rintro ds hl' hds
   rw[nq,gb,RX] at hds
   refine⟨ds, .inl rfl,?_⟩
   rw[hds]
   refine⟨rfl,?_⟩
   walk_at "dt"
   have hA:∀x,c1[d]?=some x->∃(cs':List aq) (d' e':Nat),cs'=cs++[x]/\d'+e'=k+1/\d'<=c1.length/\e'<=F.length/\cs'.Perm (c1.take d'++F.take e'):=fun x hx=>by
    have mY:=(bQ.mp hx).1
    refine⟨_,d+1,e,rfl,by omega,by omega,he,?_⟩
    rw[take_snoc hx]
    refine(dR.append_right [x]).trans ?_
    rw[jd,jd]
    exact CQ _ List.perm_append_comm
   have hB:∀x,F[e]?=some x->∃(cs':List aq) (d' e':Nat),cs'=cs++[x]/\d'+e'=k+1/\d'<=c1.length/\e'<=F.length/\cs'.Perm (c1.take d'++F.take e'):=fun x hx=>by
    have mY:=(bQ.mp hx).1
    refine⟨_,d,e+1,rfl,by omega,hd,by omega,?_⟩
    rw[take_snoc hx,<-jd]
    exact dR.append_right [x]
   have hke:((cs.map dw).length:Int)-(d:Int)=e:=by omega
   by_cases cd:d<c1.length
   ·have hgd:c1[d]?=some c1[d]:=aQ cd
    have LN:bx (c1.map dw) (d:Int)=some (dw c1[d]):=gY (by omega) (by rw[eT,aX,hgd];rfl)
    have hdl:=(hv1.ok _ (eK hgd)).2.1
    generalize c1[d]=xd at hgd LN hdl
    have l9:(xd.map pairD).length=xd.length:=ak ..
    rw[if_pos (decide_eq_true (by omega))]
    by_cases cr:r=0
    ·walk_at "dt"
     obtain⟨cs',d',e',rfl,h1,h2,h3,h4⟩:=hA xd hgd
     exact⟨_,d',e',_,_,_,_,h1,h2,h3,h4,by rw[cN];rfl⟩
    ·walk_at "dt"
     rw[hke]
     by_cases ce:e=F.length
     ·walk_at "dt"
      obtain⟨cs',d',e',rfl,h1,h2,h3,h4⟩:=hA xd hgd
      exact⟨_,d',e',_,_,_,_,h1,h2,h3,h4,by rw[cN];rfl⟩
     ·have hge:F[e]?=some F[e]:=aQ (by omega)
      have qy:bx (F.map dw) (e:Int)=some (dw F[e]):=gY (by omega) (by rw[eT,aX,hge];rfl)
      generalize F[e]=xe at hge qy
      walk_at "dt"
      rw[hke]
      refine⟨_,qy,by omega,?_⟩
      obtain⟨cs',d',e',rfl,h1,h2,h3,h4⟩:=hB xe hge
      exact⟨_,d',e',_,_,_,_,h1,h2,h3,h4,by rw[cN];rfl⟩
   ·have hge:F[e]?=some F[e]:=aQ (by omega)
    have qy:bx (F.map dw) (e:Int)=some (dw F[e]):=gY (by omega) (by rw[eT,aX,hge];rfl)
    generalize F[e]=xe at hge qy
    rw[if_neg (by rw[decide_eq_false (by omega)];decide)]
    walk_at "dt"
    rw[hke]
    refine⟨_,qy,by omega,?_⟩
    obtain⟨cs',d',e',rfl,h1,h2,h3,h4⟩:=hB xe hge
    exact⟨_,d',e',_,_,_,_,h1,h2,h3,h4,by rw[cN];rfl⟩
 rintro ρ ⟨cs,d,e,f4,x5,x6,x7,hde,hd,he,dR,rfl⟩
 refine Sv.lD 4 rfl ?_
 walk_at "dt"
 refine q cs _ ⟨hv1,hv2,?_,hnm,by omega⟩
 rw[show d=c1.length by omega,show e=F.length by omega,gb,gb,eF] at dR
 exact dR
def ux:DF:=fun ds Φ=>∃(n:Int) (as bs:List cH),ds=[.int n, .list (as.map bu), .list (bs.map bu)]/\as.length<=400/\bs.length<=400/\∀f,Φ f (.list ((as++bs.map (jv n)).map bu))
theorem um:cO ux:=by
 intro ds Φ Ψ hm z
 obtain⟨n,as,bs,e,h,k,q⟩:=hm
 exact⟨n,as,bs,e,h,k,fun f=>z _ _ (q f)⟩
theorem Kf:cz ["n","one","other"] ["n","one","other"] (aN uL):=⟨rfl,rfl,rfl,by decide+kernel,rfl,by decide+kernel,by decide+kernel⟩
theorem L3(F:bL K "_law_turns" "_law_turns" uL f fd)(bS:mg "list"=none):
  bG P w K mg base bN 1 f fd ["n","one","other"] (aS 3 ux):=by
 refine F.ok Kf (fun vs H Q E h=>h.1) (fun cdv A outer s H vs Q E hr h=>?_)
 obtain⟨nb,ds,Φ,hlive,hds,aD,hF⟩:=fc h
 obtain⟨n,as,bs,rfl,hal,pM,q⟩:=hF
 refine⟨_,(@aE _ _ _ (@aZ _ _ _ _ (@aB _ _ _ _ _ _ _ _ jt (@fS _ _ _ _ _ _ _ _ (gR K) iW rfl bS gv (@aa _ _ _ _ _ (pv 1) af rfl) (by decide) (by decide) (by rfl) (by rfl)) (fV (cQ.of (show eS (aN uL) ["n","one","other"] _ ["place","old","new","n"] [none,none,none,some 0]=true by decide+kernel)) (@fy _ _ _ _ (pv 2)) (fun _ _ _ _=>⟨(@iF _ (K) _ _ _ (3) _ rfl rfl (@cG _ _ _ _ _ (aR (i:=0) (by show List.Nodup (["place","old","new","n"]:List Str);decide+kernel) rfl (Or.inl rfl)) (@cG _ _ _ _ _ (aR (i:=1) (by show List.Nodup (["place","old","new","n"]:List Str);decide+kernel) rfl (Or.inl rfl)) (@cG _ _ _ _ _ (aR (i:=2) (by show List.Nodup (["place","old","new","n"]:List Str);decide+kernel) rfl (Or.inl rfl)) iC (by rfl)) (by rfl)) (by rfl)) (by rfl) (by rfl)),gK,(@cy _ _ _ _ _ (@aa _ _ _ _ _ (@aB _ _ _ _ _ _ _ _ cS (pv 0) (pv 3)) (@aa _ _ _ _ _ (pv 1) (@aa _ _ _ _ _ (pv 2) af rfl) rfl) rfl))⟩))))),?_⟩
 refine Sv.fj hlive hds aD (ρ:=[.d false _, .d false _, .d false _]) rfl ?_
 clear aD hds
 have Q5:(as.map bu).length=as.length:=ak ..
 have hbm:(bs.map bu).length=bs.length:=ak ..
 walk_at "dt"
 refine aG.ev (aG.iY (by decide) rfl ?_)
 walk_at "dt"
 refine fun v=>gz.rel bu false (fun j x=>∃t,bs[j]?=some t/\x=jv n t) ?_ fun os jI hos=>?_
 ·rintro j d hd
  obtain⟨t,hj,rfl⟩:=fK hd
  walk_at "dt"
  refine⟨by walk_at "wk",?_⟩
  walk_at "dt"
  exact⟨fun z=>absurd z (by decide),jv n t,rfl,t,hj,rfl⟩
 rw[hbm] at jI
 have yD:os=bs.map (jv n):=by
  apply iw
  intro k
  rw[aX]
  by_cases hk:k<bs.length
  ·obtain⟨t,e1,e2⟩:=hos k os[k] (aQ (by omega))
   rw[e1,aQ (by omega),e2];rfl
  ·rw[gC (by omega),gC (by omega)];rfl
 have Wu:(os.map bu).length=os.length:=ak ..
 refine⟨_,rfl,by omega,?_⟩
 rw[yD,<-cN]
 exact q _
def qR(s:Str):Prop:=s=bH\/s=Str.ofString "far" \/s=Str.ofString "stuck"
theorem xo{s:Str}(h:qR s):SeqAt.shaped (.tuple [.str s])=true:=by rcases h with rfl|rfl|rfl<;>with_unfolding_all rfl
theorem DW{s:Str}(h:qR s):PyData.eqv (.tuple [.str s]) (.tuple [.str (Str.ofString "held")])=decide (s=bH):=by
 rcases h with rfl|rfl|rfl
 ·rw[decide_eq_true rfl];rfl
 ·rw[decide_eq_false o8];with_unfolding_all rfl
 ·rw[decide_eq_false n5];with_unfolding_all rfl
def AM:DF:=fun ds Φ=>∃(n:Int) (m:Nat) (r s:List Int×List (List cH)×Str),ds=[.int n, .int m,lE r,lE s]/\r.1.length<=400/\s.1.length<=400/\r.2.1.length<=400/\s.2.1.length<=400/\(∀ts∈r.2.1,ts.length<=400)/\(∀ts∈s.2.1,ts.length<=400)/\qR r.2.2/\qR s.2.2/\∀f,Φ f (lE (jT n m r s))
theorem NR:cO AM:=by
 intro ds Φ Ψ hm z
 obtain⟨n,m,r,s,e,h1,h2,h3,h4,h5,h6,h7,h8,q⟩:=hm
 exact⟨n,m,r,s,e,h1,h2,h3,h4,h5,h6,h7,h8,fun f=>z _ _ (q f)⟩
theorem mQ:cz ["n","most","one","other","rounds","k","first","end"] ["n","most","one","other"] (aN yY):=⟨rfl,rfl,rfl,by decide+kernel,rfl,by decide+kernel,by decide+kernel⟩
theorem Uq(F:bL K "_law_rounds" "_law_rounds" yY f fd)(wR:Callee P w K mg base "_law_turns" 1 ["n","one","other"] (aS 3 ux))(bD:mg "range"=none)(wH:mg "max"=none)(bf:mg "len"=none):
  bG P w K mg base bN 2 f fd ["n","most","one","other"] (aS 4 AM):=by
 refine F.ok mQ (fun vs H Q E h=>h.1) (fun cdv A outer s H vs Q E hr h=>?_)
 obtain⟨nb,ds,Φ,hlive,hds,aD,hF⟩:=fc h
 obtain⟨n,m,⟨w,R,e⟩,⟨w',R',e'⟩,rfl,h1,h2,h3,h4,h5,h6,h7,h8,q⟩:=hF
 refine⟨_,(@ao _ _ _ _ _ (@aC _ _ (4) _ _ _ _ mQ.nd rfl (Or.inl rfl) (@dM _ _ _ _ af) (by rfl) (by first|exact .inl rfl|exact .inr rfl|assumption)) (@ao _ _ _ _ _ (@fW _ _ _ _ _ _ _ _ eU rfl (@jc _ _ _ _ _ _ rfl bD (@aa _ _ _ _ _ (@bE _ _ _ _ _ _ _ _ _ (Vd rfl) rfl wH PyProof.Rows.boot_max (@aa _ _ _ _ _ (@bE _ _ _ _ _ _ _ _ (dg K) dU rfl bf dP (@aa _ _ _ _ _ (@au _ _ _ _ _ _ (aL K) aO (pv 2) ai (fun _ _=>rfl)) af rfl) (by decide) (by decide) (by rfl) (by rfl)) (@aa _ _ _ _ _ (@bE _ _ _ _ _ _ _ _ (dg K) dU rfl bf dP (@aa _ _ _ _ _ (@au _ _ _ _ _ _ (aL K) aO (pv 3) ai (fun _ _=>rfl)) af rfl) (by decide) (by decide) (by rfl) (by rfl)) af rfl) rfl) (by decide) (by decide) (by rfl) (by rfl)) af rfl) (by rfl)) (aR (i:=5) mQ.nd rfl (Or.inl rfl)) (@ao _ _ _ _ _ (@aC _ _ (6) _ _ _ _ mQ.nd rfl (Or.inl rfl) (@oN _ _ _ _ _ _ _ _ (@bF _ _ _ _ _ _ _ _ lA (pv 5) (@bE _ _ _ _ _ _ _ _ (dg K) dU rfl bf dP (@aa _ _ _ _ _ (@au _ _ _ _ _ _ (aL K) aO (pv 2) ai (fun _ _=>rfl)) af rfl) (by decide) (by decide) (by rfl) (by rfl)) (br _)) (@au _ _ _ _ _ _ (cJ K) bz (@au _ _ _ _ _ _ (aL K) aO (pv 2) ai (fun _ _=>rfl)) (pv 5) (fun _ _=>rfl)) (@dM _ _ _ _ af)) (by rfl) (by first|exact .inl rfl|exact .inr rfl|assumption)) (@aE _ _ _ (@jY _ _ _ _ (jm j4 kG j6 jO (pv 4) (@aa _ _ _ _ _ (@aF _ _ _ _ _ _ _ _ _ _ wR (hr.mono (by decide)) (@aa _ _ _ _ _ (pv 0) (@aa _ _ _ _ _ (pv 6) (@aa _ _ _ _ _ (@oN _ _ _ _ _ _ _ _ (@bF _ _ _ _ _ _ _ _ lA (pv 5) (@bE _ _ _ _ _ _ _ _ (dg K) dU rfl bf dP (@aa _ _ _ _ _ (@au _ _ _ _ _ _ (aL K) aO (pv 3) ai (fun _ _=>rfl)) af rfl) (by decide) (by decide) (by rfl) (by rfl)) (br _)) (@au _ _ _ _ _ _ (cJ K) bz (@au _ _ _ _ _ _ (aL K) aO (pv 3) ai (fun _ _=>rfl)) (pv 5) (fun _ _=>rfl)) (@dM _ _ _ _ af)) af rfl) rfl) rfl) (by rfl) (by decide) (by rfl) (by rfl)) af rfl)) (by rfl)))) (by intro _;rfl)) (@ao _ _ _ _ _ (@aC _ _ (7) _ _ _ _ mQ.nd rfl (Or.inl rfl) (@cy _ _ _ _ _ (@aa _ _ _ _ _ lY af rfl)) (by rfl) (by first|exact .inl rfl|exact .inr rfl|assumption)) (@ao _ _ _ _ _ (@dj _ _ _ _ _ _ _ _ (@bF _ _ _ _ _ _ _ _ iG (@bE _ _ _ _ _ _ _ _ (dg K) dU rfl bf dP (@aa _ _ _ _ _ (pv 4) af rfl) (by decide) (by decide) (by rfl) (by rfl)) (pv 1) (br _)) (@aE _ _ _ (@aC _ _ (7) _ _ _ _ mQ.nd rfl (Or.inl rfl) (@cy _ _ _ _ _ (@aa _ _ _ _ _ lY af rfl)) (by rfl) (by first|exact .inl rfl|exact .inr rfl|assumption))) dX) (@ao _ _ _ _ _ (@dj _ _ _ _ _ _ _ _ (PW.pt (mK (@bF _ _ _ _ _ _ _ _ (rJ hr.units) (@au _ _ _ _ _ _ (aL K) aO (pv 2) ai (fun _ _=>rfl)) (@cy _ _ _ _ _ (@aa _ _ _ _ _ lY af rfl)) (br _)) (mJ (@bF _ _ _ _ _ _ _ _ (rJ hr.units) (@au _ _ _ _ _ _ (aL K) aO (pv 3) ai (fun _ _=>rfl)) (@cy _ _ _ _ _ (@aa _ _ _ _ _ lY af rfl)) (br _))))) (@aE _ _ _ (@aC _ _ (7) _ _ _ _ mQ.nd rfl (Or.inl rfl) (@cy _ _ _ _ _ (@aa _ _ _ _ _ lY af rfl)) (by rfl) (by first|exact .inl rfl|exact .inr rfl|assumption))) dX) (@aE _ _ _ (@aZ _ _ _ _ (@cy _ _ _ _ _ (@aa _ _ _ _ _ (@aB _ _ _ _ _ _ _ _ jt (@au _ _ _ _ _ _ (aL K) aO (pv 2) ai (fun _ _=>rfl)) (@au _ _ _ _ _ _ (aL K) aO (pv 3) ai (fun _ _=>rfl))) (@aa _ _ _ _ _ (pv 4) (@aa _ _ _ _ _ (pv 7) af rfl) rfl) rfl))))))))),?_⟩
 refine Sv.fj hlive hds aD (ρ:=[.d false _, .d false _, .d false _, .d false _, .no, .no, .no, .no]) rfl ?_
 clear aD hds
 dsimp only at h1 h2 h3 h4 h5 h6 h7 h8
 have Q3:(R.map fF).length=R.length:=ak ..
 have Vk:(R'.map fF).length=R'.length:=ak ..
 unfold lE
 dsimp only
 walk_at "dt"
 intro A4
 refine Sv.seq ?_
 refine Sv.oQ ?_
 walk_at "dt"
 have U0:(if((R'.map fF).length:Int)>((R.map fF).length:Int) then((R'.map fF).length:Int) else((R.map fF).length:Int))=((max R.length R'.length:Nat):Int):=by
  rw[Q3,Vk]
  split<;>omega
 rw[U0]
 refine⟨fun k ρ=>∃(f4:Bool) (x5 x6 x7:Sl),ρ=[.d false (.int n), .d false (.int (m:Int)), .d false (.tuple [bO w, .list (R.map fF), .tuple [.str e]]), .d false (.tuple [bO w', .list (R'.map fF), .tuple [.str e']]), .own A4 f4 (((dY n R R').take k).map fF),x5,x6,x7],⟨_,_,_,_,rfl⟩,?_,?_⟩
 ·rintro k d ρ ⟨hk,rfl⟩ ⟨f4,x5,x6,x7,rfl⟩
  rw[vz]
  have hk':k<max R.length R'.length:=by omega
  have hz:=CK (n:=n) hk'
  have Co:=Ai (n:=n) (A:=R) (B:=R')
  have hget:∀{R:List (List cH)},k<R.length->bx (R.map fF) (k:Int)=some (fF (R.getD k []))/\R.getD k []∈R:=fun{R} h=>⟨gY (by omega) (by rw[eT,aX,eO,aQ h];rfl),by rw[eO,aQ h];exact ie _⟩
  have EM:∀{R:List (List cH)},¬k<R.length->R.getD k []=[]:=fun{R} h=>by rw[eO,gC (by omega)];rfl
  have zH:∀ts,ts=R.getD k []++(R'.getD k []).map (jv n)->((dY n R R').take k).map fF++[fF ts]=((dY n R R').take (k+1)).map fF:=fun ts hts=>by
   rw[take_snoc hz,cN,hts];rfl
  by_cases c1:k<R.length
  ·obtain⟨ha1,hm1⟩:=hget c1
   have hl1:=h5 _ hm1
   generalize R.getD k []=t1 at*
   by_cases c2:k<R'.length
   ·obtain⟨ha2,hm2⟩:=hget c2
    have hl2:=h6 _ hm2
    generalize R'.getD k []=t2 at*
    walk_at "dt"
    refine Ev.aV um ?_
    walk_at "dt"
    refine⟨rfl,n,t1,t2,rfl,hl1,hl2,fun f8=>⟨by rw[ak,iQ];omega,_,_,_,_,by rw[<-zH _ rfl];rfl⟩⟩
   ·rw[EM c2] at*
    walk_at "dt"
    refine Ev.aV um ?_
    walk_at "dt"
    refine⟨rfl,n,t1,[],rfl,hl1,(dW _),fun f8=>⟨by rw[ak,iQ];omega,_,_,_,_,by rw[<-zH _ rfl];rfl⟩⟩
  ·rw[EM c1] at*
   have c2:k<R'.length:=by omega
   obtain⟨ha2,hm2⟩:=hget c2
   have hl2:=h6 _ hm2
   generalize R'.getD k []=t2 at*
   walk_at "dt"
   refine Ev.aV um ?_
   walk_at "dt"
   refine⟨rfl,n,[],t2,rfl,(dW _),hl2,fun f8=>⟨by rw[ak,iQ];omega,_,_,_,_,by rw[<-zH _ rfl];rfl⟩⟩
 rintro ρ ⟨f4,x5,x6,x7,rfl⟩
 have Co:=Ai (n:=n) (A:=R) (B:=R')
 rw[eT,<-Co,gb]
 obtain⟨Z,hZ⟩:∃Z,dY n R R'=Z:=⟨_,rfl⟩
 have nq:lE (jT n m (w,R,e) (w',R',e'))= .tuple [bO (w++w'), .list (Z.map fF), .tuple [.str (if e=bH/\e'=bH then bH else if Z.length=m then Str.ofString "far" else Str.ofString "stuck")]]:=by
  unfold jT lE;dsimp only;rw[hZ]
 rw[hZ] at Co⊢
 rw[nq] at q
 have Wh:(Z.map fF).length=Z.length:=ak ..
 have nV:(w.map PyData.int).length=w.length:=ak ..
 have V0:(w'.map PyData.int).length=w'.length:=ak ..
 have hE:=DW h7
 have Eg:=DW h8
 have hsh:=xo h7
 have WC:=xo h8
 have hs0:=xo (s:=Str.ofString "held") (.inl rfl)
 have pA:∀f x,x=(if e=bH/\e'=bH then bH else if Z.length=m then Str.ofString "far" else Str.ofString "stuck")->Φ f (.tuple [.list (w.map .int++w'.map .int), .list (Z.map fF), .tuple [.str x]]):=fun f x hx=>by
  have:=q f
  rw[<-hx,show bO (w++w')= .list (w.map .int++w'.map .int) by unfold bO;rw[cN]] at this
  exact this
 unfold bO
 refine Sv.lD 4 rfl ?_
 by_cases cm:Z.length=m
 ·walk_at "dt"
  have xS:(PyData.eqv (.tuple [.str e]) (.tuple (List.map (fun x:Bool×PyData=>x.snd) [(true, .str (Str.ofString "held"))])) !=false)=decide (e=bH):=by rw[show PyData.eqv (.tuple [.str e]) (.tuple (List.map (fun x:Bool×PyData=>x.snd) [(true, .str (Str.ofString "held"))]))=decide (e=bH) from hE];cases decide (e=bH)<;>rfl
  have yJ:(PyData.eqv (.tuple [.str e']) (.tuple (List.map (fun x:Bool×PyData=>x.snd) [(true, .str (Str.ofString "held"))])) !=false)=decide (e'=bH):=by rw[show PyData.eqv (.tuple [.str e']) (.tuple (List.map (fun x:Bool×PyData=>x.snd) [(true, .str (Str.ofString "held"))]))=decide (e'=bH) from Eg];cases decide (e'=bH)<;>rfl
  rw[xS]
  by_cases k1:e=bH
  ·rw[if_pos (decide_eq_true k1)]
   walk_at "dt"
   rw[yJ]
   by_cases k2:e'=bH
   ·rw[if_pos (decide_eq_true k2)]
    walk_at "dt"
    exact pA _ _ (by rw[if_pos ⟨k1,k2⟩])
   ·rw[if_neg (by rw[decide_eq_false k2];decide)]
    walk_at "dt"
    exact pA _ _ (by rw[if_neg (fun z=>k2 z.2),if_pos cm])
  ·rw[if_neg (by rw[decide_eq_false k1];decide)]
   walk_at "dt"
   exact pA _ _ (by rw[if_neg (fun z=>k1 z.1),if_pos cm])
 ·walk_at "dt"
  have xS:(PyData.eqv (.tuple [.str e]) (.tuple (List.map (fun x:Bool×PyData=>x.snd) [(true, .str (Str.ofString "held"))])) !=false)=decide (e=bH):=by rw[show PyData.eqv (.tuple [.str e]) (.tuple (List.map (fun x:Bool×PyData=>x.snd) [(true, .str (Str.ofString "held"))]))=decide (e=bH) from hE];cases decide (e=bH)<;>rfl
  have yJ:(PyData.eqv (.tuple [.str e']) (.tuple (List.map (fun x:Bool×PyData=>x.snd) [(true, .str (Str.ofString "held"))])) !=false)=decide (e'=bH):=by rw[show PyData.eqv (.tuple [.str e']) (.tuple (List.map (fun x:Bool×PyData=>x.snd) [(true, .str (Str.ofString "held"))]))=decide (e'=bH) from Eg];cases decide (e'=bH)<;>rfl
  rw[xS]
  by_cases k1:e=bH
  ·rw[if_pos (decide_eq_true k1)]
   walk_at "dt"
   rw[yJ]
   by_cases k2:e'=bH
   ·rw[if_pos (decide_eq_true k2)]
    walk_at "dt"
    exact pA _ _ (by rw[if_pos ⟨k1,k2⟩])
   ·rw[if_neg (by rw[decide_eq_false k2];decide)]
    walk_at "dt"
    exact pA _ _ (by rw[if_neg (fun z=>k2 z.2),if_neg cm])
  ·rw[if_neg (by rw[decide_eq_false k1];decide)]
   walk_at "dt"
   exact pA _ _ (by rw[if_neg (fun z=>k1 z.1),if_neg cm])
def zv:DF:=fun ds Φ=>∃(p n:Int) (cs:List aq) (ws:List Int),ds=[cL p n cs,bO ws]/\eY p n cs/\ws.length=n.toNat/\(∀x∈ws,0<=x/\x<p)/\Φ true (.int (brk p cs ws))
theorem Hi:cO zv:=by
 intro ds Φ Ψ hm z
 obtain⟨p,n,cs,ws,e,h1,h2,h3,q⟩:=hm
 exact⟨p,n,cs,ws,e,h1,h2,h3,z _ _ q⟩
theorem Pj:cz ["net","word"] ["net","word"] (aN sX):=⟨rfl,rfl,rfl,by decide+kernel,rfl,by decide+kernel,by decide+kernel⟩
theorem Mg(F:bL K "_law_broken" "_law_broken" sX f fd)(zp:Callee P w K mg base "_law_sum" 1 ["p","pairs","word"] (aS 3 tM))(bf:mg "len"=none):
  bG P w K mg base bN 2 f fd ["net","word"] (aS 2 zv):=by
 refine F.ok Pj (fun vs H Q E h=>h.1) (fun cdv A outer s H vs Q E hr h=>?_)
 obtain⟨nb,ds,Φ,hlive,hds,aD,hF⟩:=fc h
 obtain⟨p,n,cs,ws,rfl,hN,hwl,hws,q⟩:=hF
 refine⟨_,(@aE _ _ _ (@aZ _ _ _ _ (@bE _ _ _ _ _ _ _ _ (dg K) dU rfl bf dP (@aa _ _ _ _ _ (fV (cQ.of (show eS (aN sX) ["net","word"] _ ["pairs","net","word"] [none,some 0,some 1]=true by decide+kernel)) (@fy _ _ _ _ (@au _ _ _ _ _ _ (aL K) aO (pv 0) ai (fun _ _=>rfl))) (fun _ _ _ _=>⟨(aR (i:=0) (by show List.Nodup (["pairs","net","word"]:List Str);decide+kernel) rfl (Or.inl rfl)),(pZ (@bF _ _ _ _ _ _ _ _ jL (@aF _ _ _ _ _ _ _ _ _ _ zp (hr.mono (by decide)) (@aa _ _ _ _ _ (@au _ _ _ _ _ _ (aL K) aO (pv 1) ai (fun _ _=>rfl)) (@aa _ _ _ _ _ (pv 0) (@aa _ _ _ _ _ (pv 2) af rfl) rfl) rfl) (by rfl) (by decide) (by rfl) (by rfl)) ai (br _))),(pv 0)⟩)) af rfl) (by decide) (by decide) (by rfl) (by rfl)))),?_⟩
 refine Sv.fj hlive hds aD (ρ:=[.d false _, .d false _]) rfl ?_
 clear aD hds
 have p2:=hN.hp.1
 have fP:=hN.fP
 have n0:=hN.n0
 have n1:=hN.n1
 have hcl:=hN.cl
 have nq:(cs.map dw).length=cs.length:=ak ..
 have nM:bO ws=kU (ws.map some):=by show PyData.list _=PyData.list _;rw[dz];rfl
 have lF:kK (ws.map some):=fun x hx=>by
  obtain⟨y,hy,e⟩:=bW.mp hx
  cases e
  obtain⟨a0,a1⟩:=hws x hy
  unfold Sm;omega
 walk_at "dt"
 refine aG.ev (aG.iY (by decide) rfl ?_)
 walk_at "dt"
 refine fun v=>⟨false,fun i ds=>ds.length=brk p (cs.take i) ws,rfl,?_,?_⟩
 ·rintro i d ds hd hl' hds
  obtain⟨prs,c5,rfl⟩:=fK hd
  obtain⟨g1,g2,g3⟩:=hN.ok prs (eK c5)
  have hts:=take_snoc c5
  have hstep:brk p (cs.take (i+1)) ws=brk p (cs.take i) ws+if decide (bq prs (ws.map some)%p≠0)=true then 1 else 0:=by
   unfold brk
   rw[hts,lq,qW]
  walk_at "dt"
  refine⟨by walk_at "wk",?_⟩
  walk_at "dt"
  refine Ev.aV DB ?_
  walk_at "dt"
  refine⟨rfl,p,prs,ws.map some,by show[_,_,_]=_;rw[nM],by omega,by omega,fun pr aU=>?_,lF,?_⟩
  ·obtain⟨b0,b1,b2,b3⟩:=g3 pr aU
   exact⟨b0,by rw[ak];omega,by unfold Sm;omega⟩
  walk_at "dt"
  by_cases c:bq prs (ws.map some)%p=0
  ·rw[if_neg (by simp[c])]
   show ds.length=brk p (cs.take (i+1)) ws
   rw[hds,hstep,if_neg (by rw[decide_eq_false (fun z=>z c)];decide)]
   rfl
  ·rw[if_pos (by simp[c])]
   walk_at "dt"
   show(ds++[_]).length=brk p (cs.take (i+1)) ws
   rw[bP,fE,hds,hstep,if_pos (by rw[decide_eq_true c])]
 ·rintro ds hl' hds
  rw[nq,gb] at hds
  refine⟨ds, .inl rfl,?_⟩
  rw[hds]
  walk_at "dt"
  exact q
def Cs:DF:=fun ds Φ=>∃(n l m:Int) (as bs:List cH),ds=[.int n, .int l, .int m, .list (as.map bu), .list (bs.map bu)]/\as.length<=400/\bs.length<=400/\Dn l as/\Dn m bs/\∀f,Φ f (.list ((iu n (as.length+bs.length) l m as bs).map bu))
theorem UI:cO Cs:=by
 intro ds Φ Ψ hm z
 obtain⟨n,l,m,as,bs,e,h1,h2,h3,h4,q⟩:=hm
 exact⟨n,l,m,as,bs,e,h1,h2,h3,h4,fun f=>z _ _ (q f)⟩
theorem wY{l:List cH}{i:Nat}{a:cH}(h:l[i]?=some a):l.drop i=a::l.drop (i+1):=by
 obtain⟨h1,rfl⟩:=bQ.mp h
 exact List.drop_eq_getElem_cons h1
theorem ly:cz ["n","left","more","one","other","steps","i","k","gain","far"] ["n","left","more","one","other"] (aN AO):=⟨rfl,rfl,rfl,by decide+kernel,rfl,by decide+kernel,by decide+kernel⟩
theorem TJ(F:bL K "_law_steps" "_law_steps" AO f fd)(bD:mg "range"=none)(bf:mg "len"=none):
  bG P w K mg base bN 1 f fd ["n","left","more","one","other"] (aS 5 Cs):=by
 refine F.ok ly (fun vs H Q E h=>h.1) (fun cdv A outer s H vs Q E hr h=>?_)
 obtain⟨nb,ds,Φ,hlive,hds,aD,hF⟩:=fc h
 obtain⟨n,l,m,as,bs,rfl,hal,pM,hda,hdb,q⟩:=hF
 refine⟨_,(@ao _ _ _ _ _ (@aC _ _ (5) _ _ _ _ ly.nd rfl (Or.inl rfl) (@dM _ _ _ _ af) (by rfl) (by first|exact .inl rfl|exact .inr rfl|assumption)) (@ao _ _ _ _ _ (@aC _ _ (6) _ _ _ _ ly.nd rfl (Or.inl rfl) ai (by rfl) (by first|exact .inl rfl|exact .inr rfl|assumption)) (@ao _ _ _ _ _ (@fW _ _ _ _ _ _ _ _ eU rfl (@jc _ _ _ _ _ _ rfl bD (@aa _ _ _ _ _ (@aB _ _ _ _ _ _ _ _ cS (@bE _ _ _ _ _ _ _ _ (dg K) dU rfl bf dP (@aa _ _ _ _ _ (pv 3) af rfl) (by decide) (by decide) (by rfl) (by rfl)) (@bE _ _ _ _ _ _ _ _ (dg K) dU rfl bf dP (@aa _ _ _ _ _ (pv 4) af rfl) (by decide) (by decide) (by rfl) (by rfl))) af rfl) (by rfl)) (aR (i:=7) ly.nd rfl (Or.inl rfl)) (@ao _ _ _ _ _ (@aC _ _ (8) _ _ _ _ ly.nd rfl (Or.inl rfl) (@oN _ _ _ _ _ _ _ _ (@bF _ _ _ _ _ _ _ _ lA (pv 6) (@bE _ _ _ _ _ _ _ _ (dg K) dU rfl bf dP (@aa _ _ _ _ _ (pv 3) af rfl) (by decide) (by decide) (by rfl) (by rfl)) (br _)) (@aB _ _ _ _ _ _ _ _ gc (pv 1) (@au _ _ _ _ _ _ (aL K) aO (@au _ _ _ _ _ _ (cJ K) bz (pv 3) (pv 6) (fun _ _=>rfl)) ai (fun _ _=>rfl))) ai) (by rfl) (by first|exact .inl rfl|exact .inr rfl|assumption)) (@ao _ _ _ _ _ (@aC _ _ (9) _ _ _ _ ly.nd rfl (Or.inl rfl) (@oN _ _ _ _ _ _ _ _ (@bF _ _ _ _ _ _ _ _ lA (@aB _ _ _ _ _ _ _ _ gc (pv 7) (pv 6)) (@bE _ _ _ _ _ _ _ _ (dg K) dU rfl bf dP (@aa _ _ _ _ _ (pv 4) af rfl) (by decide) (by decide) (by rfl) (by rfl)) (br _)) (@aB _ _ _ _ _ _ _ _ gc (pv 2) (@au _ _ _ _ _ _ (aL K) aO (@au _ _ _ _ _ _ (cJ K) bz (pv 4) (@aB _ _ _ _ _ _ _ _ gc (pv 7) (pv 6)) (fun _ _=>rfl)) ai (fun _ _=>rfl))) ai) (by rfl) (by first|exact .inl rfl|exact .inr rfl|assumption)) (@aE _ _ _ (@dj _ _ _ _ _ _ _ _ (@bF _ _ _ _ _ _ _ _ Jg (pv 8) (pv 9) (br _)) (@ao _ _ _ _ _ (@aC _ _ (1) _ _ _ _ ly.nd rfl (Or.inl rfl) (@au _ _ _ _ _ _ (aL K) aO (@au _ _ _ _ _ _ (cJ K) bz (pv 3) (pv 6) (fun _ _=>rfl)) ai (fun _ _=>rfl)) (by rfl) (by first|exact .inl rfl|exact .inr rfl|assumption)) (@ao _ _ _ _ _ (@jY _ _ _ _ (jm j4 kG j6 jO (pv 5) (@aa _ _ _ _ _ (@cy _ _ _ _ _ (@aa _ _ _ _ _ (@au _ _ _ _ _ _ (aL K) aO (@au _ _ _ _ _ _ (cJ K) bz (pv 3) (pv 6) (fun _ _=>rfl)) ai (fun _ _=>rfl)) (@aa _ _ _ _ _ (@au _ _ _ _ _ _ (aL K) aO (@au _ _ _ _ _ _ (cJ K) bz (pv 3) (pv 6) (fun _ _=>rfl)) ai (fun _ _=>rfl)) (@aa _ _ _ _ _ (@aB _ _ _ _ _ _ _ _ cS (pv 1) (pv 2)) af rfl) rfl) rfl)) af rfl)) (by rfl)) (@aE _ _ _ (@aC _ _ (6) _ _ _ _ ly.nd rfl (Or.inl rfl) (@aB _ _ _ _ _ _ _ _ cS (pv 6) ai) (by rfl) (by first|exact .inl rfl|exact .inr rfl|assumption))))) (@ao _ _ _ _ _ (@aC _ _ (2) _ _ _ _ ly.nd rfl (Or.inl rfl) (@au _ _ _ _ _ _ (aL K) aO (@au _ _ _ _ _ _ (cJ K) bz (pv 4) (@aB _ _ _ _ _ _ _ _ gc (pv 7) (pv 6)) (fun _ _=>rfl)) ai (fun _ _=>rfl)) (by rfl) (by first|exact .inl rfl|exact .inr rfl|assumption)) (@aE _ _ _ (@jY _ _ _ _ (jm j4 kG j6 jO (pv 5) (@aa _ _ _ _ _ (@cy _ _ _ _ _ (@aa _ _ _ _ _ (@aB _ _ _ _ _ _ _ _ cS (@au _ _ _ _ _ _ (aL K) aO (@au _ _ _ _ _ _ (cJ K) bz (pv 4) (@aB _ _ _ _ _ _ _ _ gc (pv 7) (pv 6)) (fun _ _=>rfl)) ai (fun _ _=>rfl)) (pv 0)) (@aa _ _ _ _ _ (@au _ _ _ _ _ _ (aL K) aO (@au _ _ _ _ _ _ (cJ K) bz (pv 4) (@aB _ _ _ _ _ _ _ _ gc (pv 7) (pv 6)) (fun _ _=>rfl)) ai (fun _ _=>rfl)) (@aa _ _ _ _ _ (@aB _ _ _ _ _ _ _ _ cS (pv 1) (pv 2)) af rfl) rfl) rfl)) af rfl)) (by rfl)))))))) (by intro _;rfl)) (@aE _ _ _ (@aZ _ _ _ _ (pv 5)))))),?_⟩
 refine Sv.fj hlive hds aD (ρ:=[.d false _, .d false _, .d false _, .d false _, .d false _, .no, .no, .no, .no, .no]) rfl ?_
 clear aD hds
 have Q5:(as.map bu).length=as.length:=ak ..
 have hbm:(bs.map bu).length=bs.length:=ak ..
 obtain⟨Z,hZ⟩:∃Z,iu n (as.length+bs.length) l m as bs=Z:=⟨_,rfl⟩
 rw[hZ] at q
 walk_at "dt"
 intro A5
 walk_at "dt"
 refine Sv.oQ ?_
 walk_at "dt"
 refine⟨fun k ρ=>∃(st:List cH) (i j:Nat) (l' m':Int) (f1 f2 f5:Bool) (x7 x8 x9:Sl),i+j=k/\i<=as.length/\j<=bs.length/\st.length=k/\Dn l' (as.drop i)/\Dn m' (bs.drop j)/\st++iu n (as.length+bs.length-k) l' m' (as.drop i) (bs.drop j)=Z/\ρ=[.d false (.int n), .d f1 (.int l'), .d f2 (.int m'), .d false (.list (as.map bu)), .d false (.list (bs.map bu)), .own A5 f5 (st.map bu), .d true (.int (i:Int)),x7,x8,x9],⟨[],0,0,l,m,_,_,_,_,_,_,rfl,dW _,dW _,rfl,hda,hdb,hZ,rfl⟩,?_,?_⟩
 ·rintro k d ρ ⟨hk,rfl⟩ ⟨st,i,j,l',m',f1,f2,f5,x7,x8,x9,hij,hi,hj,hst,hd1,hd2,hzz,rfl⟩
  rw[vz]
  have hkj:(k:Int)-(i:Int)=j:=by omega
  obtain⟨fu,hfu⟩:∃fu,as.length+bs.length-k=fu+1:=⟨as.length+bs.length-k-1,by omega⟩
  have sr:as.length+bs.length-(k+1)=fu:=by omega
  rw[hfu] at hzz
  have hga:∀{a:cH},as[i]?=some a->bx (as.map bu) (i:Int)=some (bu a):=fun h=>gY (by omega) (by rw[eT,aX,h];rfl)
  have GH:∀{b:cH},bs[j]?=some b->bx (bs.map bu) (j:Int)=some (bu b):=fun h=>gY (by omega) (by rw[eT,aX,h];rfl)
  have hsl:(st.map bu).length=st.length:=ak ..
  by_cases c1:i<as.length
  ·obtain⟨⟨a1,a2,a3⟩,ea⟩:∃a,as[i]?=some a:=⟨_,aQ c1⟩
   have WB:bx (as.map bu) (i:Int)=some (.tuple [.int a1, .int a2, .int a3]):=hga ea
   have hdr:=wY ea
   have Ez:=hd1
   rw[hdr] at Ez hzz
   obtain⟨d1,d2,d3⟩:=Ez
   have d1:a3<l':=d1
   by_cases c2:j<bs.length
   ·obtain⟨⟨b1,b2,b3⟩,eb⟩:∃b,bs[j]?=some b:=⟨_,aQ c2⟩
    have Qo:bx (bs.map bu) ((k:Int)-(i:Int))=some (.tuple [.int b1, .int b2, .int b3]):=by rw[hkj];exact GH eb
    have sD:=wY eb
    have qm:=hd2
    rw[sD] at qm hzz
    obtain⟨g1,g2,g3⟩:=qm
    have g1:b3<m':=g1
    rw[iu] at hzz
    by_cases c3:m'-b3<=l'-a3
    ·rw[if_pos c3,<-sD] at hzz
     walk_at "dt"
     rw[show(i:Int)+1=((i+1:Nat):Int) by omega]
     exact⟨st++[(a1,a2,a3+m')],i+1,j,a3,m',_,_,_,_,_,_,by omega,by omega,hj,by rw[bP,fE];omega,d3,hd2,by rw[sr,jd];exact hzz,by rw[cN];rfl⟩
    ·rw[if_neg c3,Int.add_comm b3,<-hdr] at hzz
     walk_at "dt"
     exact⟨st++[(b1+n,b2,l'+b3)],i,j+1,l',b3,_,_,_,_,_,_,by omega,hi,by omega,by rw[bP,fE];omega,hd1,g3,by rw[sr,jd];exact hzz,by rw[cN];rfl⟩
   ·have hd0:bs.drop j=[]:=GK (by omega)
    rw[hd0,iu,<-hd0] at hzz
    walk_at "dt"
    rw[show(i:Int)+1=((i+1:Nat):Int) by omega]
    exact⟨st++[(a1,a2,a3+m')],i+1,j,a3,m',_,_,_,_,_,_,by omega,by omega,hj,by rw[bP,fE];omega,d3,hd2,by rw[sr,jd];exact hzz,by rw[cN];rfl⟩
  ·have hd0:as.drop i=[]:=GK (by omega)
   have c2:j<bs.length:=by omega
   obtain⟨⟨b1,b2,b3⟩,eb⟩:∃b,bs[j]?=some b:=⟨_,aQ c2⟩
   have Qo:bx (bs.map bu) ((k:Int)-(i:Int))=some (.tuple [.int b1, .int b2, .int b3]):=by rw[hkj];exact GH eb
   have sD:=wY eb
   have qm:=hd2
   rw[sD] at qm hzz
   obtain⟨g1,g2,g3⟩:=qm
   have g1:b3<m':=g1
   rw[hd0,iu,Int.add_comm b3,<-hd0] at hzz
   walk_at "dt"
   exact⟨st++[(b1+n,b2,l'+b3)],i,j+1,l',b3,_,_,_,_,_,_,by omega,hi,by omega,by rw[bP,fE];omega,hd1,g3,by rw[sr,jd];exact hzz,by rw[cN];rfl⟩
 rintro ρ ⟨st,i,j,l',m',f1,f2,f5,x7,x8,x9,hij,hi,hj,hst,hd1,hd2,hzz,rfl⟩
 refine Sv.lD 5 rfl ?_
 walk_at "dt"
 have:st=Z:=by
  rw[<-hzz,show as.length+bs.length-((((as.map bu).length:Int)+((bs.map bu).length:Int)).toNat)=0 by omega,iu,ig]
 rw[this]
 exact q _
theorem Oh{n:Nat}{L:List (Int×Int)}(h:L.length<=10000):pQ (n+3) (.list (L.map pairD)):=by
 refine .inr ⟨_, .inl rfl,by rw[ak];exact h,fun e he=>?_⟩
 obtain⟨x,_,rfl⟩:=bW.mp he
 refine .inr ⟨_, .inr rfl,by show 2<=10000;omega,fun e he=>?_⟩
 simp only[aK,cE,or_false] at he
 rcases he with rfl|rfl<;>exact .inl rfl
def xE:DF:=fun ds Φ=>∃(p n m k:Int) (cs c:List aq) (ws w:List Int),ds=[cL p n cs,bO ws,cL p m c,bO w, .int k]/\eY p n cs/\eY p m c/\cs.length<=62/\c.length<=62/\ws.length=n.toNat/\w.length=m.toNat/\(∀x∈ws,0<=x/\x<p)/\(∀x∈w,0<=x/\x<p)/\0<=k/\k+m<=n/\(∀i:Nat,i<m.toNat->(bw p cs ws ((i:Int)+k)).Perm (bw p c w (i:Int)))/\∀f,Φ f (.bool true)
theorem IV:cO xE:=by
 intro ds Φ Ψ hm z
 obtain⟨p,n,m,k,cs,c,ws,w,e,h1,h2,h3,h4,h5,h6,h7,h8,h9,ha,hb,q⟩:=hm
 exact⟨p,n,m,k,cs,c,ws,w,e,h1,h2,h3,h4,h5,h6,h7,h8,h9,ha,hb,fun f=>z _ _ (q f)⟩
theorem HC:cz ["net","word","part","some","n","place"] ["net","word","part","some","n"] (aN zm):=⟨rfl,rfl,rfl,by decide+kernel,rfl,by decide+kernel,by decide+kernel⟩
theorem Tt(F:bL K "_law_votes_alike" "_law_votes_alike" zm f fd)(mT:Callee P w K mg base "_law_alike" 5 ["found","due"] (aS 2 (nA 5)))(Gu:Callee P w K mg base "votes" 4 ["net","word","place"] (aS 3 Bw))(lz:Callee P w K mg base "_law_copy" 1 ["net"] (aS 1 tE))(bD:mg "range"=none)(bS:mg "list"=none):
  bG P w K mg base bN 6 f fd ["net","word","part","some","n"] (aS 5 xE):=by
 refine F.ok HC (fun vs H Q E h=>h.1) (fun cdv A outer s H vs Q E hr h=>?_)
 obtain⟨nb,ds,Φ,hlive,hds,aD,hF⟩:=fc h
 obtain⟨p,n,m,k,cs,c,ws,w,rfl,hV,hv,hcl,UJ,hwl,Rt,hws,hw,hk,hkm,QU,q⟩:=hF
 refine⟨_,(@ao _ _ _ _ _ (@fW _ _ _ _ _ _ _ _ eU rfl (@jc _ _ _ _ _ _ rfl bD (@aa _ _ _ _ _ (@au _ _ _ _ _ _ (aL K) aO (pv 2) ai (fun _ _=>rfl)) af rfl) (by rfl)) (aR (i:=5) HC.nd rfl (Or.inl rfl)) (@aE _ _ _ (@dj _ _ _ _ _ _ _ _ (@nk _ _ _ _ (@kE _ (K) _ _ rfl (@aF _ _ _ _ _ _ _ _ _ _ mT (hr.mono (by decide)) (@aa _ _ _ _ _ (@aF _ _ _ _ _ _ _ _ _ _ Gu (hr.mono (by decide)) (@aa _ _ _ _ _ (pv 0) (@aa _ _ _ _ _ (pv 1) (@aa _ _ _ _ _ (@aB _ _ _ _ _ _ _ _ cS (pv 5) (pv 4)) af rfl) rfl) rfl) (by rfl) (by decide) (by rfl) (by rfl)) (@aa _ _ _ _ _ (@aF _ _ _ _ _ _ _ _ _ _ Gu (hr.mono (by decide)) (@aa _ _ _ _ _ (@aF _ _ _ _ _ _ _ _ _ _ lz (hr.mono (by decide)) (@aa _ _ _ _ _ (pv 2) af rfl) (by rfl) (by decide) (by rfl) (by rfl)) (@aa _ _ _ _ _ (@fS _ _ _ _ _ _ _ _ (gR K) iW rfl bS gv (@aa _ _ _ _ _ (pv 3) af rfl) (by decide) (by decide) (by rfl) (by rfl)) (@aa _ _ _ _ _ (pv 5) af rfl) rfl) rfl) (by rfl) (by decide) (by rfl) (by rfl)) af rfl) rfl) (by rfl) (by decide) (by rfl) (by rfl)) (fun _=>rfl))) (@aE _ _ _ (@aZ _ _ _ _ jG)) dX)) (by intro _;rfl)) (@aE _ _ _ (@aZ _ _ _ _ jG))),?_⟩
 refine Sv.fj hlive hds aD (ρ:=[.d false _, .d false _, .d false _, .d false _, .d false _, .no]) rfl ?_
 clear aD hds
 have m0:=hv.n0
 have m1:=hv.n1
 have n1:=hV.n1
 have nV:(w.map PyData.int).length=w.length:=ak ..
 refine Sv.seq ?_
 refine Sv.oQ ?_
 walk_at "dt"
 refine⟨fun i ρ=>∃(x5:Sl),ρ=[.d false (cL p n cs), .d false (bO ws), .d false (cL p m c), .d false (bO w), .d false (.int k),x5],⟨_,rfl⟩,?_,?_⟩
 ·rintro i d ρ ⟨hi,rfl⟩ ⟨x5,rfl⟩
  rw[vz]
  have Ea:=QU i (by omega)
  walk_at "dt"
  refine Ev.aV (oR 5) ?_
  walk_at "dt"
  refine Ev.aV Fj ?_
  walk_at "dt"
  refine⟨rfl,p,n,cs,ws,_,rfl,hV,hcl,hwl,hws,by omega,by omega,fun rs h1 h2=>?_⟩
  walk_at "dt"
  refine Ev.aV Fj ?_
  walk_at "dt"
  refine Ev.aV l6 ?_
  walk_at "dt"
  refine⟨rfl,p,m,c,rfl,by omega,fun f7=>?_⟩
  unfold bO
  walk_at "dt"
  refine⟨rfl,p,m,c,w,_,rfl,hv,UJ,Rt,hw,by omega,by omega,fun rs' h3 h4=>?_⟩
  have wB:rs'=rs:=GA h3 h1 fun k=>(h4 k).trans (Ea.mem_iff.symm.trans (h2 k).symm)
  subst wB
  rw[show(rs'.map fun r=>pairD (r,((bw p cs ws ((i:Int)+k)).count r:Int)))=rs'.map fun r=>pairD (r,((bw p c w (i:Int)).count r:Int)) from fQ fun r _=>by rw[Ea.count_eq]]
  walk_at "dt"
  have hrl:rs'.length<=c.length:=ez (u6 (h3.imp fun h=>Int.ne_of_lt h) fun k hk=>(h4 k).mp hk) KA
  refine⟨rfl,_,rfl,?_,?_⟩
  ·have:=Oh (n:=2) (L:=rs'.map fun r=>(r,((bw p c w (i:Int)).count r:Int))) (by rw[ak];omega)
   rw[dz] at this
   exact this
  walk_at "dt"
  exact⟨_,rfl⟩
 rintro ρ ⟨x5,rfl⟩
 walk_at "dt"
 exact q _
theorem A7{n:Nat}{ws:List Int}(h:ws.length<=10000):pQ (n+2) (bO ws):=by
 refine .inr ⟨_, .inl rfl,by rw[ak];exact h,fun e he=>?_⟩
 obtain⟨x,_,rfl⟩:=bW.mp he
 exact .inl rfl
theorem B0{n:Nat}{ts:List cH}(h:ts.length<=10000):pQ (n+3) (.list (ts.map bu)):=by
 refine .inr ⟨_, .inl rfl,by rw[ak];exact h,fun e he=>?_⟩
 obtain⟨x,_,rfl⟩:=bW.mp he
 refine .inr ⟨_, .inr rfl,by show 3<=10000;omega,fun e he=>?_⟩
 simp only[aK,cE,or_false] at he
 rcases he with rfl|rfl|rfl<;>exact .inl rfl
theorem T7{r:List Int×List (List cH)×Str}(h1:r.1.length<=10000)(h2:r.2.1.length<=10000)(h3:∀ts∈r.2.1,ts.length<=10000):pQ 5 (lE r):=by
 refine .inr ⟨_, .inr rfl,by show 3<=10000;omega,fun e he=>?_⟩
 simp only[aK,cE,or_false] at he
 rcases he with rfl|rfl|rfl
 ·exact A7 h1
 ·refine .inr ⟨_, .inl rfl,by rw[ak];exact h2,fun e he=>?_⟩
  obtain⟨ts,hts,rfl⟩:=bW.mp he
  exact B0 (h3 ts hts)
 ·refine .inr ⟨_, .inr rfl,by show 1<=10000;omega,fun e he=>?_⟩
  rw[cg.mp he]
  exact .inl rfl
theorem tL{p:Int}{cs:List aq}{n:Nat}(hp:0<p):∀(k:Nat) (ws:List Int),ws.length=n->(∀x∈ws,0<=x/\x<p)->(cC p cs n k ws).1.length=n/\(cC p cs n k ws).2.1.length<=k/\∀ts∈(cC p cs n k ws).2.1,ts.length<=n
  |0,ws,h,_=>by rw[cC];exact⟨h,aI _,fun _ h=>nomatch h⟩
  | k + 1, ws, h, hw => by
    by_cases c1:brk p cs ws=0
    · rw[gF c1];exact⟨h,dW _,fun _ h=>nomatch h⟩
    by_cases c2:aP p cs ws n=[]
    · rw[kI c1 c2];exact⟨h,dW _,fun _ h=>nomatch h⟩
    · rw[om c1 c2]
      have hr:=t8 (cs:=cs) hp h hw
      obtain⟨i1,i2,i3⟩:=tL hp k _ hr.1 hr.2
      refine⟨i1,by show _+1<=_;omega,fun ts hts=>?_⟩
      rcases aK.mp hts with z|z
      · rw[z];exact rX n
      · exact i3 ts z
theorem AD{p:Int}{cs:List aq}{n:Nat}:∀(k:Nat) (ws:List Int),qR (cC p cs n k ws).2.2
  | 0, ws => by
    by_cases c1:brk p cs ws=0
    · rw[gF c1];exact .inl rfl
    · rw[jP c1];exact .inr (.inl rfl)
  | k + 1, ws => by
    by_cases c1:brk p cs ws=0
    · rw[gF c1];exact .inl rfl
    by_cases c2:aP p cs ws n=[]
    · rw[kI c1 c2];exact .inr (.inr rfl)
    · rw[om c1 c2];exact AD k _
theorem JI(p n:Int)(cs:List aq)(ws:List Int):SeqAt.shaped (.tuple [cL p n cs, .list (ws.map .int)])=true:=by
 have h1:=QD cs
 have hi:∀l:List Int,PyData.depthAll (l.map PyData.int)=0/\PyData.canLayAll0 (l.map PyData.int)=true:=fun l=>by
  induction l with
  |nil=>simp[PyData.depthAll,PyData.canLayAll0]
  |cons a r ih=>simp[PyData.depthAll,PyData.depth,PyData.canLayAll0,PyData.canLay0,ih.1,ih.2]
 unfold SeqAt.shaped cL
 simp only[PyData.canLay0,PyData.canLayAll0,PyData.depth,PyData.depthAll,h1.2,(hi ws).1,(hi ws).2,qZ,Bool.and_true]
 have:=h1.1
 simp
 omega
theorem gm:cz ["script","bag","most","great","p","one","word","other","more","net","n","handed","left","far","due","steps"] ["script"] (aN kT):=⟨rfl,rfl,rfl,by decide+kernel,rfl,by decide+kernel,by decide+kernel⟩
theorem Lp(F:bL K "law" "law" kT f fd)(Ld:Callee P w K mg base "_law_bag" 1 ["script"] (Fc K))(dB:Callee P w K mg base "_law_draw" 2 ["bag","many"] jN)(MQ:Callee P w K mg base "_law_prime" 3 ["bag"] (fX 1 vS))(FT:Callee P w K mg base "_law_side" 5 ["bag","p","places","many","wide"] (fX 5 Ak))(Me:Callee P w K mg base "_law_joined" 3 ["bag","one","other"] (fX 3 xT))(AA:Callee P w K mg base "turned" 4 ["net","word"] (aS 2 By))(Pq:Callee P w K mg base "_law_rounds" 2 ["n","most","one","other"] (aS 4 AM))(A1:Callee P w K mg base "calmed" 5 ["net","word"] (aS 2 zT))(Tg:Callee P w K mg base "_law_steps" 1 ["n","left","more","one","other"] (aS 5 Cs))(lz:Callee P w K mg base "_law_copy" 1 ["net"] (aS 1 tE))(IC:Callee P w K mg base "_law_votes_alike" 6 ["net","word","part","some","n"] (aS 5 xE))(mT:Callee P w K mg base "_law_alike" 5 ["found","due"] (aS 2 (nA 5)))(zU:Callee P w K mg base "voted" 4 ["net","word","most"] (aS 3 Cb))(Ie:Callee P w K mg base "_law_broken" 2 ["net","word"] (aS 2 zv))(wR:Callee P w K mg base "_law_turns" 1 ["n","one","other"] (aS 3 ux))(bS:mg "list"=none):
  bG P w K mg base bN 7 f fd ["script"] (uc K):=by
 refine F.ok gm (fun vs H Q E h=>?_) (fun cdv A outer s H vs Q E hr h=>?_)
 ·obtain⟨a,ns,rfl,hS,hl,q⟩:=h
  rfl
 obtain⟨a,ns,rfl,hS,hl,q⟩:=h
 refine⟨_,(@ao _ _ _ _ _ (@aC _ _ (1) _ _ _ _ gm.nd rfl (Or.inl rfl) (@aF _ _ _ _ _ _ _ _ _ _ Ld (hr.mono (by decide)) (@aa _ _ _ _ _ (pv 0) af rfl) (by rfl) (by decide) (by rfl) (by rfl)) (by rfl) (by first|exact .inl rfl|exact .inr rfl|assumption)) (@ao _ _ _ _ _ (@aC _ _ (2) _ _ _ _ gm.nd rfl (Or.inl rfl) (@aF _ _ _ _ _ _ _ _ _ _ dB (hr.mono (by decide)) (@aa _ _ _ _ _ (pv 1) (@aa _ _ _ _ _ ai af rfl) rfl) (by rfl) (by decide) (by rfl) (by rfl)) (by rfl) (by first|exact .inl rfl|exact .inr rfl|assumption)) (@ao _ _ _ _ _ (@aC _ _ (3) _ _ _ _ gm.nd rfl (Or.inl rfl) (@aB _ _ _ _ _ _ _ _ p7 (@aF _ _ _ _ _ _ _ _ _ _ dB (hr.mono (by decide)) (@aa _ _ _ _ _ (pv 1) (@aa _ _ _ _ _ ai af rfl) rfl) (by rfl) (by decide) (by rfl) (by rfl)) ai) (by rfl) (by first|exact .inl rfl|exact .inr rfl|assumption)) (@ao _ _ _ _ _ (@aC _ _ (4) _ _ _ _ gm.nd rfl (Or.inl rfl) (@aF _ _ _ _ _ _ _ _ _ _ MQ (hr.mono (by decide)) (@aa _ _ _ _ _ (pv 1) af rfl) (by rfl) (by decide) (by rfl) (by rfl)) (by rfl) (by first|exact .inl rfl|exact .inr rfl|assumption)) (@ao _ _ _ _ _ (@jx _ _ _ _ _ _ (@aF _ _ _ _ _ _ _ _ _ _ FT (hr.mono (by decide)) (@aa _ _ _ _ _ (pv 1) (@aa _ _ _ _ _ (pv 4) (@aa _ _ _ _ _ (@au _ _ _ _ _ _ (cJ K) bz (@dM _ _ _ _ (@aa _ _ _ _ _ ai (@aa _ _ _ _ _ ai af rfl) rfl)) (pv 3) (fun _ _=>rfl)) (@aa _ _ _ _ _ (@au _ _ _ _ _ _ (cJ K) bz (@dM _ _ _ _ (@aa _ _ _ _ _ ai (@aa _ _ _ _ _ ai af rfl) rfl)) (pv 3) (fun _ _=>rfl)) (@aa _ _ _ _ _ (@au _ _ _ _ _ _ (cJ K) bz (@dM _ _ _ _ (@aa _ _ _ _ _ ai (@aa _ _ _ _ _ ai af rfl) rfl)) (pv 3) (fun _ _=>rfl)) af rfl) rfl) rfl) rfl) rfl) (by rfl) (by decide) (by rfl) (by rfl)) (@iF _ (K) _ _ _ (2) _ rfl rfl (@cG _ _ _ _ _ (aR (i:=5) gm.nd rfl (Or.inl rfl)) (@cG _ _ _ _ _ (aR (i:=6) gm.nd rfl (Or.inl rfl)) iC (by rfl)) (by rfl)) (by rfl) (by rfl)) (by rfl) (by rfl) (by rfl)) (@ao _ _ _ _ _ (@jx _ _ _ _ _ _ (@aF _ _ _ _ _ _ _ _ _ _ FT (hr.mono (by decide)) (@aa _ _ _ _ _ (pv 1) (@aa _ _ _ _ _ (pv 4) (@aa _ _ _ _ _ (@au _ _ _ _ _ _ (cJ K) bz (@dM _ _ _ _ (@aa _ _ _ _ _ ai (@aa _ _ _ _ _ ai af rfl) rfl)) (pv 3) (fun _ _=>rfl)) (@aa _ _ _ _ _ (@au _ _ _ _ _ _ (cJ K) bz (@dM _ _ _ _ (@aa _ _ _ _ _ ai (@aa _ _ _ _ _ ai af rfl) rfl)) (pv 3) (fun _ _=>rfl)) (@aa _ _ _ _ _ (@au _ _ _ _ _ _ (cJ K) bz (@dM _ _ _ _ (@aa _ _ _ _ _ ai (@aa _ _ _ _ _ ai af rfl) rfl)) (pv 3) (fun _ _=>rfl)) af rfl) rfl) rfl) rfl) rfl) (by rfl) (by decide) (by rfl) (by rfl)) (@iF _ (K) _ _ _ (2) _ rfl rfl (@cG _ _ _ _ _ (aR (i:=7) gm.nd rfl (Or.inl rfl)) (@cG _ _ _ _ _ (aR (i:=8) gm.nd rfl (Or.inl rfl)) iC (by rfl)) (by rfl)) (by rfl) (by rfl)) (by rfl) (by rfl) (by rfl)) (@ao _ _ _ _ _ (@aC _ _ (9) _ _ _ _ gm.nd rfl (Or.inl rfl) (@aF _ _ _ _ _ _ _ _ _ _ Me (hr.mono (by decide)) (@aa _ _ _ _ _ (pv 1) (@aa _ _ _ _ _ (pv 5) (@aa _ _ _ _ _ (pv 7) af rfl) rfl) rfl) (by rfl) (by decide) (by rfl) (by rfl)) (by rfl) (by first|exact .inl rfl|exact .inr rfl|assumption)) (@ao _ _ _ _ _ (@aC _ _ (10) _ _ _ _ gm.nd rfl (Or.inl rfl) (@au _ _ _ _ _ _ (aL K) aO (pv 5) ai (fun _ _=>rfl)) (by rfl) (by first|exact .inl rfl|exact .inr rfl|assumption)) (@ao _ _ _ _ _ (@aC _ _ (11) _ _ _ _ gm.nd rfl (Or.inl rfl) (@cy _ _ _ _ _ (@aa _ _ _ _ _ (@aF _ _ _ _ _ _ _ _ _ _ lz (hr.mono (by decide)) (@aa _ _ _ _ _ (pv 9) af rfl) (by rfl) (by decide) (by rfl) (by rfl)) (@aa _ _ _ _ _ (@aB _ _ _ _ _ _ _ _ jt (pv 6) (pv 8)) af rfl) rfl)) (by rfl) (by first|exact .inl rfl|exact .inr rfl|assumption)) (@ao _ _ _ _ _ (@dj _ _ _ _ _ _ _ _ (@nk _ _ _ _ (@kE _ (K) _ _ rfl (@aF _ _ _ _ _ _ _ _ _ _ IC (hr.mono (by decide)) (@aa _ _ _ _ _ (@au _ _ _ _ _ _ (aL K) aO (pv 11) ai (fun _ _=>rfl)) (@aa _ _ _ _ _ (@au _ _ _ _ _ _ (aL K) aO (pv 11) ai (fun _ _=>rfl)) (@aa _ _ _ _ _ (pv 5) (@aa _ _ _ _ _ (pv 6) (@aa _ _ _ _ _ ai af rfl) rfl) rfl) rfl) rfl) (by rfl) (by decide) (by rfl) (by rfl)) (fun _=>rfl))) (@aE _ _ _ (@aZ _ _ _ _ jG)) dX) (@ao _ _ _ _ _ (@dj _ _ _ _ _ _ _ _ (@nk _ _ _ _ (@kE _ (K) _ _ rfl (@aF _ _ _ _ _ _ _ _ _ _ IC (hr.mono (by decide)) (@aa _ _ _ _ _ (@au _ _ _ _ _ _ (aL K) aO (pv 11) ai (fun _ _=>rfl)) (@aa _ _ _ _ _ (@au _ _ _ _ _ _ (aL K) aO (pv 11) ai (fun _ _=>rfl)) (@aa _ _ _ _ _ (pv 7) (@aa _ _ _ _ _ (pv 8) (@aa _ _ _ _ _ (pv 10) af rfl) rfl) rfl) rfl) rfl) (by rfl) (by decide) (by rfl) (by rfl)) (fun _=>rfl))) (@aE _ _ _ (@aZ _ _ _ _ jG)) dX) (@ao _ _ _ _ _ (@aC _ _ (12) _ _ _ _ gm.nd rfl (Or.inl rfl) (@aF _ _ _ _ _ _ _ _ _ _ AA (hr.mono (by decide)) (@aa _ _ _ _ _ (@aF _ _ _ _ _ _ _ _ _ _ lz (hr.mono (by decide)) (@aa _ _ _ _ _ (pv 5) af rfl) (by rfl) (by decide) (by rfl) (by rfl)) (@aa _ _ _ _ _ (@fS _ _ _ _ _ _ _ _ (gR K) iW rfl bS gv (@aa _ _ _ _ _ (pv 6) af rfl) (by decide) (by decide) (by rfl) (by rfl)) af rfl) rfl) (by rfl) (by decide) (by rfl) (by rfl)) (by rfl) (by first|exact .inl rfl|exact .inr rfl|assumption)) (@ao _ _ _ _ _ (@aC _ _ (13) _ _ _ _ gm.nd rfl (Or.inl rfl) (@aF _ _ _ _ _ _ _ _ _ _ AA (hr.mono (by decide)) (@aa _ _ _ _ _ (@aF _ _ _ _ _ _ _ _ _ _ lz (hr.mono (by decide)) (@aa _ _ _ _ _ (pv 7) af rfl) (by rfl) (by decide) (by rfl) (by rfl)) (@aa _ _ _ _ _ (@fS _ _ _ _ _ _ _ _ (gR K) iW rfl bS gv (@aa _ _ _ _ _ (pv 8) af rfl) (by decide) (by decide) (by rfl) (by rfl)) af rfl) rfl) (by rfl) (by decide) (by rfl) (by rfl)) (by rfl) (by first|exact .inl rfl|exact .inr rfl|assumption)) (@ao _ _ _ _ _ (@dj _ _ _ _ _ _ _ _ (@nk _ _ _ _ (@kE _ (K) _ _ rfl (@aF _ _ _ _ _ _ _ _ _ _ mT (hr.mono (by decide)) (@aa _ _ _ _ _ (@aF _ _ _ _ _ _ _ _ _ _ AA (hr.mono (by decide)) (@aa _ _ _ _ _ (@au _ _ _ _ _ _ (aL K) aO (pv 11) ai (fun _ _=>rfl)) (@aa _ _ _ _ _ (@au _ _ _ _ _ _ (aL K) aO (pv 11) ai (fun _ _=>rfl)) af rfl) rfl) (by rfl) (by decide) (by rfl) (by rfl)) (@aa _ _ _ _ _ (@cy _ _ _ _ _ (@aa _ _ _ _ _ (@aB _ _ _ _ _ _ _ _ jt (@au _ _ _ _ _ _ (aL K) aO (pv 12) ai (fun _ _=>rfl)) (@au _ _ _ _ _ _ (aL K) aO (pv 13) ai (fun _ _=>rfl))) (@aa _ _ _ _ _ (@aF _ _ _ _ _ _ _ _ _ _ wR (hr.mono (by decide)) (@aa _ _ _ _ _ (pv 10) (@aa _ _ _ _ _ (@au _ _ _ _ _ _ (aL K) aO (pv 12) ai (fun _ _=>rfl)) (@aa _ _ _ _ _ (@au _ _ _ _ _ _ (aL K) aO (pv 13) ai (fun _ _=>rfl)) af rfl) rfl) rfl) (by rfl) (by decide) (by rfl) (by rfl)) af rfl) rfl)) af rfl) rfl) (by rfl) (by decide) (by rfl) (by rfl)) (fun _=>rfl))) (@aE _ _ _ (@aZ _ _ _ _ jG)) dX) (@ao _ _ _ _ _ (@aC _ _ (14) _ _ _ _ gm.nd rfl (Or.inl rfl) (@aF _ _ _ _ _ _ _ _ _ _ Pq (hr.mono (by decide)) (@aa _ _ _ _ _ (pv 10) (@aa _ _ _ _ _ (pv 2) (@aa _ _ _ _ _ (@aF _ _ _ _ _ _ _ _ _ _ zU (hr.mono (by decide)) (@aa _ _ _ _ _ (@aF _ _ _ _ _ _ _ _ _ _ lz (hr.mono (by decide)) (@aa _ _ _ _ _ (pv 5) af rfl) (by rfl) (by decide) (by rfl) (by rfl)) (@aa _ _ _ _ _ (@fS _ _ _ _ _ _ _ _ (gR K) iW rfl bS gv (@aa _ _ _ _ _ (pv 6) af rfl) (by decide) (by decide) (by rfl) (by rfl)) (@aa _ _ _ _ _ (pv 2) af rfl) rfl) rfl) (by rfl) (by decide) (by rfl) (by rfl)) (@aa _ _ _ _ _ (@aF _ _ _ _ _ _ _ _ _ _ zU (hr.mono (by decide)) (@aa _ _ _ _ _ (@aF _ _ _ _ _ _ _ _ _ _ lz (hr.mono (by decide)) (@aa _ _ _ _ _ (pv 7) af rfl) (by rfl) (by decide) (by rfl) (by rfl)) (@aa _ _ _ _ _ (@fS _ _ _ _ _ _ _ _ (gR K) iW rfl bS gv (@aa _ _ _ _ _ (pv 8) af rfl) (by decide) (by decide) (by rfl) (by rfl)) (@aa _ _ _ _ _ (pv 2) af rfl) rfl) rfl) (by rfl) (by decide) (by rfl) (by rfl)) af rfl) rfl) rfl) rfl) (by rfl) (by decide) (by rfl) (by rfl)) (by rfl) (by first|exact .inl rfl|exact .inr rfl|assumption)) (@ao _ _ _ _ _ (@dj _ _ _ _ _ _ _ _ (@nk _ _ _ _ (@kE _ (K) _ _ rfl (@aF _ _ _ _ _ _ _ _ _ _ mT (hr.mono (by decide)) (@aa _ _ _ _ _ (@aF _ _ _ _ _ _ _ _ _ _ zU (hr.mono (by decide)) (@aa _ _ _ _ _ (@au _ _ _ _ _ _ (aL K) aO (pv 11) ai (fun _ _=>rfl)) (@aa _ _ _ _ _ (@au _ _ _ _ _ _ (aL K) aO (pv 11) ai (fun _ _=>rfl)) (@aa _ _ _ _ _ (pv 2) af rfl) rfl) rfl) (by rfl) (by decide) (by rfl) (by rfl)) (@aa _ _ _ _ _ (pv 14) af rfl) rfl) (by rfl) (by decide) (by rfl) (by rfl)) (fun _=>rfl))) (@aE _ _ _ (@aZ _ _ _ _ jG)) dX) (@ao _ _ _ _ _ (@aC _ _ (12) _ _ _ _ gm.nd rfl (Or.inl rfl) (@aF _ _ _ _ _ _ _ _ _ _ A1 (hr.mono (by decide)) (@aa _ _ _ _ _ (@aF _ _ _ _ _ _ _ _ _ _ lz (hr.mono (by decide)) (@aa _ _ _ _ _ (pv 5) af rfl) (by rfl) (by decide) (by rfl) (by rfl)) (@aa _ _ _ _ _ (@fS _ _ _ _ _ _ _ _ (gR K) iW rfl bS gv (@aa _ _ _ _ _ (pv 6) af rfl) (by decide) (by decide) (by rfl) (by rfl)) af rfl) rfl) (by rfl) (by decide) (by rfl) (by rfl)) (by rfl) (by first|exact .inl rfl|exact .inr rfl|assumption)) (@ao _ _ _ _ _ (@aC _ _ (13) _ _ _ _ gm.nd rfl (Or.inl rfl) (@aF _ _ _ _ _ _ _ _ _ _ A1 (hr.mono (by decide)) (@aa _ _ _ _ _ (@aF _ _ _ _ _ _ _ _ _ _ lz (hr.mono (by decide)) (@aa _ _ _ _ _ (pv 7) af rfl) (by rfl) (by decide) (by rfl) (by rfl)) (@aa _ _ _ _ _ (@fS _ _ _ _ _ _ _ _ (gR K) iW rfl bS gv (@aa _ _ _ _ _ (pv 8) af rfl) (by decide) (by decide) (by rfl) (by rfl)) af rfl) rfl) (by rfl) (by decide) (by rfl) (by rfl)) (by rfl) (by first|exact .inl rfl|exact .inr rfl|assumption)) (@ao _ _ _ _ _ (@aC _ _ (15) _ _ _ _ gm.nd rfl (Or.inl rfl) (@aF _ _ _ _ _ _ _ _ _ _ Tg (hr.mono (by decide)) (@aa _ _ _ _ _ (pv 10) (@aa _ _ _ _ _ (@aF _ _ _ _ _ _ _ _ _ _ Ie (hr.mono (by decide)) (@aa _ _ _ _ _ (pv 5) (@aa _ _ _ _ _ (pv 6) af rfl) rfl) (by rfl) (by decide) (by rfl) (by rfl)) (@aa _ _ _ _ _ (@aF _ _ _ _ _ _ _ _ _ _ Ie (hr.mono (by decide)) (@aa _ _ _ _ _ (pv 7) (@aa _ _ _ _ _ (pv 8) af rfl) rfl) (by rfl) (by decide) (by rfl) (by rfl)) (@aa _ _ _ _ _ (@au _ _ _ _ _ _ (aL K) aO (pv 12) ai (fun _ _=>rfl)) (@aa _ _ _ _ _ (@au _ _ _ _ _ _ (aL K) aO (pv 13) ai (fun _ _=>rfl)) af rfl) rfl) rfl) rfl) rfl) (by rfl) (by decide) (by rfl) (by rfl)) (by rfl) (by first|exact .inl rfl|exact .inr rfl|assumption)) (@ao _ _ _ _ _ (@dj _ _ _ _ _ _ _ _ (@nk _ _ _ _ (@kE _ (K) _ _ rfl (@aF _ _ _ _ _ _ _ _ _ _ mT (hr.mono (by decide)) (@aa _ _ _ _ _ (@aF _ _ _ _ _ _ _ _ _ _ A1 (hr.mono (by decide)) (@aa _ _ _ _ _ (@au _ _ _ _ _ _ (aL K) aO (pv 11) ai (fun _ _=>rfl)) (@aa _ _ _ _ _ (@au _ _ _ _ _ _ (aL K) aO (pv 11) ai (fun _ _=>rfl)) af rfl) rfl) (by rfl) (by decide) (by rfl) (by rfl)) (@aa _ _ _ _ _ (@cy _ _ _ _ _ (@aa _ _ _ _ _ (@aB _ _ _ _ _ _ _ _ jt (@au _ _ _ _ _ _ (aL K) aO (pv 12) ai (fun _ _=>rfl)) (@au _ _ _ _ _ _ (aL K) aO (pv 13) ai (fun _ _=>rfl))) (@aa _ _ _ _ _ (pv 15) af rfl) rfl)) af rfl) rfl) (by rfl) (by decide) (by rfl) (by rfl)) (fun _=>rfl))) (@aE _ _ _ (@aZ _ _ _ _ jG)) dX) (@aE _ _ _ (@aZ _ _ _ _ (@rO _ _ _ _ _ _ _ _ (rJ hr.units) (pv 11) (@cy _ _ _ _ _ (@aa _ _ _ _ _ (pv 9) (@aa _ _ _ _ _ (@aB _ _ _ _ _ _ _ _ jt (pv 6) (pv 8)) af rfl) rfl)) (br _)))))))))))))))))))))))),?_⟩
 walk_at "st"
 refine⟨a,ns,rfl,hS,hl,fun b l H1 s1 f1 B1=>?_⟩
 have Qd:=s1.seq hS
 have key:∀(t:TS) (D:Ends),(∀H,D.rt (.bl true) H)->Sv (wM b l H1) [.raw (.ref a), .aA, .no, .no, .no, .no, .no, .no, .no, .no, .no, .no, .no, .no, .no, .no] t {nx:=fun _=>False,rt:=fun _ d=>d= .bool true}->t D [some (.ref a),some (.ref b),none,none,none,none,none,none,none,none,none,none,none,none,none,none] H1:=fun t D d2 h=>h _ _ _ D (TL (m:=14) B1) (SQ d2)
 refine R.EW ?_
 dsimp only
 refine key _ _ (fun H=>?_) ?_
 ·exact q _
 walk_at "dt"
 intro mo mo0 mo1
 obtain⟨m,rfl⟩:=z4 mo0
 walk_at "dt"
 intro gr gr0 gr1
 walk_at "dt"
 refine Ev.lG RN rfl ?_
 walk_at "dt"
 refine⟨rfl,fun p hp iU f=>?_⟩
 have p2:=hp.1
 refine Gv.qu ?_
 walk_at "dt"
 have hg:gr/3=0\/gr/3=1:=by omega
 generalize gr/3=g at hg⊢
 obtain⟨c1,Qj,VD,SK⟩:∃c,bx [PyData.int 5,PyData.int 12] g=some (.int c)/\1<=c/\c<=12:=by rcases hg with rfl|rfl;exact⟨5,rfl,by decide,by decide⟩;exact⟨12,rfl,by decide,by decide⟩
 obtain⟨c2,Og,TQ,PM⟩:∃c,bx [PyData.int 6,PyData.int 12] g=some (.int c)/\1<=c/\c<=12:=by rcases hg with rfl|rfl;exact⟨6,rfl,by decide,by decide⟩;exact⟨12,rfl,by decide,by decide⟩
 obtain⟨c3,Ls,PZ,U9⟩:∃c,bx [PyData.int 4,PyData.int 7] g=some (.int c)/\1<=c/\c<=12:=by rcases hg with rfl|rfl;exact⟨4,rfl,by decide,by decide⟩;exact⟨7,rfl,by decide,by decide⟩
 refine Ev.lG HF rfl ?_
 walk_at "dt"
 refine⟨rfl,p,c1,c2,c3,rfl,hp,iU,by omega,by omega,by omega,by omega,by omega,by omega,fun n k1 u f2 hV hne hn hcl jz lV=>?_⟩
 have n0:=hV.n0
 have Wn:(u.map PyData.int).length=u.length:=ak ..
 walk_at "dt"
 refine Ev.lG HF rfl ?_
 walk_at "dt"
 refine⟨rfl,p,c1,c2,c3,rfl,hp,iU,by omega,by omega,by omega,by omega,by omega,by omega,fun n' k2 w f3 kB hne' hn' RM hwl hwr=>?_⟩
 have V5:=kB.n0
 have nV:(w.map PyData.int).length=w.length:=ak ..
 walk_at "dt"
 refine Ev.lG M3 rfl ?_
 walk_at "dt"
 refine⟨rfl,p,n,n',k1,k2,rfl,hV,kB,by omega,by omega,by omega,hne,hne',fun cs f4 hJ=>?_⟩
 have qO:=hJ.zA
 have Wa:cs.length=k1.length+k2.length:=by rw[hJ.e.length_eq,bP,ak]
 have Wv:n<=12:=by omega
 have Wq:n'<=12:=by omega
 have kb1:k1.length<=12:=by omega
 have kb2:k2.length<=12:=by omega
 clear Qj Og Ls VD SK TQ PM PZ U9 hcl RM hn hn' hne hne' gr0 gr1 Qd hS hl
 have oB:(u++w).length=(n+n').toNat:=by rw[bP];omega
 have p6:∀x∈u++w,0<=x/\x<p:=fun x hx=>(gP.mp hx).elim (lV x) (hwr x)
 have GR:u.map PyData.int++w.map PyData.int=(u++w).map PyData.int:=(cN ..).symm
 refine Gv.k8 ?_
 unfold bO
 walk_at "dt"
 refine Ev.aV l6 ?_
 walk_at "dt"
 refine⟨rfl,p,n+n',cs,rfl,by omega,fun f7=>?_⟩
 walk_at "dt"
 rw[GR]
 refine Ev.aV IV ?_
 walk_at "dt"
 refine⟨rfl,p,n+n',n,0,cs,k1,u++w,u,rfl,qO,hV,by omega,by omega,oB,jz,p6,lV,by omega,by omega,fun i hi=>?_,fun g1=>?_⟩
 ·rw[we];exact BB hJ jz hwl hi
 walk_at "dt"
 refine Ev.aV IV ?_
 walk_at "dt"
 refine⟨rfl,p,n+n',n',n,cs,k2,u++w,w,rfl,qO,kB,by omega,by omega,oB,hwl,p6,hwr,by omega,by omega,fun i hi=>?_,fun g2=>?_⟩
 ·rw[show(i:Int)+n=((n.toNat+i:Nat):Int) by omega];exact wA hJ jz hwl hi
 walk_at "dt"
 refine Ev.aV zE ?_
 walk_at "dt"
 refine Ev.aV l6 ?_
 walk_at "dt"
 refine⟨rfl,p,n,k1,rfl,by omega,fun g3=>?_⟩
 walk_at "dt"
 refine⟨rfl,p,n,k1,u,rfl,hV,jz,lV,?_⟩
 walk_at "dt"
 refine Ev.aV zE ?_
 walk_at "dt"
 refine Ev.aV l6 ?_
 walk_at "dt"
 refine⟨rfl,p,n',k2,rfl,by omega,fun g4=>?_⟩
 walk_at "dt"
 refine⟨rfl,p,n',k2,w,rfl,kB,hwl,hwr,?_⟩
 have ht1:=rX (p:=p) (cs:=k1) (ws:=u) n.toNat
 have RQ:=rX (p:=p) (cs:=k2) (ws:=w) n'.toNat
 have MU:=qB u (aP p k1 u n.toNat)
 have UG:=qB w (aP p k2 w n'.toNat)
 have CA:=yg hJ jz hwl
 have Ep:=Jm hJ jz hwl
 walk_at "dt"
 refine Ev.aV (oR 5) ?_
 walk_at "dt"
 refine Ev.aV zE ?_
 walk_at "dt"
 refine⟨rfl,p,n+n',cs,u++w,rfl,qO,oB,p6,?_⟩
 rw[Ep,CA]
 generalize aP p k1 u n.toNat=T1 at*
 generalize aP p k2 w n'.toNat=T2 at*
 generalize cA u T1=P1 at*
 generalize cA w T2=P2 at*
 have za:(P1.map PyData.int).length=P1.length:=ak ..
 have BF:(P2.map PyData.int).length=P2.length:=ak ..
 unfold bO
 walk_at "dt"
 refine Ev.aV um ?_
 walk_at "dt"
 refine⟨rfl,n,T1,T2,rfl,by omega,by omega,fun g5=>?_⟩
 walk_at "dt"
 rw[show P1.map PyData.int++P2.map PyData.int=(P1++P2).map PyData.int from(cN ..).symm]
 refine⟨rfl, .tuple [.list ((P1++P2).map .int), .list ((T1++T2.map (jv n)).map bu)],rfl,?_,?_⟩
 ·refine .inr ⟨_, .inr rfl,by show 2<=10000;omega,fun e he=>?_⟩
  simp only[aK,cE,or_false] at he
  rcases he with rfl|rfl
  ·exact A7 (by rw[bP];omega)
  ·exact B0 (by rw[bP,ak];omega)
 have G7:=tL (cs:=k1) (n:=n.toNat) (show 0<p by omega) m u jz lV
 have Fo:=tL (cs:=k2) (n:=n'.toNat) (show 0<p by omega) m w hwl hwr
 have xF:=tL (cs:=cs) (n:=(n+n').toNat) (show 0<p by omega) m (u++w) oB p6
 have GG:=AD (p:=p) (cs:=k1) (n:=n.toNat) m u
 have Gr:=AD (p:=p) (cs:=k2) (n:=n'.toNat) m w
 have zb:=Dw hJ m jz hwl lV hwr
 rw[zb] at xF
 walk_at "dt"
 refine Ev.aV NR ?_
 walk_at "dt"
 refine Ev.aV A0 ?_
 walk_at "dt"
 refine Ev.aV l6 ?_
 walk_at "dt"
 refine⟨rfl,p,n,k1,rfl,by omega,fun g6=>?_⟩
 walk_at "dt"
 refine⟨rfl,p,n,k1,u,m,rfl,hV,by omega,jz,lV,?_⟩
 walk_at "dt"
 refine Ev.aV A0 ?_
 walk_at "dt"
 refine Ev.aV l6 ?_
 walk_at "dt"
 refine⟨rfl,p,n',k2,rfl,by omega,fun g7=>?_⟩
 walk_at "dt"
 refine⟨rfl,p,n',k2,w,m,rfl,kB,by omega,hwl,hwr,?_⟩
 walk_at "dt"
 generalize cC p k1 n.toNat m u=r1 at*
 generalize cC p k2 n'.toNat m w=r2 at*
 refine⟨rfl,n,m,r1,r2,rfl,by omega,by omega,by omega,by omega,fun ts h=>by have:=G7.2.2 ts h;omega,fun ts h=>by have:=Fo.2.2 ts h;omega,GG,Gr,fun g8=>?_⟩
 refine Gv.k8 ?_
 walk_at "dt"
 refine Ev.aV (oR 5) ?_
 walk_at "dt"
 refine Ev.aV A0 ?_
 walk_at "dt"
 refine⟨rfl,p,n+n',cs,u++w,m,rfl,qO,by omega,oB,p6,?_⟩
 rw[zb]
 walk_at "dt"
 refine⟨rfl,_,rfl,T7 (by omega) (by omega) (fun ts hts=>ez (xF.2.2 ts hts) (by omega)),?_⟩
 have hd1:=tD (p:=p) (cs:=k1) (n:=n.toNat) (by omega) k1.length u
 have hd2:=tD (p:=p) (cs:=k2) (n:=n'.toNat) (by omega) k2.length w
 have uH:=qJ hJ cs.length k1.length k2.length _ jz hwl qA qA (by have:=qA (p:=p) (cs:=k1) (ws:=u);have:=qA (p:=p) (cs:=k2) (ws:=w);omega) (aI _)
 have sU:=tD (p:=p) (cs:=cs) (n:=(n+n').toNat) (by omega) cs.length (u++w)
 rw[uH] at sU
 walk_at "dt"
 refine Ev.aV yh ?_
 walk_at "dt"
 refine Ev.aV l6 ?_
 walk_at "dt"
 refine⟨rfl,p,n,k1,rfl,by omega,fun g9=>?_⟩
 walk_at "dt"
 refine⟨rfl,p,n,k1,u,rfl,hV,by omega,jz,lV,?_⟩
 refine Gv.k8 ?_
 walk_at "dt"
 refine Ev.aV yh ?_
 walk_at "dt"
 refine Ev.aV l6 ?_
 walk_at "dt"
 refine⟨rfl,p,n',k2,rfl,by omega,fun We=>?_⟩
 walk_at "dt"
 refine⟨rfl,p,n',k2,w,rfl,kB,by omega,hwl,hwr,?_⟩
 refine Gv.k8 ?_
 generalize runC p k1 n.toNat k1.length u=r3 at*
 generalize runC p k2 n'.toNat k2.length w=r4 at*
 obtain⟨w3,s3⟩:=r3
 obtain⟨w4,s4⟩:=r4
 dsimp only at hd1 hd2 uH sU⊢
 have V7:(w3.map PyData.int).length=w3.length:=ak ..
 have VV:(w4.map PyData.int).length=w4.length:=ak ..
 walk_at "dt"
 refine Ev.aV UI ?_
 walk_at "dt"
 refine Ev.aV Hi ?_
 walk_at "dt"
 refine⟨rfl,p,n,k1,u,rfl,hV,jz,lV,?_⟩
 walk_at "dt"
 refine Ev.aV Hi ?_
 walk_at "dt"
 refine⟨rfl,p,n',k2,w,rfl,kB,hwl,hwr,?_⟩
 walk_at "dt"
 refine⟨rfl,n,_,_,s3,s4,rfl,by omega,by omega,hd1.1,hd2.1,fun V4=>?_⟩
 refine Gv.k8 ?_
 walk_at "dt"
 refine Ev.aV (oR 5) ?_
 walk_at "dt"
 refine Ev.aV yh ?_
 walk_at "dt"
 refine⟨rfl,p,n+n',cs,u++w,rfl,qO,by omega,oB,p6,?_⟩
 rw[uH]
 generalize iu n (s3.length+s4.length) (brk p k1 u) (brk p k2 w) s3 s4=sj at*
 unfold bO
 dsimp only at sU⊢
 walk_at "dt"
 rw[show w3.map PyData.int++w4.map PyData.int=(w3++w4).map PyData.int from(cN ..).symm]
 refine⟨rfl, .tuple [.list ((w3++w4).map .int), .list (sj.map bu)],rfl,?_,?_⟩
 ·refine .inr ⟨_, .inr rfl,by show 2<=10000;omega,fun e he=>?_⟩
  simp only[aK,cE,or_false] at he
  rcases he with rfl|rfl
  ·exact A7 (by rw[bP];omega)
  ·exact B0 (by omega)
 have hsh:=JI p (n+n') cs (u++w)
 clear hd1 hd2 uH sU G7 Fo xF GG Gr zb ht1 RQ MU UG CA Ep
 walk_at "dt"
 rw[GR]
 exact⟨hsh,congrArg (fun b:Bool=>PyData.bool (b !=false)) (eqv_refl _ (.inl hsh))⟩
end
local macro_rules| `(tactic|walk_at "bn")=> `(tactic|(intro _ _ _ _ _ _ us hl;first|(obtain⟨_,h⟩:=Ey hl;subst h;rfl)|(obtain⟨_,_,h⟩:=ln2 hl;subst h;rfl)|(obtain⟨_,_,_,h⟩:=Fg hl;subst h;rfl)|(obtain⟨_,_,_,_,h⟩:=I0 hl;subst h;rfl)|(obtain⟨_,_,_,_,_,h⟩:=ML hl;subst h;rfl)|(obtain⟨_,_,_,_,_,_,h⟩:=ln6 hl;subst h;rfl)|(obtain⟨_,_,_,_,_,_,_,h⟩:=ln7 hl;subst h;rfl)))
theorem all_mk{l:PySem.W.OpenLaw}{w:World}{K:PySem.W.Frag}{h:Heap}{mg:Str->Option Value}{fa:Addr}{f0 f1 f2 f3 f4 f5 f6 f7 f8 f9 Ve Mc NU OG R4 Sd Px Pb Na Pu Sf RV Nv Rv U3 ME JP MC RO Tc PB RG f32 L7 Vy B5:Addr}(X:K.In h)(G:h.Ns mainGlobals mg)(SS:mg "law"=some (.ref fa))
  {KS Im:Option Addr} {LX:Array (Option Value)} {SD Ih IP Ei yv Fx:Value}
  (d0:aJ K "inverse" "inverse" BU f0)
  (d1:aJ K "total" "total" Ca f1)
  (d2:aJ K "sums" "sums" vC f2)
  (d3:aJ K "sum_of" "sum_of" AN f3)
  (d4:aJ K "voices" "voices" sy f4)
  (d5:aJ K "all_voices" "all_voices" BE f5)
  (d6:aJ K "counts_of" "counts_of" zk f6)
  (d7:aJ K "votes" "votes" vL f7)
  (d8:aJ K "turns_of" "turns_of" zD f8)
  (d9:aJ K "turned" "turned" BG f9)
  (Bj:aJ K "with_turns" "with_turns" yT Ve)
  (BY:aJ K "voted" "voted" wz Mc)
  (Ba:aJ K "broken_of" "broken_of" uY NU)
  (AS:aJ K "calming" "calming" yW OG)
  (Al:aJ K "calmed" "calmed" zw R4)
  (Am:aJ K "_law_bag" "_law_bag" ua Sd)
  (xQ:aJ K "_law_stirred" "_law_stirred" zz Px)
  (yI:aJ K "_law_draw" "_law_draw" yq Pb)
  (z9:aJ K "_law_prime_from" "_law_prime_from" uK Na)
  (wj:aJ K "_law_prime" "_law_prime" Aq Pu)
  (yo:aJ K "_law_letters" "_law_letters" rR Sf)
  (vQ:aJ K "_law_over" "_law_over" zl RV)
  (vR:aJ K "_law_sum" "_law_sum" tH Nv)
  (zX:aJ K "_law_planted_check" "_law_planted_check" rB Rv)
  (xX:aJ K "_law_planted" "_law_planted" rL U3)
  (B9:aJ K "_law_net" "_law_net" qM ME)
  (xr:aJ K "_law_side" "_law_side" Ag JP)
  (Ax:aJ K "_law_alike" "_law_alike" t7 MC)
  (zW:aJ K "_law_copy" "_law_copy" u7 RO)
  (BO:aJ K "_law_joined" "_law_joined" rA Tc)
  (yZ:aJ K "_law_turns" "_law_turns" uL PB)
  (xw:aJ K "_law_rounds" "_law_rounds" yY RG)
  (yf:aJ K "_law_broken" "_law_broken" sX f32)
  (AK:aJ K "_law_steps" "_law_steps" AO L7)
  (xj:aJ K "_law_votes_alike" "_law_votes_alike" zm Vy)
  (Cp:PySem.W.nsIn K mainGlobals "law"=some (some (.ref B5))) (yk:K.lookup B5=some ⟨SD,KS, .func (PySem.W.fnOf "law" "law" (mV kT) (mq kT) (aN kT) .none Ih IP Ei Im yv Fx),LX⟩) (Bo:PySem.W.codeIn K yv "law"=true) (Ac:PySem.W.keepIn K (.ref B5)=true)
  (zu:PySem.W.nsIn K mainGlobals "abs"=some none)
  (xZ:PySem.W.nsIn K mainGlobals "all"=some none)
  (yi:PySem.W.nsIn K mainGlobals "bool"=some none)
  (AI:PySem.W.nsIn K mainGlobals "dict"=some none)
  (zx:PySem.W.nsIn K mainGlobals "enumerate"=some none)
  (Af:PySem.W.nsIn K mainGlobals "int"=some none)
  (yd:PySem.W.nsIn K mainGlobals "isinstance"=some none)
  (Az:PySem.W.nsIn K mainGlobals "len"=some none)
  (Bh:PySem.W.nsIn K mainGlobals "list"=some none)
  (zO:PySem.W.nsIn K mainGlobals "max"=some none)
  (BI:PySem.W.nsIn K mainGlobals "min"=some none)
  (yG:PySem.W.nsIn K mainGlobals "range"=some none)
  (An:PySem.W.nsIn K mainGlobals "set"=some none)
  (Bp:PySem.W.nsIn K mainGlobals "sorted"=some none)
  (ye:PySem.W.nsIn K mainGlobals "str"=some none)
  (yH:PySem.W.nsIn K mainGlobals "sum"=some none)
  (wm:PySem.W.nsIn K mainGlobals "tuple"=some none)
  :∃fd:FuncData,(∀(s:Shared) (v:Value),BindsTo s fd ⟨[v],[]⟩ [("script",v)])/\∀base:Heap,K.In base->base.Ns mainGlobals mg->bG l.prog w K mg base bN 7 fa fd ["script"] (uc K):=by
 have e:=SS.symm.trans (bX X G Cp)
 cases e
 obtain⟨a0,_,F0⟩:=d0
 have b0:=F0.binds (ps:=["p","b"]) (by walk_at "bn")
 obtain⟨a1,_,F1⟩:=d1
 have b1:=F1.binds (ps:=["p","pairs","word"]) (by walk_at "bn")
 obtain⟨a2,_,F2⟩:=d2
 have b2:=F2.binds (ps:=["net","word"]) (by walk_at "bn")
 obtain⟨a3,_,F3⟩:=d3
 have b3:=F3.binds (ps:=["p","pairs","word"]) (by walk_at "bn")
 obtain⟨a4,_,F4⟩:=d4
 have b4:=F4.binds (ps:=["net","places"]) (by walk_at "bn")
 obtain⟨a5,_,F5⟩:=d5
 have b5:=F5.binds (ps:=["net"]) (by walk_at "bn")
 obtain⟨a6,_,F6⟩:=d6
 have b6:=F6.binds (ps:=["p","there","reached","letter"]) (by walk_at "bn")
 obtain⟨a7,_,F7⟩:=d7
 have b7:=F7.binds (ps:=["net","word","place"]) (by walk_at "bn")
 obtain⟨a8,_,F8⟩:=d8
 have b8:=F8.binds (ps:=["p","found","reached","word"]) (by walk_at "bn")
 obtain⟨a9,_,F9⟩:=d9
 have b9:=F9.binds (ps:=["net","word"]) (by walk_at "bn")
 obtain⟨Lh,_,Cm⟩:=Bj
 have KZ:=Cm.binds (ps:=["word","turns"]) (by walk_at "bn")
 obtain⟨Mx,_,yV⟩:=BY
 have T9:=yV.binds (ps:=["net","word","most"]) (by walk_at "bn")
 obtain⟨Uc,_,Au⟩:=Ba
 have SN:=Au.binds (ps:=["reached"]) (by walk_at "bn")
 obtain⟨MA,_,BK⟩:=AS
 have UD:=BK.binds (ps:=["net","found","word"]) (by walk_at "bn")
 obtain⟨SI,_,Ay⟩:=Al
 have KL:=Ay.binds (ps:=["net","word"]) (by walk_at "bn")
 obtain⟨Qg,_,Bc⟩:=Am
 have Pz:=Bc.binds (ps:=["script"]) (by walk_at "bn")
 obtain⟨Lj,_,z5⟩:=xQ
 have Kl:=z5.binds (ps:=["bag","many"]) (by walk_at "bn")
 obtain⟨S3,_,BC⟩:=yI
 have R8:=BC.binds (ps:=["bag","many"]) (by walk_at "bn")
 obtain⟨Mn,_,BQ⟩:=z9
 have LH:=BQ.binds (ps:=["number"]) (by walk_at "bn")
 obtain⟨Ra,_,Bt⟩:=wj
 have QY:=Bt.binds (ps:=["bag"]) (by walk_at "bn")
 obtain⟨Mj,_,yE⟩:=yo
 have Oe:=yE.binds (ps:=["bag","p","n"]) (by walk_at "bn")
 obtain⟨Sa,_,wQ⟩:=vQ
 have Pn:=wQ.binds (ps:=["p","a","b"]) (by walk_at "bn")
 obtain⟨VB,_,xK⟩:=vR
 have LL:=xK.binds (ps:=["p","pairs","word"]) (by walk_at "bn")
 obtain⟨K0,_,w9⟩:=zX
 have Rf:=w9.binds (ps:=["bag","p","word","wide"]) (by walk_at "bn")
 obtain⟨UM,_,BD⟩:=xX
 have P6:=BD.binds (ps:=["bag","p","word","many","wide"]) (by walk_at "bn")
 obtain⟨VE,_,zI⟩:=B9
 have UT:=zI.binds (ps:=["bag","p","places","many","wide"]) (by walk_at "bn")
 obtain⟨MM,_,yQ⟩:=xr
 have O2:=yQ.binds (ps:=["bag","p","places","many","wide"]) (by walk_at "bn")
 obtain⟨pC,_,jn⟩:=Ax
 have oZ:=jn.binds (ps:=["found","due"]) (by walk_at "bn")
 obtain⟨Vw,_,yN⟩:=zW
 have Sz:=yN.binds (ps:=["net"]) (by walk_at "bn")
 obtain⟨N3,_,wU⟩:=BO
 have NO:=wU.binds (ps:=["bag","one","other"]) (by walk_at "bn")
 obtain⟨NW,_,Cg⟩:=yZ
 have JR:=Cg.binds (ps:=["n","one","other"]) (by walk_at "bn")
 obtain⟨OW,_,Ck⟩:=xw
 have Pk:=Ck.binds (ps:=["n","most","one","other"]) (by walk_at "bn")
 obtain⟨a32,_,B3⟩:=yf
 have Mz:=B3.binds (ps:=["net","word"]) (by walk_at "bn")
 obtain⟨U4,_,xO⟩:=AK
 have NI:=xO.binds (ps:=["n","left","more","one","other"]) (by walk_at "bn")
 obtain⟨KI,_,zd⟩:=xj
 have Ru:=zd.binds (ps:=["net","word","part","some","n"]) (by walk_at "bn")
 have TV:=Hj (st:=kT) yk Bo Ac
 have zg:=gD X G zu
 have nH:=gD X G xZ
 have mG:=gD X G yi
 have Br:=gD X G AI
 have kM:=gD X G zx
 have jV:=gD X G Af
 have gM:=gD X G yd
 have bf:=gD X G Az
 have bS:=gD X G Bh
 have wH:=gD X G zO
 have zV:=gD X G BI
 have bD:=gD X G yG
 have oz:=gD X G An
 have jj:=gD X G Bp
 have lU:=gD X G ye
 have AJ:=gD X G yH
 have lP:=gD X G wm
 refine⟨PySem.W.fnOf "law" "law" (mV kT) (mq kT) (aN kT) .none Ih IP Ei Im yv Fx,fun s v=> .of_eq rfl,fun base _ _=>?_⟩
 have L1:=Callee.mk' F0 (Qm (P:=l.prog) (w:=w) (base:=base) F0) b0 (bX X G a0)
 have OL:=Callee.mk' F1 (Vr (P:=l.prog) (w:=w) (base:=base) F1) b1 (bX X G a1)
 have Jz:=Callee.mk' F3 (OD (P:=l.prog) (w:=w) (base:=base) F3 OL) b3 (bX X G a3)
 have vG:=Callee.mk' F2 (Sb (P:=l.prog) (w:=w) (base:=base) F2 Jz) b2 (bX X G a2)
 have G0:=Callee.mk' F4 (O5 (P:=l.prog) (w:=w) (base:=base) F4 L1 Br kM) b4 (bX X G a4)
 have zG:=Callee.mk' F5 (Kz (P:=l.prog) (w:=w) (base:=base) F5 G0 bS bD) b5 (bX X G a5)
 have Bs:=Callee.mk' F6 (Oa (P:=l.prog) (w:=w) (base:=base) F6) b6 (bX X G a6)
 have QB:=Callee.mk' F7 (LJ (P:=l.prog) (w:=w) (base:=base) F7 Bs G0 vG jj) b7 (bX X G a7)
 have HG:=Callee.mk' F8 (JD (P:=l.prog) (w:=w) (base:=base) F8 Bs kM bf) b8 (bX X G a8)
 have Jd:=Callee.mk' Cm (OP (P:=l.prog) (w:=w) (base:=base) Cm bS) KZ (bX X G Lh)
 have JK:=Callee.mk' F9 (MB (P:=l.prog) (w:=w) (base:=base) F9 HG zG vG Jd) b9 (bX X G a9)
 have D4:=Callee.mk' Au (UQ (P:=l.prog) (w:=w) (base:=base) Au bf) SN (bX X G Uc)
 have JV:=Callee.mk' yV (Pr (P:=l.prog) (w:=w) (base:=base) yV zG vG HG Jd D4 bS bf) T9 (bX X G Mx)
 have Qv:=Callee.mk' BK (NG (P:=l.prog) (w:=w) (base:=base) BK vG D4 Bs kM jj) UD (bX X G MA)
 have L8:=Callee.mk' Ay (Ud (P:=l.prog) (w:=w) (base:=base) Ay zG Qv bS) KL (bX X G SI)
 have PU:=Callee.mk' Bc (MW (P:=l.prog) (w:=w) (base:=base) Bc zg) Pz (bX X G Qg)
 have KY:=Callee.mk' z5 (Pa (P:=l.prog) (w:=w) (base:=base) z5 bD) Kl (bX X G Lj)
 have mP:=Callee.mk' BC (UO (P:=l.prog) (w:=w) (base:=base) BC KY bf) R8 (bX X G S3)
 have OV:=Callee.mk' BQ (Kc (P:=l.prog) (w:=w) (base:=base) BQ bD) LH (bX X G Mn)
 have RH:=Callee.mk' Bt (QM (P:=l.prog) (w:=w) (base:=base) Bt mP OV) QY (bX X G Ra)
 have T5:=Callee.mk' yE (Ku (P:=l.prog) (w:=w) (base:=base) yE mP bD jV zV) Oe (bX X G Mj)
 have Mi:=Callee.mk' wQ (MI (P:=l.prog) (w:=w) (base:=base) wQ) Pn (bX X G Sa)
 have GQ:=Callee.mk' xK (Kv (P:=l.prog) (w:=w) (base:=base) xK AJ) LL (bX X G VB)
 have Sk:=Callee.mk' w9 (UE (P:=l.prog) (w:=w) (base:=base) w9 GQ mP Mi bf jj oz bD) Rf (bX X G K0)
 have Tp:=Callee.mk' BD (RJ (P:=l.prog) (w:=w) (base:=base) BD Sk bf bD) P6 (bX X G UM)
 have O4:=Callee.mk' zI (Vh (P:=l.prog) (w:=w) (base:=base) zI mP bD jj oz) UT (bX X G VE)
 have Mh:=Callee.mk' yQ (OS (P:=l.prog) (w:=w) (base:=base) yQ mP O4 T5 Tp bD) O2 (bX X G MM)
 have O1:=Callee.void (P:=l.prog) (w:=w) (base:=base) (k:=0) (sp:=aS 2 (nA 0)) jn oZ (bX X G pC) OC
 have N5:=Callee.mk' jn (qj (P:=l.prog) (w:=w) (base:=base) 0 jn O1 gM bS lP nH bf mG jV lU bD) oZ (bX X G pC)
 have OB:=Callee.mk' jn (qj (P:=l.prog) (w:=w) (base:=base) 1 jn N5 gM bS lP nH bf mG jV lU bD) oZ (bX X G pC)
 have OH:=Callee.mk' jn (qj (P:=l.prog) (w:=w) (base:=base) 2 jn OB gM bS lP nH bf mG jV lU bD) oZ (bX X G pC)
 have Qk:=Callee.mk' jn (qj (P:=l.prog) (w:=w) (base:=base) 3 jn OH gM bS lP nH bf mG jV lU bD) oZ (bX X G pC)
 have Le:=Callee.mk' jn (qj (P:=l.prog) (w:=w) (base:=base) 4 jn Qk gM bS lP nH bf mG jV lU bD) oZ (bX X G pC)
 have DY:=Le
 have Gh:=Callee.mk' yN (MX (P:=l.prog) (w:=w) (base:=base) yN bS) Sz (bX X G Vw)
 have PN:=Callee.mk' wU (Lu (P:=l.prog) (w:=w) (base:=base) wU mP bD bf bS) NO (bX X G N3)
 have ER:=Callee.mk' Cg (L3 (P:=l.prog) (w:=w) (base:=base) Cg bS) JR (bX X G NW)
 have LK:=Callee.mk' Ck (Uq (P:=l.prog) (w:=w) (base:=base) Ck ER bD wH bf) Pk (bX X G OW)
 have SJ:=Callee.mk' B3 (Mg (P:=l.prog) (w:=w) (base:=base) B3 GQ bf) Mz (bX X G a32)
 have OI:=Callee.mk' xO (TJ (P:=l.prog) (w:=w) (base:=base) xO bD bf) NI (bX X G U4)
 have OA:=Callee.mk' zd (Tt (P:=l.prog) (w:=w) (base:=base) zd DY QB Gh bD bS) Ru (bX X G KI)
 exact Lp TV PU mP RH Mh PN JK LK L8 OI Gh OA DY JV SJ ER bS
theorem walk{l:PySem.W.OpenLaw}{q:Program}{loose:List Str}{XP:(Str->Option Value)->Heap->Prop}{YP:World->Heap->Prop}{d:DefRec}{K:Params->PySem.W.Frag}(hn:l.most=some 63)(hdf:d.params.defaults=[])
  (hY:∀(w:World) (h:Heap),YP w h->(K w.params).In h)
  (F : ∀ (w : World) (mg : Str -> Option Value) (fa : Addr) (h : Heap), (K w.params).In h -> h.Ns mainGlobals mg -> mg d.name = some (.ref fa) ->
   ∃fd:FuncData,(∀(s:Shared) (u:Value),BindsTo s fd ⟨[u],[]⟩ [("script",u)])/\∀base:Heap,(K w.params).In base->base.Ns mainGlobals mg->bG l.prog w (K w.params) mg base bN 7 fa fd ["script"] (uc (K w.params))):
  PySem.W.WalkO q loose XP YP l.row.toRowW d [] (fun f vs=>PySem.call f vs):=
 L2.La (n:=63) (k:=7) (x:="script") (CX:=fun _=>bN) (sp:=fun w=>uc (K w.params)) hn (by decide) hdf ⟨rfl,by decide,by decide⟩ hY F (fun _ _ a ns hl _ hS=>⟨a,ns,rfl,hS,hl,fun _=>rfl⟩) fun _ _ _ _ _ z=>z
def view:Program:={PySem.Challenge.pw_fewchecks_k58_whole_nets_side_by_side with main:={PySem.Challenge.pw_fewchecks_k58_whole_nets_side_by_side.main with body:=[top 1,top 2,top 4,top 5,top 7,top 8,top 9,top 10,top 11,top 12,top 13,top 14,top 15,top 16,top 17,top 19,top 20,top 21,top 22,top 23,top 24,top 25,top 26,top 27,top 28,top 29,top 30,top 31,top 32,top 33,top 34,top 35,top 36,top 37,top 38,top 39]}}
end K58
open PySem PySem.W PyProof.Rows
local macro_rules| `(tactic|o_head $H:term)=> `(tactic|
 (refine holds_open (q:=K58.view) (loose:=[])
    (Xt:=fun s=>xlAt K58.view [] s && recOk [] s) (XP:=XL K58.view []) (Yf:=Hook.obs $H)
    (Ya:=Hook.val $H) (YP:=Hook.says $H) (N:=100000) ?hl (Hook.of $H)
    (Hook.keeps $H) (fun s e=>xl_of s (Ec.mp e).1) XL.keeps
    rfl rfl rfl (fun s e=>recFacts_of (Ec.mp e).2) rfl
    (by assumption) (by decide+kernel) ⟨rfl,rfl,rfl,rfl,rfl,by decide+kernel⟩ ?hw ?hc;(case hl=>exact fun w=>by kernel_rfl)))
set_option maxRecDepth 100000 in
set_option maxHeartbeats 0 in
theorem PySem.Challenge.cw_fewchecks_k58_whole_nets_side_by_side_holds : PySem.Challenge.rw_fewchecks_k58_whole_nets_side_by_side.Holds := by
 w_on
 refine holds_law (by decide+kernel) fun said=>?_
 k_head
 (case hw=>w_witness2)
 k_fill
 refine K58.walk (l:=PySem.Challenge.rw_fewchecks_k58_whole_nets_side_by_side) rfl rfl (fun w h Y=>PySem.W.kIn_of Y) ?F
 case F=>
  intro w mg fa h KX G hmg
  refine' K58.all_mk KX G hmg ?d0 ?d1 ?d2 ?d3 ?d4 ?d5 ?d6 ?d7 ?d8 ?d9 ?Bj ?BY ?Ba ?AS ?Al ?Am ?xQ ?yI ?z9 ?wj ?yo ?vQ ?vR ?zX ?xX ?B9 ?xr ?Ax ?zW ?BO ?yZ ?xw ?yf ?AK ?xj ?Cp ?yk ?Bo ?Ac ?zu ?xZ ?yi ?AI ?zx ?Af ?yd ?Az ?Bh ?zO ?BI ?yG ?An ?Bp ?ye ?yH ?wm
  (case d0=>refine' L2.aJ.mk ?a ?l ?c ?k;(case a=>k_is);(case l=>k_is);(case c=>k_is);(case k=>k_is))
  (case d1=>refine' L2.aJ.mk ?a ?l ?c ?k;(case a=>k_is);(case l=>k_is);(case c=>k_is);(case k=>k_is))
  (case d2=>refine' L2.aJ.mk ?a ?l ?c ?k;(case a=>k_is);(case l=>k_is);(case c=>k_is);(case k=>k_is))
  (case d3=>refine' L2.aJ.mk ?a ?l ?c ?k;(case a=>k_is);(case l=>k_is);(case c=>k_is);(case k=>k_is))
  (case d4=>refine' L2.aJ.mk ?a ?l ?c ?k;(case a=>k_is);(case l=>k_is);(case c=>k_is);(case k=>k_is))
  (case d5=>refine' L2.aJ.mk ?a ?l ?c ?k;(case a=>k_is);(case l=>k_is);(case c=>k_is);(case k=>k_is))
  (case d6=>refine' L2.aJ.mk ?a ?l ?c ?k;(case a=>k_is);(case l=>k_is);(case c=>k_is);(case k=>k_is))
  (case d7=>refine' L2.aJ.mk ?a ?l ?c ?k;(case a=>k_is);(case l=>k_is);(case c=>k_is);(case k=>k_is))
  (case d8=>refine' L2.aJ.mk ?a ?l ?c ?k;(case a=>k_is);(case l=>k_is);(case c=>k_is);(case k=>k_is))
  (case d9=>refine' L2.aJ.mk ?a ?l ?c ?k;(case a=>k_is);(case l=>k_is);(case c=>k_is);(case k=>k_is))
  (case Bj=>refine' L2.aJ.mk ?a ?l ?c ?k;(case a=>k_is);(case l=>k_is);(case c=>k_is);(case k=>k_is))
  (case BY=>refine' L2.aJ.mk ?a ?l ?c ?k;(case a=>k_is);(case l=>k_is);(case c=>k_is);(case k=>k_is))
  (case Ba=>refine' L2.aJ.mk ?a ?l ?c ?k;(case a=>k_is);(case l=>k_is);(case c=>k_is);(case k=>k_is))
  (case AS=>refine' L2.aJ.mk ?a ?l ?c ?k;(case a=>k_is);(case l=>k_is);(case c=>k_is);(case k=>k_is))
  (case Al=>refine' L2.aJ.mk ?a ?l ?c ?k;(case a=>k_is);(case l=>k_is);(case c=>k_is);(case k=>k_is))
  (case Am=>refine' L2.aJ.mk ?a ?l ?c ?k;(case a=>k_is);(case l=>k_is);(case c=>k_is);(case k=>k_is))
  (case xQ=>refine' L2.aJ.mk ?a ?l ?c ?k;(case a=>k_is);(case l=>k_is);(case c=>k_is);(case k=>k_is))
  (case yI=>refine' L2.aJ.mk ?a ?l ?c ?k;(case a=>k_is);(case l=>k_is);(case c=>k_is);(case k=>k_is))
  (case z9=>refine' L2.aJ.mk ?a ?l ?c ?k;(case a=>k_is);(case l=>k_is);(case c=>k_is);(case k=>k_is))
  (case wj=>refine' L2.aJ.mk ?a ?l ?c ?k;(case a=>k_is);(case l=>k_is);(case c=>k_is);(case k=>k_is))
  (case yo=>refine' L2.aJ.mk ?a ?l ?c ?k;(case a=>k_is);(case l=>k_is);(case c=>k_is);(case k=>k_is))
  (case vQ=>refine' L2.aJ.mk ?a ?l ?c ?k;(case a=>k_is);(case l=>k_is);(case c=>k_is);(case k=>k_is))
  (case vR=>refine' L2.aJ.mk ?a ?l ?c ?k;(case a=>k_is);(case l=>k_is);(case c=>k_is);(case k=>k_is))
  (case zX=>refine' L2.aJ.mk ?a ?l ?c ?k;(case a=>k_is);(case l=>k_is);(case c=>k_is);(case k=>k_is))
  (case xX=>refine' L2.aJ.mk ?a ?l ?c ?k;(case a=>k_is);(case l=>k_is);(case c=>k_is);(case k=>k_is))
  (case B9=>refine' L2.aJ.mk ?a ?l ?c ?k;(case a=>k_is);(case l=>k_is);(case c=>k_is);(case k=>k_is))
  (case xr=>refine' L2.aJ.mk ?a ?l ?c ?k;(case a=>k_is);(case l=>k_is);(case c=>k_is);(case k=>k_is))
  (case Ax=>refine' L2.aJ.mk ?a ?l ?c ?k;(case a=>k_is);(case l=>k_is);(case c=>k_is);(case k=>k_is))
  (case zW=>refine' L2.aJ.mk ?a ?l ?c ?k;(case a=>k_is);(case l=>k_is);(case c=>k_is);(case k=>k_is))
  (case BO=>refine' L2.aJ.mk ?a ?l ?c ?k;(case a=>k_is);(case l=>k_is);(case c=>k_is);(case k=>k_is))
  (case yZ=>refine' L2.aJ.mk ?a ?l ?c ?k;(case a=>k_is);(case l=>k_is);(case c=>k_is);(case k=>k_is))
  (case xw=>refine' L2.aJ.mk ?a ?l ?c ?k;(case a=>k_is);(case l=>k_is);(case c=>k_is);(case k=>k_is))
  (case yf=>refine' L2.aJ.mk ?a ?l ?c ?k;(case a=>k_is);(case l=>k_is);(case c=>k_is);(case k=>k_is))
  (case AK=>refine' L2.aJ.mk ?a ?l ?c ?k;(case a=>k_is);(case l=>k_is);(case c=>k_is);(case k=>k_is))
  (case xj=>refine' L2.aJ.mk ?a ?l ?c ?k;(case a=>k_is);(case l=>k_is);(case c=>k_is);(case k=>k_is))
  (case Cp=>k_is)
  (case yk=>k_is)
  (case Bo=>k_is)
  (case Ac=>k_is)
  (case zu=>k_is)
  (case xZ=>k_is)
  (case yi=>k_is)
  (case AI=>k_is)
  (case zx=>k_is)
  (case Af=>k_is)
  (case yd=>k_is)
  (case Az=>k_is)
  (case Bh=>k_is)
  (case zO=>k_is)
  (case BI=>k_is)
  (case yG=>k_is)
  (case An=>k_is)
  (case Bp=>k_is)
  (case ye=>k_is)
  (case yH=>k_is)
  (case wm=>k_is)
