import PyProof.Rows.All
import Wide.All
import OpenK.AllK
import Wide.FinOn
import Lean
import PyProof.EqAt
import PyProof.EqKinds
import PyProof.TupleCall
import PySem.Challenge.RW_fewchecks_k84_deeds_that_do_not_fit
set_option compiler.extract_closed false
theorem PySem.W.Fast.tw6050682046020678994 : True := trivial
theorem PySem.W.Fast.tw1863863418238983924 : True := trivial
theorem PySem.W.Fast.tw14059693968833697901 : True := trivial
theorem PySem.W.Fast.tw61143141535724559 : True := trivial
theorem PySem.W.Fast.tw11888588304307463657 : True := trivial
theorem PySem.W.Fast.tw8860462545416256309 : True := trivial
theorem PySem.W.Fast.tw7138868816805281026 : True := trivial
theorem PySem.W.Fast.tw16990329996251633955 : True := trivial
theorem PySem.W.Fast.tw6835212047550337519 : True := trivial
theorem PySem.W.Fast.tw7646255881954203930 : True := trivial
theorem PySem.W.Fast.tw10616165252727976876 : True := trivial
theorem PySem.W.Fast.tw12047305912618292975 : True := trivial
theorem PySem.W.Fast.tw11084429332206932366 : True := trivial
theorem PySem.W.Fast.tw16373608643728370464 : True := trivial
theorem PySem.W.Fast.tw4616902560250555728 : True := trivial
theorem PySem.W.Fast.tw2163960005187280316 : True := trivial
theorem PySem.W.Fast.tw7807311934041772203 : True := trivial
theorem PySem.W.Fast.tw14806683997447507089 : True := trivial
theorem PySem.W.Fast.tw2870326665622743604 : True := trivial
theorem PySem.W.Fast.tw7331279778116980950 : True := trivial
theorem PySem.W.Fast.tw2266265492665561462 : True := trivial
set_option Elab.async false
set_option linter.all false
set_option maxRecDepth 100000
def ao:= @List.length_map
def aK:= @List.mem_singleton
def aL:= @List.mem_cons
def aU:= @Nat.le_refl
def bI:= @List.getElem?_map
def bL:= @List.map_cons
def bO:= @List.getElem?_set_ne
def bP:= @List.getElem?_eq_getElem
def bT:= @List.getElem?_eq_some_iff
def bV:= @Bool.false_ne_true
def bX:= @List.mem_cons_of_mem
def cz:= @PySem.Heap.lt_size
def cA:= @List.mem_cons_self
def cG:= @Nat.le_trans
def cM:= @PySem.Heap.get?_push_of_some
def cX:= @Ne.symm
def cU:= @List.getElem?_set_self
def c7:= @PySem.W.mg_of
def dg:= @List.mem_of_getElem?
def c9:= @List.mem_map
def dh:= @List.not_mem_nil
def dW:= @List.length_append
def dZ:= @List.size_toArray
def eG:= @Nat.ne_of_lt
def eY:= @List.getElem?_replicate
def eO:= @Option.some_ne_none
def fB:= @Nat.lt_of_lt_of_le
def fG:= @List.length_cons
def fK:= @List.lookup_cons
def fF:= @List.map_append
def fN:= @List.getElem?_eq_none
def fU:= @Bool.and_eq_true
def gf:= @Option.some.inj
def gh:= @PySem.Heap.get?_push_size
def gH:= @List.append_nil
def gR:= @List.nodup_cons
def gM:= @List.getElem?_append_left
def ir:= @List.mem_append
def g8:= @Nat.zero_le
def iu:= @List.getElem?_append_right
def ig:= @List.length_range
def iy:= @Nat.le_of_ble_eq_true
def iA:= @PySem.PassesOwn.never
def iT:= @Int.emod_nonneg
def iQ:= @Int.emod_lt_of_pos
def ja:= @List.ext_getElem?
def jh:= @List.mem_filter
def jg:= @List.length_set
def jl:= @PySem.boot_len
def jo:= @Option.map_eq_some_iff
def jI:= @List.filterMap_cons
def jH:= @List.mem_append_right
def jJ:= @Classical.byContradiction
def jF:= @List.take_length
def jL:= @PySem.W.mg_none_of
def j5:= @Nat.le_of_lt
def jW:= @Array.length_toList
def j3:= @List.getElem?_cons_succ
def ki:= @Int.mul_assoc
def j4:= @List.getElem?_range
def kJ:= @PySem.W.kia_one
def kT:= @List.length_singleton
def kI:= @List.cons_append
def kZ:= @List.any_cons
def k7:= @List.map_map
def lB:= @PyProof.Rows.boot_list
def lR:= @PySem.Heap.size_push
def lM:= @PySem.Heap.get?_update_other
def lV:= @List.set_set
def l6:= @Array.getElem?_eq_getElem
def mj:= @List.getElem_mem
def lT:= @List.nodup_append
def lU:= @List.getD_eq_getElem?_getD
def lP:= @PyProof.Rows.boot_isinstance
def mT:= @Nat.lt_irrefl
def m7:= @Bool.eq_iff_iff
def mH:= @List.length_take
def mU:= @List.replicate_succ
def mD:= @Array.getElem?_toList
def mG:= @Int.mul_sub
def mC:= @Nat.mul_mod
def nq:= @List.find?_cons
def mS:= @List.filter_cons
def oj:= @Nat.le_succ
def nO:= @Bool.or_false
def nA:= @List.all_cons
def oq:= @Nat.lt_of_le_of_lt
def ow:= @Int.mul_ediv_add_emod
def oK:= @Int.mul_comm
def oN:= @PySem.F.called_set
def oF:= @List.filter_cons_of_pos
def om:= @List.filter_cons_of_neg
def nM:= @List.length_filter_le
def p8:= @List.mem_filterMap
def o5:= @Nat.lt_succ_self
def pS:= @Option.isSome_iff_exists
def qm:= @PySem.mem_of_lookup
def pN:= @List.all_eq_true
def oS:= @PySem.Around.under_plainId
def qp:= @Nat.lt_succ_of_lt
def o6:= @List.length_eq_zero_iff
def pO:= @List.any_eq_true
def pF:= @PySem.W.kia_tup
def qq:= @List.filter_append
def oV:= @List.flatMap_cons
def qd:= @List.getElem?_of_mem
def pH:= @List.findSome?_cons
def rY:= @PySem.Value.isInt_shape
def qC:= @List.mem_range
def rN:= @Nat.ne_of_gt
def rj:= @List.length_replicate
def rm:= @List.flatten_cons
def rP:= @Nat.mul_comm
def se:= @Bool.false_or
def qX:= @Int.zero_mul
def sj:= @List.take_of_length_le
def qT:= @PySem.F.plainAttrs_list
def tw:= @Nat.le_of_eq
def vE:= @List.map_nil
def uW:= @List.take_zero
def sV:= @Option.map_some
def um:= @Nat.lt_trans
def vd:= @Array.getElem?_eq_some_iff
def uF:= @List.map_congr_left
def tL:= @Int.sub_zero
def sW:= @Nat.mul_assoc
def uY:= @List.pairwise_cons
def vm:= @List.foldl_append
def tW:= @PySem.F.slot_list_append
def uw:= @PySem.F.type_list_append
def Bp:= @List.mem_append_left
def BD:= @Int.mul_one
def Ae:= @PySem.W.kitx_dict
def zV:= @PySem.Heap.get?_update_self
def yb:= @List.foldl_cons
def xX:= @PySem.SeqAt.canLay_of_shaped
def yI:= @List.filterMap_cons_some
def yq:= @Int.ediv_nonneg
def xh:= @Int.sub_mul
def yR:= @Int.mul_add
def Ak:= @Array.size_extract
def Bt:= @Nat.mod_lt
def AG:= @PySem.F.plain_list_iadd
def Ax:= @Nat.pow_add
def vW:= @Int.natAbs_dvd_natAbs
def z0:= @Bool.true_or
def Bh:= @Option.isSome_map
def Aa:= @List.mem_flatMap
def wZ:= @Int.toNat_natCast
def yC:= @Int.lt_irrefl
def zI:= @List.filterMap_append
def xx:= @List.length_filterMap_le
def AO:= @PyProof.Rows.boot_sorted
def Ac:= @Bool.not_eq_true
def GX:= @Sum.inl.inj
def CJ:= @PyProof.Rows.callWith_type1
def E4:= @PySem.W.plainGet_of
def FU:= @PySem.W.methodCall_KW
def Ey:= @PySem.W.kitx_list
def Dg:= @PySem.W.callWith_K
def Fg:= @List.of_mem_zip
def Dy:= @Nat.le_of_not_lt
def Fv:= @List.take_add_one
def Gu:= @Int.le_refl
def Hr:= @Int.mul_le_mul_of_nonneg_left
def GZ:= @Int.natAbs_mul
def GR:= @Nat.succ.inj
def EN:= @Array.getD_eq_getD_getElem?
def CY:= @Array.getElem?_eq_none
def C0:= @Nat.lt_or_eq_of_le
def Fw:= @List.pairwise_iff_getElem
def Fp:= @PyProof.Rows.F.plain_set_update_loop
def G4:= @List.range_succ_eq_map
def GN:= @Nat.lt_of_lt_of_eq
def Ex:= @PySem.Calls.call_function_entry
def C6:= @List.Nodup.length_le_of_subset
def Hx:= @List.reverse_cons
def B9:= @Nat.mul_one
def GS:= @Nat.zero_mul
def Er:= @Nat.div_add_mod
def DV:= @Nat.mod_mod
def Ck:= @Nat.mod_mod_of_dvd
def DU:= @Nat.one_mul
def B3:= @Nat.le_of_dvd
def Dj:= @Int.le_of_dvd
def Cf:= @PySem.F.slot_dict_pop
def Gn:= @List.flatMap_append
def GP:= @Int.emod_eq_of_lt
def Cj:= @Int.ne_of_lt
def EK:= @List.pairwise_append
def Cw:= @List.filter_eq_self
def GI:= @Option.map_map
def EG:= @List.pairwise_map
def Hf:= @List.foldl_nil
def Dr:= @List.getElem?_take
def CO:= @List.findSome?_append
def Gq:= @Int.ediv_le_self
def Ft:= @List.map_set
def Gp:= @List.map_replicate
def Ge:= @Bool.eq_false_iff
def FZ:= @Int.mul_le_mul
def Gb:= @PyProof.Rows.boot_int
def CS:= @PyProof.Rows.boot_min
def G8:= @Bool.bne_false
def Ll:= @PySem.Calls.Name_function_global
def M0:= @PySem.W.cellsFrom_some
def P6:= @Array.getElem?_push
def O8:= @Array.getElem?_extract_of_lt
def LO:= @List.pairwise_lt_range
def PD:= @List.getElem?_toArray
def Qv:= @List.length_eraseIdx_of_lt
def HJ:= @PySem.F.entry_proto_collect
def O6:= @PySem.F.plain_proto_collect
def MI:= @PySem.F.entry_list_iadd
def Il:= @PySem.F.plain_extend_loop
def HF:= @Int.emod_eq_zero_of_dvd
def PV:= @Nat.dvd_of_mod_eq_zero
def JT:= @Int.eq_ofNat_of_zero_le
def J0:= @Int.gcd_eq_zero_iff
def IB:= @Classical.choose_spec
def MX:= @PySem.F.slot_dict_delitem
def I0:= @Option.isNone_iff_eq_none
def Kv:= @List.filterMap_cons_none
def OB:= @List.filter_sublist
def JV:= @PySem.F.slot_dict_ne
def JR:= @List.Pairwise.sublist
def N8:= @PyProof.Rows.boot_tuple
def JS:= @PyProof.Rows.boot_bool
def Kq:= @PyProof.Rows.boot_str
def OE:= @List.replicate_succ'
def OH:= @PySem.F.plainAttrs_dict
def Lb:= @PySem.F.type_dict_pop
namespace L2
open PySem PySem.Spec PyProof.Rows
abbrev Key:=Sum Int Str
def qv:Key->Value->Bool
 | .inl k,v=>Value.isInt k v
 | .inr x,v=>Value.isStrOf x v
def Yl(w:World):Key->Int
 | .inl k=>hashInt k
 | .inr x=>hashStr w x
theorem mQ:∀{k:Key} {v:Value},qv k v=true->(∃i t,k=Sum.inl i/\v=Value.int i t)\/(∃x t,k=Sum.inr x/\v=Value.str x t)
  | .inl i, v, h => by
    obtain⟨t,e⟩:=rY (k:=i) (v:=v) h
    exact .inl ⟨i,t,rfl,e⟩
  | .inr x, v, h => by
    obtain⟨t,e⟩:=Value.isStrOf_shape (x:=x) (v:=v) h
    exact .inr ⟨x,t,rfl,e⟩
theorem ZQ(i:Int)(t:Tok):qv (.inl i) (.int i t)=true:=by simp[qv,Value.isInt]
theorem ZT(x:Str)(t:Tok):qv (.inr x) (.str x t)=true:=by simp[qv,Value.isStrOf]
theorem ab1(a b:Int):decide ((Sum.inl a:Key)=Sum.inl b)=(a==b):=by
 by_cases e:a=b
 ·subst e;simp
 ·have h:¬(Sum.inl a:Key)=Sum.inl b:=fun q=>e (GX q)
  rw[decide_eq_false h]
  exact(beq_eq_false_iff_ne.mpr e).symm
theorem UE(a b:Str):decide ((Sum.inr a:Key)=Sum.inr b)=decide (a=b):=by
 by_cases e:a=b
 ·subst e;simp
 ·have h:¬(Sum.inr a:Key)=Sum.inr b:=fun q=>e (Sum.inr.inj q)
  rw[decide_eq_false h,decide_eq_false e]
theorem XH(a:Int)(b:Str):decide ((Sum.inl a:Key)=Sum.inr b)=false:=decide_eq_false (fun q=>nomatch q)
theorem YZ(a:Str)(b:Int):decide ((Sum.inr a:Key)=Sum.inl b)=false:=decide_eq_false (fun q=>nomatch q)
def gk(prog:Program)(w:World):PySem.KeyKind prog w Key where
 is:=qv
 hash:=Yl w
 inj:=fun v a b ha hb=>by
  rcases mQ ha with ⟨i,t,rfl,rfl⟩|⟨x,t,rfl,rfl⟩
  ·rcases mQ hb with ⟨j,u,rfl,e⟩|⟨y,u,rfl,e⟩
   ·injection e with e1 _;rw[e1]
   ·exact nomatch e
  ·rcases mQ hb with ⟨j,u,rfl,e⟩|⟨y,u,rfl,e⟩
   ·exact nomatch e
   ·injection e with e1 _;rw[e1]
 byValue:=fun k v h=>by
  rcases mQ h with ⟨i,t,rfl,rfl⟩|⟨x,t,rfl,rfl⟩<;>rfl
 pyHash:=fun hv h=>by
  rcases mQ hv with ⟨i,t,rfl,rfl⟩|⟨x,t,rfl,rfl⟩
  ·exact wpAny_pyHash_int h
  ·exact wpAny_pyHash_str h
 eqBool:=fun hu hv h=>by
  rcases mQ hu with ⟨i,t,rfl,rfl⟩|⟨x,t,rfl,rfl⟩
  ·rcases mQ hv with ⟨j,u,rfl,rfl⟩|⟨y,u,rfl,rfl⟩
   ·rw[ab1] at h;exact wpAny_eqBool_int h
   ·rw[XH] at h;exact SeqAt.EqAt.int_str i t y u _ _ _ _ h
  ·rcases mQ hv with ⟨j,u,rfl,rfl⟩|⟨y,u,rfl,rfl⟩
   ·rw[YZ] at h;exact SeqAt.EqAt.str_int x t j u _ _ _ _ h
   ·rw[UE] at h;exact wpAny_eqBool_str h
 «strs» :=fun k x t v h=>by
  rcases mQ h with ⟨i,u,rfl,e⟩|⟨y,u,rfl,e⟩
  ·exact nomatch e
  ·injection e with e1 _
   subst e1
   cases v<;>rfl
theorem ZC(prog:Program)(w:World)(i:Int)(t:Tok):(gk prog w).is (.inl i) (.int i t)=true:=ZQ i t
theorem aaU(prog:Program)(w:World)(x:Str)(t:Tok):(gk prog w).is (.inr x) (.str x t)=true:=ZT x t
inductive V where
 |aI|bl (b:Bool)|int (i:Int)|str (x:Str)|jP (b:Array UInt8)|lF (b:UInt64)|ref (a:Addr)|ty (n:String)
 deriving DecidableEq
def RelV:V->Value->Prop
 | .aI,u=>u=Value.none
 | .bl b,u=>u=Value.bool b
 | .int i,u=>∃t,u=Value.int i t
 | .str x,u=>∃t,u=Value.str x t
 | .jP b,u=>∃t,u=Value.bytes b t
 | .lF b,u=>∃t,u=Value.float b t
 | .ref a,u=>u=Value.ref a
 | .ty n,u=>u=Value.type n
abbrev Vals:List V->List Value->Prop:=Paired RelV
theorem Vals.length{xs:List V}{us:List Value}(r:Vals xs us):xs.length=us.length:=Paired.length r
theorem Vals.get:∀{xs:List V} {us:List Value} {i:Nat} {x:V},Vals xs us->xs[i]?=some x->∃u,us[i]?=some u/\RelV x u
  |_,_,_,_, .nil,e=>by simp at e
  |_,_,0,_, .cons r _,e=>by simp at e;subst e;exact⟨_,rfl,r⟩
  | _, _, i + 1, x, .cons _ t, e => by
    obtain⟨u,h1,h2⟩:=Vals.get (i:=i) (x:=x) t (by simpa using e)
    exact⟨u,by simpa using h1,h2⟩
theorem Vals.set{x:V}{u:Value}(r:RelV x u):∀{xs:List V} {us:List Value} (i:Nat),Vals xs us->Vals (xs.set i x) (us.set i u)
 |_,_,_, .nil=> .nil
 |_,_,0, .cons _ t=> .cons r t
 |_,_,i+1, .cons q t=> .cons q (Vals.set r i t)
theorem Vals.append:∀{xs ys:List V} {us ws:List Value},Vals xs us->Vals ys ws->Vals (xs++ys) (us++ws)
 |_,_,_,_, .nil,s=>s
 |_,_,_,_, .cons r t,s=> .cons r (Vals.append t s)
theorem Vals.take:∀{xs:List V} {us:List Value} (n:Nat),Vals xs us->Vals (xs.take n) (us.take n)
 |_,_,0,_=> .nil
 |_,_,_+1, .nil=> .nil
 |_,_,n+1, .cons r t=> .cons r (Vals.take n t)
theorem Vals.drop:∀{xs:List V} {us:List Value} (n:Nat),Vals xs us->Vals (xs.drop n) (us.drop n)
 |_,_,0,r=>r
 |_,_,_+1, .nil=> .nil
 |_,_,n+1, .cons _ t=>Vals.drop n t
def iY:Option V->Option Value->Prop
 |some v,some u=>RelV v u
 |none,none=>True
 |_,_=>False
def KV{κ:Type}:List (κ×V)->List (κ×Value)->Prop:=Paired fun(p:κ×V) (q:κ×Value)=>p.1=q.1/\RelV p.2 q.2
def kV:Key->V
 | .inl i=> .int i
 | .inr x=> .str x
inductive HO where
  |lst (xs:List V)
  |tup (xs:List V)
  |dK (kvs:List (Key×V))|dT (kvs:List (List Key×V))
  |set (S:Int->Bool) (n:Nat)
  |ins (C dx:Addr) (fs:List (Str×V))
  |own (x:Addr)
  |xd (fs:List (Str×V))
  |met (f x:Addr)
  |nT (lo hi:Int)
  |bQ (o:Obj) (u:HO)
  |pR (ps:Array Value)
  |ext (φ:Heap->Prop)
abbrev Hp:=Addr->Option HO
def upd(H:Hp)(a:Addr)(o:HO):Hp:=fun b=>if b=a then some o else H b
theorem aQ{H:Hp}{a:Addr}{o:HO}:upd H a o a=some o:=by unfold upd;rw[if_pos rfl]
theorem aB{H:Hp}{a b:Addr}{o:HO}(h:b≠a):upd H a o b=H b:=by unfold upd;rw[if_neg h]
theorem E7{H:Hp}{a:Addr}{o u:HO}:upd (upd H a o) a u=upd H a u:=by
 funext b;unfold upd;split<;>rfl
theorem ji{H:Hp}{a b:Addr}{o:HO}(h:H a=some o)(h':H b=none):a≠b:=by
 intro e;subst e;rw[h] at h';cases h'
section
variable(P:Program)(w:World)
def cF(H:Hp)(h:Heap)(a:Addr):HO->Prop
 | .lst xs=>xs.length<=sizeLine/\∃(its:List Value) (n:Nat),Vals xs its/\h.get? a=some {cls:= .type "list",data:= .seq its.toArray n}
 | .tup xs=>xs.length<=sizeLine/\∃its:List Value,Vals xs its/\IsTup h a its.toArray
 | .dK kvs=>kvs.length<=sizeLine/\(a==sysModules)=false/\∃vs,KV kvs vs/\h.DictOf (gk P w) a vs
 | .dT kvs => kvs.length <= sizeLine /\ (a == sysModules) = false /\ ∃ xs : List (List Key × Addr × Value),
   Paired (fun(p:List Key×V) (q:List Key×Addr×Value)=>p.1=q.1/\H q.2.1=some (.tup (p.1.map kV))/\RelV p.2 q.2.2) kvs xs/\
   ∃o es ep,h.get? a=some o/\o.ExactDict/\o.data= .dict es ep/\es.toList=xs.map (entryOfKey (tupleKind (gk P w)))/\(xs.map (·.1)).Nodup
 | .set S n=>h.SetOf (intKind P w) a S n
 | .ins C dx fs => H dx = some (.own a) /\ fs.length <= 1000 /\ dx ≠ a /\ h.get? a = some (PySem.W.instObj C dx) /\
   ∃mA,h.Ns1 dx mA/\(∀f,iY (fs.lookup f) (mA f))/\PySem.Within mA (fs.map (·.1))
 | .own _=>∃o,h.get? a=some o
 | .xd fs=>∃mA,h.Ns1 a mA/\∀f,iY (fs.lookup f) (mA f)
 | .nT lo hi=>∃t u v,h.get? a=some {cls:= .type "range",data:= .fields #[.int lo t, .int hi u, .int 1 v]}
 | .bQ o u=>h.get? a=some o/\cF H h a u
 | .pR ps=>h.get? a=some {cls:= .none,data:= .fields ps}
 | .met f x=>h.get? a=some (PySem.W.methodObj (.ref f) (.ref x))
 | .ext φ=>φ h/\(∃o,h.get? a=some o)/\∀h1 h2:Heap,φ h1->(∀o,h1.get? a=some o->h2.get? a=some o)->φ h2
def dX(H:Hp)(h:Heap):Prop:=∀a o,H a=some o->cF P w H h a o
end
section
variable{P:Program}{w:World}{H H':Hp}{h h':Heap}{a:Addr}{o:HO}
theorem cF.lt(x:cF P w H h a o):a<h.objs.size:=by
 cases o with
 |lst xs=>obtain⟨_,_,_,_,e⟩:=x;exact cz e
 |tup xs=>obtain⟨_,_,_,p⟩:=x;exact p.lt
 |dK kvs=>obtain⟨_,_,_,_,o,_,_,e,_⟩:=x;exact cz e
 |dT kvs=>obtain⟨_,_,_,_,o,_,_,e,_⟩:=x;exact cz e
 |set S n=>obtain⟨o,_,_,_,e,_⟩:=x;exact cz e
 |ins C dx fs=>obtain⟨_,_,_,e,_⟩:=x;exact cz e
 |own y=>obtain⟨_,e⟩:=x;exact cz e
 |xd fs=>obtain⟨_,⟨_,_,_,e,_⟩,_⟩:=x;exact cz e
 |nT lo hi=>obtain⟨_,_,_,e⟩:=x;exact cz e
 |bQ ob u=>obtain⟨e,_⟩:=x;exact cz e
 |pR ps=>exact cz (show h.get? a=some _ from x)
 |met f y=>exact cz (show h.get? a=some _ from x)
 |ext φ=>obtain⟨_,⟨_,e⟩,_⟩:=x;exact cz e
theorem Paired.Nu{α β:Type}{F G:α->β->Prop}:∀{l₁:List α} {l₂:List β},Paired F l₁ l₂->(∀a b,F a b->G a b)->Paired G l₁ l₂
 |_,_, .nil,_=> .nil
 |_,_, .cons r t,f=> .cons (f _ _ r) (Paired.Nu t f)
theorem cF.stay(x:cF P w H h a o)(k:∀b u,(b=a\/H b=some (.own a))->h.get? b=some u->h'.get? b=some u)
    (ho:∀b,H b=some (.own a)->H' b=some (.own a)) (ht:∀b xs,H b=some (.tup xs)->H' b=some (.tup xs)):cF P w H' h' a o:=by
  induction o with
  |lst xs=>obtain⟨z,its,n,r,e⟩:=x;exact⟨z,its,n,r,k _ _ (.inl rfl) e⟩
  |tup xs=>obtain⟨z,its,r,ob,e,c⟩:=x;exact⟨z,its,r,ob,k _ _ (.inl rfl) e,c⟩
  |dK kvs=>obtain⟨z,y,vs,r,ob,es,ep,e,c⟩:=x;exact⟨z,y,vs,r,ob,es,ep,k _ _ (.inl rfl) e,c⟩
  | dT kvs =>
    obtain⟨z,y,xs,r,ob,es,ep,e,c⟩:=x
    exact⟨z,y,xs,Paired.Nu r fun p q z=>⟨z.1,ht _ _ z.2.1,z.2.2⟩,ob,es,ep,k _ _ (.inl rfl) e,c⟩
  |set S n=>obtain⟨ob,es,ep,t,e,c⟩:=x;exact⟨ob,es,ep,t,k _ _ (.inl rfl) e,c⟩
  | ins C dx fs =>
    obtain⟨d,z,ne,e,mA,⟨od,es,ep,e2,c⟩,r⟩:=x
    exact⟨ho _ d,z,ne,k _ _ (.inl rfl) e,mA,⟨od,es,ep,k _ _ (.inr d) e2,c⟩,r⟩
  |own y=>obtain⟨ob,e⟩:=x;exact⟨ob,k _ _ (.inl rfl) e⟩
  |xd fs=>obtain⟨mA,⟨od,es,ep,e,c⟩,r⟩:=x;exact⟨mA,⟨od,es,ep,k _ _ (.inl rfl) e,c⟩,r⟩
  |nT lo hi=>obtain⟨t,u,v,e⟩:=x;exact⟨t,u,v,k _ _ (.inl rfl) e⟩
  |bQ ob u ih=>obtain⟨e,q⟩:=x;exact⟨k _ _ (.inl rfl) e,ih q⟩
  | pR ps =>
    have e:h.get? a=some {cls:= .none,data:= .fields ps}:=x
    show h'.get? a=some {cls:= .none,data:= .fields ps}
    exact k a _ (.inl rfl) e
  | met f y =>
    have e:h.get? a=some (PySem.W.methodObj (.ref f) (.ref y)):=x
    show h'.get? a=some (PySem.W.methodObj (.ref f) (.ref y))
    exact k a _ (.inl rfl) e
  |ext φ=>obtain⟨p,⟨o,e⟩,st⟩:=x;exact⟨st _ _ p fun o q=>k _ _ (.inl rfl) q,⟨o,k _ _ (.inl rfl) e⟩,st⟩
theorem dX.lt(x:dX P w H h)(e:H a=some o):a<h.objs.size:=(x a o e).lt
theorem dX.fresh(x:dX P w H h)(e:h.objs.size<=a):H a=none:=by
 cases q:H a with
 |none=>rfl
 |some u=>exact absurd (fB (x.lt q) e) (mT _)
theorem dX.kept(x:dX P w H h)(k:∀b u,h.get? b=some u->h'.get? b=some u):dX P w H h':=fun a o e=>
 (x a o e).stay (fun b u _ q=>k b u q) (fun _ q=>q) fun _ _ q=>q
theorem dX.laid(x:dX P w H h)(k:∀b u,h.get? b=some u->h'.get? b=some u)(hp:h.objs.size<=a)(new:cF P w (upd H a o) h' a o):dX P w (upd H a o) h':=fun b u e=>by
 have hn:=x.fresh hp
 by_cases hb:b=a
 ·subst hb;rw[aQ] at e;cases e;exact new
 ·rw[aB hb] at e
  exact(x b u e).stay (fun c v _ q=>k c v q) (fun c q=>by rw[aB (ji q hn)];exact q) fun c xs q=>by rw[aB (ji q hn)];exact q
end
def Rd(H:Hp)(a:Addr)(u:HO):Prop:=H a=some u\/∃o,H a=some (.bQ o u)
theorem Rd.ok{P:Program}{w:World}{H:Hp}{h:Heap}{a:Addr}{u:HO}(r:Rd H a u)(x:dX P w H h):cF P w H h a u:=by
 rcases r with r|⟨o,r⟩
 ·exact x a u r
 ·obtain⟨_,q⟩:=x a _ r
  exact q
def uJ:Option HO->Prop
 |some (.lst _)=>True
 |some (.dK _)=>True
 |some (.dT _)=>True
 |some (.set _ _)=>True
 |some (.ins _ _ _)=>True
 |some (.ext _)=>True
 |_=>False
section
variable{P:Program}{w:World}{H:Hp}{h h':Heap}{x e:Addr}{o':HO}
theorem dX.write(ok:dX P w H h)(mu:uJ (H x))(he:e=x\/H e=some (.own x))(k:∀b u,b≠e->h.get? b=some u->h'.get? b=some u)(qK:∃u,h'.get? e=some u)
  (new:cF P w (upd H x o') h' x o'):dX P w (upd H x o') h':=fun b u q=>by
 have Ol:∀c y,H c=some (.own y)->c≠x:=fun c y r z=>by subst z;rw[r] at mu;exact mu
 have Wg:∀c xs,H c=some (.tup xs)->c≠x:=fun c xs r z=>by subst z;rw[r] at mu;exact mu
 by_cases hb:b=x
 ·subst hb;rw[aQ] at q;cases q;exact new
 ·rw[aB hb] at q
  by_cases qb:b=e
  ·have q':H b=some (.own x):=by
    rcases he with z|z
    ·exact absurd (qb.trans z) hb
    ·rw[qb];exact z
   rw[q] at q';cases q'
   obtain⟨v,hv⟩:=qK
   exact⟨v,by rw[qb];exact hv⟩
  ·refine(ok b u q).stay (fun c v hc r=>k c v ?_ r) (fun c r=>by rw[aB (Ol c b r)];exact r) fun c xs r=>by rw[aB (Wg c xs r)];exact r
   rcases hc with rfl|hc
   ·exact qb
   ·rintro rfl
    rcases he with z|z
    ·exact Ol c b hc z
    ·rw[hc] at z;cases z;exact hb rfl
end
structure Un(fs ex:List Addr)(H H':Hp)(h h':Heap):Prop where
 keep:∀b o,h.get? b=some o->H b=none->b∉fs->b∉ex->h'.get? b=some o
 slot:∀b o,h.get? b=some o->H b=none->b∈fs->b∉ex->∃sl,h'.get? b=some {o with slots:=sl}
 free:∀b o,h.get? b=some o->H b=none->b∉ex->H' b=none
 there:∀b o,h.get? b=some o->b∉ex->∃o',h'.get? b=some o'
 tups:∀b xs,H b=some (.tup xs)->H' b=some (.tup xs)
 kW:∀b o u,H b=some (.bQ o u)->H' b=some (.bQ o u)
 m5:∀b ps,H b=some (.pR ps)->∃more,H' b=some (.pR (ps++more))
section
variable{fs fs' ex ex':List Addr}{H H1 H2:Hp}{h h1 h2 h':Heap}{a x e:Addr}{o:HO}
theorem Un.any(u:Un fs ex H H1 h h1){b:Addr}{ob:Obj}(q:h.get? b=some ob)(n:H b=none)(hx:b∉ex):∃sl,h1.get? b=some {ob with slots:=sl}:=by
 by_cases hb:b∈fs
 ·exact u.slot b ob q n hb hx
 ·exact⟨ob.slots,u.keep b ob q n hb hx⟩
theorem Un.kept(k:∀b u,h.get? b=some u->h'.get? b=some u):Un fs ex H H h h':=
 ⟨fun b ob q _ _ _=>k b ob q,fun b ob q _ _ _=>⟨ob.slots,k b ob q⟩,fun _ _ _ n _=>n,fun b ob q _=>⟨ob,k b ob q⟩,fun _ _ q=>q,fun _ _ _ q=>q,fun _ ps q=>⟨#[],by rw[q];simp⟩⟩
theorem Un.refl:Un fs ex H H h h:=Un.kept fun _ _ q=>q
theorem Un.laid(k:∀b u,h.get? b=some u->h'.get? b=some u)(hp:h.objs.size<=a)(hn:H a=none):Un fs ex H (upd H a o) h h' where
 keep:=fun b u q _ _ _=>k b u q
 slot:=fun b u q _ _ _=>⟨u.slots,k b u q⟩
 free:=fun b u q n _=>by rw[aB (eG (fB (cz q) hp))];exact n
 there:=fun b u q _=>⟨u,k b u q⟩
 tups:=fun b xs q=>by rw[aB (ji q hn)];exact q
 kW:=fun b u xs q=>by rw[aB (ji q hn)];exact q
 m5:=fun b ps q=>⟨#[],by rw[aB (ji q hn),q];simp⟩
theorem Un.write(mu:uJ (H x))(he:e=x\/H e=some (.own x))(k:∀b u,b≠e->h.get? b=some u->h'.get? b=some u)(qK:∃u,h'.get? e=some u):Un fs ex H (upd H x o) h h':=by
 have hx:∀b,H b=none->b≠x:=fun b n z=>by subst z;rw[n] at mu;exact mu
 have hb:∀b,H b=none->b≠e:=fun b n z=>by
  subst z
  rcases he with r|r
  ·exact hx b n r
  ·rw[n] at r;cases r
 have hm:∀b u,H b=some u->¬uJ (some u)->b≠x:=fun b u q nm z=>by subst z;rw[q] at mu;exact nm mu
 refine⟨fun b u q n _ _=>k b u (hb b n) q,fun b u q n _ _=>⟨u.slots,k b u (hb b n) q⟩,fun b u q n _=>by rw[aB (hx b n)];exact n,fun b u q _=>?_,
  fun b xs q=>by rw[aB (hm b _ q fun z=>z)];exact q,fun b u xs q=>by rw[aB (hm b _ q fun z=>z)];exact q,fun b ps q=>⟨#[],by rw[aB (hm b _ q fun z=>z),q];simp⟩⟩
 by_cases qb:b=e
 ·subst qb;exact qK
 ·exact⟨u,k b u qb q⟩
end
def Bf(h:Heap)(H:Hp):List Addr:=(List.range h.objs.size).filter fun a=>(H a).isSome
def mL(h:Heap)(H:Hp):Heap:=PySem.W.hideAll h (Bf h H)
theorem aap(h:Heap)(H:Hp):(mL h H).objs.size=h.objs.size:=PySem.W.hideAll_size _ _
theorem Uw{h:Heap}{H:Hp}{b:Addr}{o:Obj}(e:h.get? b=some o)(n:H b=none):(mL h H).get? b=some o:=
 PySem.W.hideAll_get _ e fun hm=>by
  have q:(H b).isSome=true:=(jh.mp hm).2
  rw[n] at q;simp at q
theorem acs{h:Heap}{H:Hp}{b:Addr}{o:Obj}(e:(mL h H).get? b=some o):h.get? b=some o/\H b=none:=by
  have e':h.get? b=some o:=PySem.W.of_hideAll (Bf h H) e
  refine⟨e',?_⟩
  cases q:H b with
  |none=>rfl
  | some x =>
    have hm:b∈Bf h H:=jh.mpr ⟨qC.mpr (cz e'),by simp[q]⟩
    have z:(mL h H).get? b=none:=PySem.W.hideAll_none (Bf h H) hm
    rw[z] at e;cases e
def XN(g h:Heap)(L:Addr):List (Addr×Obj):=(List.range h.objs.size).filterMap fun a=>if a=L\/(g.get? a).isSome=true then none else(h.get? a).map fun o=>(a,o)
def rest(g h:Heap)(L d:Addr):List (Addr×Obj):=(XN g h L).filter fun p=>decide (p.1≠d)
structure Mod(K:PySem.W.Frag)(mg:Str->Option Value)(base:Heap):Prop where
 vJ:K.In base
 glob:base.Ns mainGlobals mg
 blt:∃mb,base.Ns builtinsNs mb/\∀x:Str,x≠"__name__" ->mb x=bootBuiltins x
 nolimit:base.NoLimit
structure Cx where
 prog:Program
 w:World
 K:PySem.W.Frag
 mg:Str->Option Value
 base:Heap
 A:Around
 N:List Str
 s₀:Shared
 H₀:Hp
 env:Env
 outer:List Env
 stack:List Env
 ex:List Addr
 fn:Str->Bool
 calm:Bool
 pn:List (Addr×Obj)
 xe:Value->Shared->Prop
def frs(l:List Env):List Addr:=l.filterMap (·.frame)
abbrev Cx.fs(X:Cx):List Addr:=frs X.outer
def C3(sc:Scope)(x:Str):Prop:=sc.names.lookup x=some .local\/sc.names.lookup x=some .cell\/sc.names.lookup x=some .free
def Loc(sc:Scope)(x:Str):Prop:=sc.names.lookup x=some .local\/sc.names.lookup x=some .cell
def Look(env:Env)(h:Heap)(m:Str->Option Value)(x:Str)(u:Value):Prop:=
 (env.kindOf x=some .local/\m x=some u)\/((env.kindOf x=some .cell\/env.kindOf x=some .free)/\∃c,env.cells.lookup x=some c/\h.IsCell c (some u))
structure Cx.Ok(X:Cx):Prop where
 mod:Mod X.K X.mg X.base
 kind:X.env.scope.kind= .function
 glob:X.env.globals=mainGlobals
 blt:X.env.builtins=builtinsNs
 above:X.s₀.heap.objs.size<=X.env.locals
 inj:∀x y c,X.env.cells.lookup x=some c->X.env.cells.lookup y=some c->x=y
 has:∀x,(X.env.kindOf x=some .cell\/X.env.kindOf x=some .free)->∃c,X.env.cells.lookup x=some c
 ve:∀x c,X.fn x=true->X.env.cells.lookup x=some c->X.s₀.heap.objs.size<=c
 hd:X.calm=true->X.A.handled=none
 frames:X.A.frames=some X.stack
 stk:X.stack=X.outer\/(X.stack=X.env::X.outer/\X.env.frame=some X.env.locals)
 yy:∀b∈X.ex,b≠X.env.locals/\∀x c,X.env.cells.lookup x=some c->c≠b
 bs:∀b o,X.base.get? b=some o->X.s₀.heap.get? b=some o/\X.H₀ b=none
 oz:X.base.objs.size<=X.s₀.heap.objs.size
 tK:∀b o,X.base.get? b=some o->b∉X.ex
 sZ:∀b∈X.ex,b∉X.fs
 kD:X.s₀.heap.FunFrames X.base X.outer
 oX:∀b∈X.fs,X.H₀ b=none
structure Inv(X:Cx)(pins:List (Addr×Obj))(σ:List (Option V))(H:Hp)(s:Shared):Prop where
 ok:X.Ok
 os:s.os=X.s₀.os
 bare:AllBare s.gens
 base:Un X.fs X.ex X.H₀ H X.s₀.heap s.heap
 loc:∃m,s.heap.Ns X.env.locals m/\∀(i:Nat) (x:Str) (v:V),X.N[i]?=some x->σ[i]?=some (some v)->C3 X.env.scope x->∃u,RelV v u/\Look X.env s.heap m x u
 cell:∀x c,X.env.cells.lookup x=some c->∃v,s.heap.IsCell c v
 free:H X.env.locals=none
 kc:∀x c,X.env.cells.lookup x=some c->H c=none
 pin:∀p∈X.pn++pins,s.heap.get? p.1=some p.2/\H p.1=none/\p.1≠X.env.locals/\p.1∉X.fs/\∀v,p.2.data≠ .cell v
 hok:dX X.prog X.w H s.heap
 len:σ.length=X.N.length
section
variable{X:Cx}{pins:List (Addr×Obj)}{σ:List (Option V)}{H H':Hp}{s:Shared}{h':Heap}
theorem Cx.Ok.VI(ok:X.Ok){b:Addr}{o:Obj}(e:X.base.get? b=some o):b∉X.fs:=fun hb=>by
 have:=(ok.kD.mem hb).1
 rw[e] at this;cases this
theorem Inv.bs(I:Inv X pins σ H s):∀b o,X.base.get? b=some o->s.heap.get? b=some o/\H b=none:=fun b o e=>
 ⟨I.base.keep b o (I.ok.bs b o e).1 (I.ok.bs b o e).2 (I.ok.VI e) (I.ok.tK b o e),I.base.free b o (I.ok.bs b o e).1 (I.ok.bs b o e).2 (I.ok.tK b o e)⟩
theorem Inv.bk(I:Inv X pins σ H s):∀b o,X.base.get? b=some o->s.heap.get? b=some o:=fun b o e=>(I.bs b o e).1
theorem Inv.mod(I:Inv X pins σ H s):Mod X.K X.mg X.base:=I.ok.mod
theorem Inv.dI(I:Inv X pins σ H s):X.K.In s.heap:=I.ok.mod.vJ.keeps I.bk
theorem Inv.lt(I:Inv X pins σ H s):X.env.locals<s.heap.objs.size:=let ⟨_,hn,_⟩:=I.loc;hn.lt
theorem Inv.sz(I:Inv X pins σ H s):X.s₀.heap.objs.size<=s.heap.objs.size:=cG I.ok.above (j5 I.lt)
theorem Inv.Zt(I:Inv X pins σ H s){a:Addr}(h:s.heap.objs.size<=a):a∉X.fs:=fun hb=>by
 obtain⟨_,o,ho,_⟩:=I.ok.kD.mem hb
 exact absurd (fB (cz ho) (cG I.sz h)) (mT _)
theorem Inv.k6(I:Inv X pins σ H s):∀x c,X.env.cells.lookup x=some c->c≠X.env.locals:=fun x c e z=>by
 obtain⟨v,o,ho,hd⟩:=I.cell x c e
 obtain⟨m,⟨o',es,ep,ho',hd',_⟩,_⟩:=I.loc
 rw[z,ho'] at ho;cases ho;rw[hd'] at hd;cases hd
theorem Inv.kD(I:Inv X pins σ H s):s.heap.FunFrames X.base X.outer:=by
  have all:∀(l:List Env),(∀b∈frs l,b∈X.fs)->X.s₀.heap.FunFrames X.base l->s.heap.FunFrames X.base l:=by
    intro l
    induction l with
    |nil=>intro _ _;trivial
    | cons env r ih =>
      intro hs hl
      obtain⟨hk,⟨L,o,hf,hn,ho,hd⟩,hr⟩:=hl
      have hL:L∈X.fs:=hs L (by unfold frs;rw[jI,hf];exact cA)
      obtain⟨sl,e⟩:=I.base.slot L o ho (I.ok.oX L hL) hL fun z=>I.ok.sZ L z hL
      exact⟨hk,⟨L,_,hf,hn,e,hd⟩,ih (fun b hb=>hs b (by unfold frs;rw[jI,hf];exact bX _ hb)) hr⟩
  exact all X.outer (fun _ hb=>hb) I.ok.kD
theorem Inv.stack(I:Inv X pins σ H s):s.heap.FunFrames X.base X.stack:=by
 rcases I.ok.stk with e|⟨e,hf⟩
 ·rw[e];exact I.kD
 ·rw[e]
  obtain⟨m,hn,_⟩:=I.loc
  refine .cons (by rw[I.ok.kind];decide) hf hn ?_ I.kD
  exact Heap.get?_none_of_le (cG I.ok.oz I.ok.above)
theorem Inv.Cd(I:Inv X pins σ H s):∀b∈frs X.stack,b∈X.env.locals::X.fs:=fun b hb=>by
 rcases I.ok.stk with e|⟨e,hf⟩
 ·rw[e] at hb;exact bX _ hb
 ·rw[e] at hb
  unfold frs at hb
  rw[jI,hf] at hb
  exact hb
theorem Inv.PX(I:Inv X pins σ H s):∀b∈frs X.stack,H b=none:=fun b hb=>by
 rcases aL.mp (I.Cd b hb) with e|hb
 ·rw[e];exact I.free
 ·obtain⟨_,o,ho,_⟩:=I.ok.kD.mem hb
  exact I.base.free b o ho (I.ok.oX b hb) fun z=>I.ok.sZ b z hb
theorem Inv.step{g':Array GenState}{t':Nat}{d':Drawn}{ch:List Addr}(I:Inv X pins σ H s)
  (hch:∀b∈ch,(b∈X.ex\/X.s₀.heap.objs.size<=b)/\b≠X.env.locals/\(∀x c,X.env.cells.lookup x=some c->c≠b)/\∀p∈X.pn++pins,p.1≠b)
  (keep:∀b o,b≠X.env.locals->b∉X.fs->b∉ch->s.heap.get? b=some o->H b=none->h'.get? b=some o)
  (slot:∀b o,b≠X.env.locals->b∈X.fs->b∉ch->s.heap.get? b=some o->H b=none->∃sl,h'.get? b=some {o with slots:=sl}) (free:∀b o,b∉ch->s.heap.get? b=some o->H b=none->H' b=none)
  (there:∀b o,b∉ch->s.heap.get? b=some o->∃o',h'.get? b=some o')
  (tups:∀b xs,H b=some (.tup xs)->H' b=some (.tup xs)) (kW:∀b o u,H b=some (.bQ o u)->H' b=some (.bQ o u)) (m5:∀b ps,H b=some (.pR ps)->∃more,H' b=some (.pR (ps++more)))
  (ns:∀m,s.heap.Ns X.env.locals m->h'.Ns X.env.locals m) (hok:dX X.prog X.w H' h') (hg:AllBare g'):
  Inv X pins σ H' {s with heap:=h',gens:=g',drawn:=d',toks:=t'}:=by
 have JH:∀b o,X.s₀.heap.get? b=some o->b≠X.env.locals:=fun b o e=>eG (fB (cz e) I.ok.above)
 have wB:∀b o,X.s₀.heap.get? b=some o->b∉X.ex->b∉ch:=fun b o e hx hb=>by
  rcases(hch b hb).1 with z|z
  ·exact hx z
  ·exact absurd (fB (cz e) z) (mT _)
 have cellK:∀x c,X.env.cells.lookup x=some c->∀v,s.heap.IsCell c v->h'.IsCell c v:=fun x c e v ⟨o,ho,hd⟩=>by
  have tF:c∉ch:=fun z=>(hch c z).2.2.1 x c e rfl
  by_cases hc:c∈X.fs
  ·obtain⟨sl,q⟩:=slot c o (I.k6 x c e) hc tF ho (I.kc x c e)
   exact⟨_,q,hd⟩
  ·exact⟨o,keep c o (I.k6 x c e) hc tF ho (I.kc x c e),hd⟩
 refine⟨I.ok,I.os,hg,⟨fun b o e n hb hx=>?_,fun b o e n hb hx=>?_,fun b o e n hx=>?_,fun b o e hx=>?_,fun b xs e=>tups b xs (I.base.tups b xs e),fun b o xs e=>kW b o xs (I.base.kW b o xs e),fun b ps e=>?_⟩,?_,fun x c e=>?_,?_,fun x c e=>?_,fun p hp=>?_,hok,I.len⟩
 ·exact keep b o (JH b o e) hb (wB b o e hx) (I.base.keep b o e n hb hx) (I.base.free b o e n hx)
 ·obtain⟨sl,e1⟩:=I.base.slot b o e n hb hx
  obtain⟨TF,e2⟩:=slot b _ (JH b o e) hb (wB b o e hx) e1 (I.base.free b o e n hx)
  exact⟨TF,e2⟩
 ·obtain⟨o',e1⟩:=I.base.there b o e hx
  exact free b o' (wB b o e hx) e1 (I.base.free b o e n hx)
 ·obtain⟨o',e1⟩:=I.base.there b o e hx
  exact there b o' (wB b o e hx) e1
 ·obtain⟨m1,e1⟩:=I.base.m5 b ps e
  obtain⟨m2,e2⟩:=m5 b _ e1
  exact⟨m1++m2,by rw[e2,Array.append_assoc]⟩
 ·obtain⟨m,hn,hl⟩:=I.loc
  refine⟨m,ns m hn,fun i x v e1 e2 e3=>?_⟩
  obtain⟨u,r,l⟩:=hl i x v e1 e2 e3
  refine⟨u,r,?_⟩
  rcases l with l|⟨k,c,e,z⟩
  ·exact .inl l
  ·exact .inr ⟨k,c,e,cellK x c e _ z⟩
 ·obtain⟨v,z⟩:=I.cell x c e
  exact⟨v,cellK x c e v z⟩
 ·obtain⟨m,⟨o,_,_,ho,_⟩,_⟩:=I.loc
  exact free _ o (fun z=>(hch _ z).2.1 rfl) ho I.free
 ·obtain⟨v,o,ho,hd⟩:=I.cell x c e
  exact free c o (fun z=>(hch c z).2.2.1 x c e rfl) ho (I.kc x c e)
 ·obtain⟨e,n,ne,nf,d⟩:=I.pin p hp
  have tF:p.1∉ch:=fun z=>(hch p.1 z).2.2.2 p hp rfl
  exact⟨keep p.1 p.2 ne nf tF e n,free p.1 p.2 tF e n,ne,nf,d⟩
theorem Inv.un{t':Nat}(I:Inv X pins σ H s)(u:Un X.fs [] H H' s.heap h')(hok:dX X.prog X.w H' h'):Inv X pins σ H' {s with heap:=h',toks:=t'}:=by
 obtain⟨m,⟨o,es,ep,ho,r⟩,_⟩:=id I.loc
 obtain⟨sl,hL⟩:=u.any ho I.free (by simp)
 exact I.step (g':=s.gens) (d':=s.drawn) (ch:=[]) (fun _ z=>nomatch z) (fun b o _ hb _ e n=>u.keep b o e n hb (by simp)) (fun b o _ hb _ e n=>u.slot b o e n hb (by simp)) (fun b o _ e n=>u.free b o e n (by simp)) (fun b o _ e=>u.there b o e (by simp)) u.tups u.kW u.m5 (fun m' hm=>by
  obtain⟨o',es',A8,ho',r'⟩:=hm
  rw[ho] at ho';cases ho'
  exact⟨_,es',A8,hL,r'⟩) hok I.bare
theorem Inv.call{g':Array GenState}{t':Nat}{d':Drawn}{ch:List Addr}(I:Inv X pins σ H s)(u:Un (frs X.stack) ch H H' s.heap h')(hok:dX X.prog X.w H' h')(hg:AllBare g')
  (hch:∀b∈ch,(b∈X.ex\/X.s₀.heap.objs.size<=b)/\b≠X.env.locals/\(∀x c,X.env.cells.lookup x=some c->c≠b)/\∀p∈X.pn++pins,p.1≠b):
  Inv X pins σ H' {s with heap:=h',gens:=g',drawn:=d',toks:=t'}:=by
 obtain⟨m,⟨o,es,ep,ho,r⟩,_⟩:=id I.loc
 obtain⟨sl,hL⟩:=u.any ho I.free fun z=>(hch _ z).2.1 rfl
 exact I.step (ch:=ch) hch (fun b o hL hb hc e n=>u.keep b o e n (fun z=>(aL.mp (I.Cd b z)).elim hL hb) hc) (fun b o _ _ hc e n=>u.any e n hc) (fun b o hc e n=>u.free b o e n hc) (fun b o hc e=>u.there b o e hc) u.tups u.kW u.m5 (fun m' hm=>by
  obtain⟨o',es',A8,ho',r'⟩:=hm
  rw[ho] at ho';cases ho'
  exact⟨_,es',A8,hL,r'⟩) hok hg
theorem Inv.turned{t':Nat}{it:Addr}(I:Inv X pins σ H s)(k:∀b o,b≠it->s.heap.get? b=some o->h'.get? b=some o)(hn:H it=none)(hL:it≠X.env.locals)
  (h1:it∈X.ex\/X.s₀.heap.objs.size<=it) (h2:∀x c,X.env.cells.lookup x=some c->c≠it) (h3:∀p∈X.pn++pins,p.1≠it):Inv X pins σ H {s with heap:=h',toks:=t'}:=by
 have HB:∀b u,H b=some u->b≠it:=fun b u e z=>by rw[z,hn] at e;cases e
 refine I.step (g':=s.gens) (d':=s.drawn) (ch:=[it]) (fun b hb=>?_) (fun b o _ _ hc e _=>k b o (fun z=>hc (by simp[z])) e) (fun b o _ _ hc e _=>⟨o.slots,k b o (fun z=>hc (by simp[z])) e⟩) (fun _ _ _ _ n=>n)
  (fun b o hc e=>⟨o,k b o (fun z=>hc (by simp[z])) e⟩) (fun _ _ e=>e) (fun _ _ _ e=>e) (fun b ps e=>⟨#[],by rw[e];simp⟩) (fun m hm=>?_) (fun b u e=>?_) I.bare
 ·have e:b=it:=by simpa using hb
  subst e
  exact⟨h1,hL,h2,h3⟩
 ·obtain⟨o,es,ep,ho,r⟩:=hm
  exact⟨o,es,ep,k _ o (cX hL) ho,r⟩
 ·refine(I.hok b u e).stay (fun c v hc q=>k c v ?_ q) (fun _ q=>q) fun _ _ q=>q
  rcases hc with z|z
  ·rw[z];exact HB b u e
  ·exact HB c _ z
theorem Inv.tok(I:Inv X pins σ H s)(t:Nat):Inv X pins σ H {s with toks:=t}:=I.un (h':=s.heap) (t':=t) Un.refl I.hok
theorem Inv.kept{t':Nat}(I:Inv X pins σ H s)(k:∀b u,s.heap.get? b=some u->h'.get? b=some u):Inv X pins σ H {s with heap:=h',toks:=t'}:=I.un (Un.kept k) (I.hok.kept k)
theorem Inv.laid{a:Addr}{o:HO}{t':Nat}(I:Inv X pins σ H s)(k:∀b u,s.heap.get? b=some u->h'.get? b=some u)(hp:s.heap.objs.size<=a)(new:cF X.prog X.w (upd H a o) h' a o):
  Inv X pins σ (upd H a o) {s with heap:=h',toks:=t'}:=I.un (Un.laid k hp (I.hok.fresh hp)) (I.hok.laid k hp new)
theorem Inv.write{x e:Addr}{o:HO}{t':Nat}(I:Inv X pins σ H s)(mu:uJ (H x))(he:e=x\/H e=some (.own x))(k:∀b u,b≠e->s.heap.get? b=some u->h'.get? b=some u)(qK:∃u,h'.get? e=some u)
  (new:cF X.prog X.w (upd H x o) h' x o):Inv X pins σ (upd H x o) {s with heap:=h',toks:=t'}:=I.un (Un.write mu he k qK) (I.hok.write mu he k qK new)
theorem Inv.Od{NG:List (Addr×Obj)}(I:Inv X pins σ H s)(h:∀p∈NG,s.heap.get? p.1=some p.2/\H p.1=none/\p.1≠X.env.locals/\p.1∉X.fs/\∀v,p.2.data≠ .cell v):Inv X NG σ H s:=
 ⟨I.ok,I.os,I.bare,I.base,I.loc,I.cell,I.free,I.kc,fun p hp=>(ir.mp hp).elim (fun z=>I.pin p (Bp _ z)) (h p),I.hok,I.len⟩
theorem Qy{N:List Str}(hN:N.Nodup){i j:Nat}{x:Str}(a:N[i]?=some x)(b:N[j]?=some x):i=j:=by
 obtain⟨h1,e1⟩:=bT.mp a
 obtain⟨h2,e2⟩:=bT.mp b
 exact(List.getElem_inj hN).mp (e1.trans e2.symm)
theorem Nj{M:Model}{A:Around}{E:Value->Shared->Prop}{i:Nat}{x:Str}{v:V}{u:Value}{Q:Unit->Shared->Prop}(I:Inv X pins σ H s)(hN:X.N.Nodup)(hi:X.N[i]?=some x)(hx:Loc X.env.scope x)(r:RelV v u)
  (h:∀s',Inv X pins (σ.set i (some v)) H s'->(∃a,Heap.SameBut a s.heap s'.heap/\(a=X.env.locals\/X.env.cells.lookup x=some a))->Q () s') (hf:X.fn x=true\/X.env.scope.names.lookup x=some .local:=by first|exact .inl rfl|exact .inr rfl|assumption):wpAny M A (storeName X.env x u) Q E s:=by
 obtain⟨m,hn,hl⟩:=id I.loc
 have hcls:(X.env.scope.kind== .class||(X.env.scope.kind== .module && X.env.locals !=X.env.globals))=false:=by rw[I.ok.kind];rfl
 have KN:i<σ.length:=by rw[I.len];exact(bT.mp hi).1
 have k6:=I.k6
 have tracked:∀{a:Addr} {h':Heap},(∃o,s.heap.get? a=some o/\H a=none)->Heap.SameBut a s.heap h'->dX X.prog X.w H h':=fun{a h'} ha hs b ob e=>by
  obtain⟨_,_,hfree⟩:=ha
  refine(I.hok b ob e).stay (fun c w' hc q=>(hs.2 c ?_).trans q) (fun _ q=>q) fun _ _ q=>q
  rintro rfl
  rcases hc with rfl|hc
  ·rw[hfree] at e;cases e
  ·rw[hfree] at hc;cases hc
 rcases hx with hk|hk
 ·refine wpAny_storeName_local hk hn (fun h' hn' hs=>?_) hcls
  obtain⟨oL,_,_,BB,_⟩:=id hn
  refine h _ ⟨I.ok,I.os,I.bare,⟨fun b o e n hb hx=>?_,fun b o e n hb hx=>?_,I.base.free,fun b o e hx=>?_,I.base.tups,I.base.kW,I.base.m5⟩,⟨_,hn',fun j y v' e1 e2 e3=>?_⟩,fun y c e=>?_,I.free,I.kc,fun p hp=>?_,tracked ⟨oL,BB,I.free⟩ hs,by simpa using I.len⟩ ⟨_,hs, .inl rfl⟩
  ·exact(hs.2 b (eG (fB (cz e) I.ok.above))).trans (I.base.keep b o e n hb hx)
  ·obtain⟨sl,e1⟩:=I.base.slot b o e n hb hx
   exact⟨sl,(hs.2 b (eG (fB (cz e) I.ok.above))).trans e1⟩
  ·obtain⟨o',e1⟩:=I.base.there b o e hx
   exact⟨o',(hs.2 b (eG (fB (cz e) I.ok.above))).trans e1⟩
  ·by_cases hj:j=i
   ·subst hj
    rw[hi] at e1;cases e1
    rw[cU KN] at e2
    cases e2
    exact⟨u,r, .inl ⟨hk,by simp⟩⟩
   ·rw[bO (cX hj)] at e2
    obtain⟨u',r',q⟩:=hl j y v' e1 e2 e3
    refine⟨u',r',?_⟩
    rcases q with ⟨k,e⟩|⟨k,c,e,z⟩
    ·refine .inl ⟨k,?_⟩
     have:y≠x:=fun e=>hj (Qy hN e1 (e▸hi))
     simp[this,e]
    ·exact .inr ⟨k,c,e,z.sameBut hs (k6 y c e)⟩
  ·obtain⟨w',z⟩:=I.cell y c e
   exact⟨w',z.sameBut hs (k6 y c e)⟩
  ·obtain⟨e,n,ne,nf,d⟩:=I.pin p hp
   exact⟨(hs.2 p.1 ne).trans e,n,ne,nf,d⟩
 ·have hfn:X.fn x=true:=by
   rcases hf with z|z
   ·exact z
   ·rw[z] at hk;cases hk
  obtain⟨c,hc⟩:=I.ok.has x (.inl hk)
  obtain⟨w',z⟩:=I.cell x c hc
  refine wpAny_storeName_cell I.ok.kind hk hc z (fun h' hc' hs=>?_)
  obtain⟨oc,hoc,Vr⟩:=id z
  refine h {s with heap:=h'} ⟨I.ok,I.os,I.bare,⟨fun b o e n hb hx=>?_,fun b o e n hb hx=>?_,I.base.free,fun b o e hx=>?_,I.base.tups,I.base.kW,I.base.m5⟩,⟨m,hn.sameBut hs (cX (k6 x c hc)),fun j y v' e1 e2 e3=>?_⟩,fun y c' e=>?_,I.free,I.kc,fun p hp=>?_,tracked ⟨oc,hoc,I.kc x c hc⟩ hs,by simpa using I.len⟩ ⟨c,hs, .inr hc⟩
  ·exact(hs.2 b (eG (fB (cz e) (I.ok.ve x c hfn hc)))).trans (I.base.keep b o e n hb hx)
  ·obtain⟨sl,e1⟩:=I.base.slot b o e n hb hx
   exact⟨sl,(hs.2 b (eG (fB (cz e) (I.ok.ve x c hfn hc)))).trans e1⟩
  ·obtain⟨o',e1⟩:=I.base.there b o e hx
   exact⟨o',(hs.2 b (eG (fB (cz e) (I.ok.ve x c hfn hc)))).trans e1⟩
  ·by_cases hj:j=i
   ·subst hj
    rw[hi] at e1;cases e1
    rw[cU KN] at e2
    cases e2
    exact⟨u,r, .inr ⟨.inl hk,c,hc,hc'⟩⟩
   ·rw[bO (cX hj)] at e2
    obtain⟨u',r',q⟩:=hl j y v' e1 e2 e3
    refine⟨u',r',?_⟩
    rcases q with q|⟨k,c',e,z'⟩
    ·exact .inl q
    ·refine .inr ⟨k,c',e,z'.sameBut hs ?_⟩
     rintro rfl
     exact hj (Qy hN e1 (I.ok.inj _ _ _ e hc▸hi))
  ·by_cases hcc:c'=c
   ·subst hcc;exact⟨_,hc'⟩
   ·obtain⟨w2,z2⟩:=I.cell y c' e
    exact⟨w2,z2.sameBut hs hcc⟩
  ·obtain⟨e,n,ne,nf,d⟩:=I.pin p hp
   refine⟨(hs.2 p.1 ?_).trans e,n,ne,nf,d⟩
   intro q
   rw[q,hoc] at e
   have q':oc=p.2:=gf e
   exact d w' (by rw[<-q'];exact Vr)
theorem Ny{M:Model}{A:Around}{E:Value->Shared->Prop}{i:Nat}{x:Str}{v:V}{u:Value}{Q:Unit->Shared->Prop}(I:Inv X pins σ H s)(hN:X.N.Nodup)(hi:X.N[i]?=some x)(hx:Loc X.env.scope x)(r:RelV v u)
  (h:∀s',Inv X pins (σ.set i (some v)) H s'->Q () s') (hf:X.fn x=true\/X.env.scope.names.lookup x=some .local:=by first|exact .inl rfl|exact .inr rfl|assumption):wpAny M A (storeName X.env x u) Q E s:=
 Nj I hN hi hx r (fun s' I' _=>h s' I') hf
theorem Inv.acV{s':Shared}{ch:List Addr}(I:Inv X pins σ H s)(ho:s'.os=s.os)(u:Un (frs X.stack) ch H H' s.heap s'.heap)(hok:dX X.prog X.w H' s'.heap)(hg:AllBare s'.gens)
  (hch:∀b∈ch,(b∈X.ex\/X.s₀.heap.objs.size<=b)/\b≠X.env.locals/\(∀x c,X.env.cells.lookup x=some c->c≠b)/\∀p∈X.pn++pins,p.1≠b):Inv X pins σ H' s':=by
 obtain⟨h',g',d',t',o'⟩:=s'
 have e:o'=s.os:=ho
 subst e
 exact I.call (g':=g') (t':=t') (d':=d') u hok hg hch
end
abbrev XK:=Value->Option Addr->Hp->Prop
abbrev St:=List (Option V)
abbrev VK:=V->Hp->Prop
abbrev TE:=St->Hp->VK->Prop
abbrev TT:=St->Hp->(Bool->Hp->Prop)->Prop
abbrev TA:=St->Hp->(List V->Hp->Prop)->Prop
structure Ends where
 nx:St->Hp->Prop
 rt:VK
 bk:St->Hp->Prop:=fun _ _=>False
 ct:St->Hp->Prop:=fun _ _=>False
abbrev TS:=Ends->St->Hp->Prop
def EP(X:Cx)(pins:List (Addr×Obj))(σ:St)(Q:VK)(u:Value)(s':Shared):Prop:=∃v H',Inv X pins σ H' s'/\RelV v u/\Q v H'
def TP(X:Cx)(pins:List (Addr×Obj))(σ:St)(Q:Bool->Hp->Prop)(b:Bool)(s':Shared):Prop:=∃H',Inv X pins σ H' s'/\Q b H'
def AP(X:Cx)(pins:List (Addr×Obj))(σ:St)(Q:List V->Hp->Prop)(us:List Value)(s':Shared):Prop:=∃vs H',Inv X pins σ H' s'/\Vals vs us/\Q vs H'
def SP(X:Cx)(pins:List (Addr×Obj))(D:Ends)(f:Flow)(s':Shared):Prop:=
 match f with
 | .next=>∃σ' H',Inv X pins σ' H' s'/\D.nx σ' H'
 | .brk=>∃σ' H',Inv X pins σ' H' s'/\D.bk σ' H'
 | .cont=>∃σ' H',Inv X pins σ' H' s'/\D.ct σ' H'
 | .ret u=>∃v σ' H',Inv X pins σ' H' s'/\RelV v u/\D.rt v H'
def PE(X:Cx)(e:Expr)(t:TE):Prop:=
 ∀(pins:List (Addr×Obj)) (s:Shared) (σ:St) (H:Hp) (Q:VK),Inv X pins σ H s->t σ H Q->wpAny (model X.prog X.w) X.A (eval e X.env) (EP X pins σ Q) X.xe s
def PT(X:Cx)(e:Expr)(t:TT):Prop:=
 ∀(pins:List (Addr×Obj)) (s:Shared) (σ:St) (H:Hp) (Q:Bool->Hp->Prop),Inv X pins σ H s->t σ H Q->wpAny (model X.prog X.w) X.A (isTrue e X.env (eval e X.env)) (TP X pins σ Q) X.xe s
def PW(X:Cx)(e:Expr)(t:TT):Prop:=
 ∀(whole:Sem Value) (pins:List (Addr×Obj)) (s:Shared) (σ:St) (H:Hp) (Q:Bool->Hp->Prop),Inv X pins σ H s->t σ H Q->wpAny (model X.prog X.w) X.A (isTrue e X.env whole) (TP X pins σ Q) X.xe s
theorem PW.pt{X:Cx}{e:Expr}{t:TT}(h:PW X e t):PT X e t:=h _
def PA(X:Cx)(es:List Expr)(t:TA):Prop:=
 ∀(pos:Pos) (pins:List (Addr×Obj)) (s:Shared) (σ:St) (H:Hp) (Q:List V->Hp->Prop),Inv X pins σ H s->t σ H Q->wpAny (model X.prog X.w) X.A (spliced (backTo pos (starEach es X.env))) (AP X pins σ Q) X.xe s
def PS(X:Cx)(st:Stmt)(t:TS):Prop:=
 ∀(pins:List (Addr×Obj)) (s:Shared) (σ:St) (H:Hp) (D:Ends),Inv X pins σ H s->t D σ H->wpAny (model X.prog X.w) X.A (exec st X.env) (SP X pins D) X.xe s
def j8(X:Cx)(st:List Stmt)(t:TS):Prop:=
 ∀(pins:List (Addr×Obj)) (s:Shared) (σ:St) (H:Hp) (D:Ends),Inv X pins σ H s->t D σ H->wpAny (model X.prog X.w) X.A (execs st X.env) (SP X pins D) X.xe s
theorem aP{α:Type}{t:Sem α}{Q Q':α->Shared->Prop}{M:Model}{A:Around}{E:Value->Shared->Prop}{s:Shared}(h:wpAny M A t Q E s)(hQ:∀a s,Q a s->Q' a s):wpAny M A t Q' E s:=wpAny_mono h hQ fun _ _ x=>x
section
variable{X:Cx}
theorem bin{a b:Expr}{ta tb:TE}(ha:PE X a ta)(hb:PE X b tb){pins:List (Addr×Obj)}{s:Shared}{σ:St}{H:Hp}{R:V->V->Hp->Prop}(I:Inv X pins σ H s)(h:ta σ H fun x H1=>tb σ H1 fun y H2=>R x y H2)
  {α:Type} {Q:α->Shared->Prop} {f:Value->Value->Sem α}
  (hf:∀v u s2 x y H2,Inv X pins σ H2 s2->RelV x v->RelV y u->R x y H2->wpAny (model X.prog X.w) X.A (f v u) Q X.xe s2):
  wpAny (model X.prog X.w) X.A (eval a X.env) (fun v s₁=>wpAny (model X.prog X.w) X.A (eval b X.env) (fun u s₂=>wpAny (model X.prog X.w) X.A (f v u) Q X.xe s₂) X.xe s₁) X.xe s:=by
 refine aP (ha pins s σ H _ I h) fun v s1 ⟨x,H1,I1,r1,q1⟩=>?_
 refine aP (hb pins s1 σ H1 _ I1 q1) fun u s2 ⟨y,H2,I2,r2,q2⟩=>?_
 exact hf v u s2 x y H2 I2 r1 r2 q2
def bf(i:Nat):TE:=fun σ H Q=>∃v,σ[i]?=some (some v)/\Q v H
def tC(v:V):TE:=fun _ H Q=>Q v H
theorem Uo{i:Nat}{x:Str}{pos:Pos}(hN:X.N[i]?=some x)(hv:C3 X.env.scope x)(hd:(x==("__debug__":Str))=false:=by decide)(hcd:(x==("__classdict__":Str))=false:=by decide):PE X (.Name x pos) (bf i):=by
 intro pins s σ H Q I h
 obtain⟨v,e,h⟩:=h
 obtain⟨m,hn,hl⟩:=I.loc
 obtain⟨u,r,l⟩:=hl i x v hN e hv
 have fin:EP X pins σ Q u s:=⟨v,H,I,r,h⟩
 rcases l with ⟨hk,hm⟩|⟨hk,c,hc,hcell⟩
 ·exact wpAny_Name (wpAny_loadName_local I.ok.kind hk hn hm fin) hd
 ·rcases hk with hk|hk
  ·exact wpAny_Name (wpAny_loadName_cell I.ok.kind hk hc hcell fin) hd
  ·exact wpAny_Name (wpAny_loadName_free I.ok.kind hk hc hcell fin hcd) hd
theorem ai{i j pos}:PE X (.Constant (.int i) j pos) (tC (.int i)):=fun _ _ _ H _ I h=>wpAny_Constant_int ⟨.int i,H,I.tok _,⟨_,rfl⟩,h⟩
theorem sy{b j pos}:PE X (.Constant (.bool b) j pos) (tC (.bl b)):=fun _ _ _ H _ I h=>Constant_bool ⟨.bl b,H,I,rfl,h⟩
theorem iD{j pos}:PE X (.Constant .none j pos) (tC .aI):=fun _ _ _ H _ I h=>Constant_none ⟨.aI,H,I,rfl,h⟩
theorem l5{x j pos}:PE X (.Constant (.str x) j pos) (tC (.str x)):=fun _ _ _ H _ I h=>Calls.Constant_str ⟨.str x,H,I.tok _,⟨_,rfl⟩,h⟩
def Gl(X:Cx)(x:Str):Prop:=X.env.kindOf x=some .globalImplicit
theorem Qo{E:Value->Shared->Prop}{pins:List (Addr×Obj)}{s:Shared}{σ:St}{H:Hp}{x:Str}{u:Value}{pos:Pos}{Q:Value->Shared->Prop}(I:Inv X pins σ H s)(hg:Gl X x)(hm:X.mg x=some u)(h:Q u s)
  (hd:(x==("__debug__":Str))=false:=by decide):wpAny (model X.prog X.w) X.A (eval (.Name x pos) X.env) Q E s:=
 Ll I.ok.kind hg (Calls.loadGlobal_global (by rw[I.ok.glob];exact I.mod.glob.keeps I.bk) hm h) hd
theorem sN{E:Value->Shared->Prop}{pins:List (Addr×Obj)}{s:Shared}{σ:St}{H:Hp}{x:Str}{u:Value}{pos:Pos}{Q:Value->Shared->Prop}(I:Inv X pins σ H s)(hg:Gl X x)(hm:X.mg x=none)(hv:bootBuiltins x=some u)(h:Q u s)
  (hn:x≠"__name__":=by decide) (hd:(x==("__debug__":Str))=false:=by decide):wpAny (model X.prog X.w) X.A (eval (.Name x pos) X.env) Q E s:=by
 obtain⟨mb,h1,h2⟩:=I.mod.blt
 exact Ll I.ok.kind hg (Calls.loadGlobal_builtin (by rw[I.ok.glob];exact I.mod.glob.keeps I.bk) hm (by rw[I.ok.blt];exact h1.keeps I.bk) ((h2 x hn).trans hv) h) hd
theorem kN{x:Str}{v:V}{u:Value}{pos:Pos}(hg:Gl X x)(hm:X.mg x=none)(hv:bootBuiltins x=some u)(r:RelV v u)(hn:x≠"__name__":=by decide)(hd:(x==("__debug__":Str))=false:=by decide):PE X (.Name x pos) (tC v):=
 fun _ _ _ H _ I h=>sN I hg hm hv ⟨v,H,I,r,h⟩ hn hd
variable{a b:Expr}{ta tb:TE}{pos:Pos}
def PC(X:Cx)(op:CmpOp)(a b:Expr)(t:TE):Prop:=
 ∀(pins:List (Addr×Obj)) (s:Shared) (σ:St) (H:Hp) (Q:VK),Inv X pins σ H s->t σ H Q->
  wpAny (model X.prog X.w) X.A (eval a X.env) (fun v s₁=>wpAny (model X.prog X.w) X.A (eval b X.env) (fun u s₂=>wpAny (model X.prog X.w) X.A (compareOp op v u) (EP X pins σ Q) X.xe s₂) X.xe s₁) X.xe s
variable{tA vS:TT}{rest:List Expr}
def Br(t u:TT):TT:=fun σ H Q=>t σ H fun c H1=>if c=true then u σ H1 Q else Q false H1
def Kn(t u:TT):TT:=fun σ H Q=>t σ H fun c H1=>if c=true then Q true H1 else u σ H1 Q
def xY(t:TT):TT:=fun σ H Q=>t σ H fun c H1=>Q (!c) H1
theorem ou(ha:PT X a tA):PW X (.BoolOp .And [a] pos) tA:=by
 intro wh pins s σ H Q I h
 refine isTrue_and (aP (ha pins s σ H Q I h) fun c s1 e=>?_)
 cases c with
 |true=>exact isTrue_and_nil e
 |false=>exact e
theorem yg(ha:PT X a tA):PW X (.BoolOp .Or [a] pos) tA:=by
 intro wh pins s σ H Q I h
 refine isTrue_or (aP (ha pins s σ H Q I h) fun c s1 e=>?_)
 cases c with
 |false=>exact isTrue_or_nil e
 |true=>exact e
theorem nN(ha:PT X a tA)(hb:PW X (.BoolOp .And (b::rest) pos) vS):PW X (.BoolOp .And (a::b::rest) pos) (Br tA vS):=by
 intro wh pins s σ H Q I h
 refine isTrue_and (aP (ha pins s σ H _ I h) fun c s1 ⟨H1,I1,q1⟩=>?_)
 cases c with
 |true=>exact hb wh pins s1 σ H1 Q I1 q1
 |false=>exact⟨H1,I1,q1⟩
theorem rE(ha:PT X a tA)(hb:PW X (.BoolOp .Or (b::rest) pos) vS):PW X (.BoolOp .Or (a::b::rest) pos) (Kn tA vS):=by
 intro wh pins s σ H Q I h
 refine isTrue_or (aP (ha pins s σ H _ I h) fun c s1 ⟨H1,I1,q1⟩=>?_)
 cases c with
 |true=>exact⟨H1,I1,q1⟩
 |false=>exact hb wh pins s1 σ H1 Q I1 q1
theorem rq(ha:PT X a tA):PT X (.UnaryOp .Not a pos) (xY tA):=by
 intro pins s σ H Q I h
 exact isTrue_not (ha pins s σ H (fun c H1=>Q (!c) H1) I h)
def Ij(ta tb:TE):TE:=fun σ H Q=>ta σ H fun x H1=>∃c,x= .bl c/\if c=true then tb σ H1 Q else Q (.bl false) H1
theorem Ke{op}{t:TE}(h:PE X a t):PE X (.BoolOp op [a] pos) t:=fun pins s σ H Q I hw=>BoolOp_one (h pins s σ H Q I hw)
theorem MY(ha:PE X a ta)(hb:PE X (.BoolOp .And (b::rest) pos) tb):PE X (.BoolOp .And (a::b::rest) pos) (Ij ta tb):=by
 intro pins s σ H Q I h
 refine BoolOp_and (aP (ha pins s σ H _ I h) fun v s1 ⟨x,H1,I1,r1,q1⟩=>?_)
 obtain⟨c,rfl,q1⟩:=q1
 cases r1
 refine wpAny_truthy_bool ?_
 cases c with
 |true=>exact hb pins s1 σ H1 Q I1 q1
 |false=>exact⟨.bl false,H1,I1,rfl,q1⟩
def M7(t:TT)(ta tb:TE):TE:=fun σ H Q=>t σ H fun c H1=>if c=true then ta σ H1 Q else tb σ H1 Q
theorem acq{c:Expr}(hc:PT X c tA)(ha:PE X a ta)(hb:PE X b tb):PE X (.IfExp c a b pos) (M7 tA ta tb):=by
 intro pins s σ H Q I h
 refine wpAny_IfExp (aP (hc pins s σ H _ I h) fun d s1 ⟨H1,I1,q1⟩=>?_)
 cases d with
 |true=>exact ha pins s1 σ H1 Q I1 q1
 |false=>exact hb pins s1 σ H1 Q I1 q1
end
def bh(K:PySem.W.Frag)(H:Hp)(a:Addr)(xs:List V):Prop:=
 Rd H a (.lst xs)\/
  ∃(o:Obj) (its:Array Value) (n:Nat),K.lookup a=some o/\o.cls= .type "list" /\o.dict=none/\o.data= .seq its n/\its.size<=sizeLine/\Vals xs its.toList
def gY(K:PySem.W.Frag)(H:Hp)(a:Addr)(xs:List V):Prop:=
 Rd H a (.tup xs)\/
  ∃(o:Obj) (its:Array Value) (n:Nat),K.lookup a=some o/\o.cls= .type "tuple" /\o.data= .seq its n/\its.size<=sizeLine/\Vals xs its.toList
def TU:Value->Option V
 | .none=>some .aI
 | .bool b=>some (.bl b)
 | .int i _=>some (.int i)
 | .str x _=>some (.str x)
 | .bytes b _=>some (.jP b)
 | .float b _=>some (.lF b)
 | .ref a=>some (.ref a)
 | .type n=>some (.ty n)
 |_=>none
theorem RelV.abs{x:V}{u:Value}(r:RelV x u):TU u=some x:=by
 cases x with
 |aI=>cases r;rfl
 |bl _=>cases r;rfl
 |int _=>obtain⟨t,rfl⟩:=r;rfl
 |str _=>obtain⟨t,rfl⟩:=r;rfl
 |jP _=>obtain⟨t,rfl⟩:=r;rfl
 |lF _=>obtain⟨t,rfl⟩:=r;rfl
 |ref _=>cases r;rfl
 |ty _=>cases r;rfl
theorem RelV.inj{x y:V}{u:Value}(r:RelV x u)(q:RelV y u):x=y:=gf (r.abs.symm.trans q.abs)
theorem Vals.inj{xs ys:List V}{us:List Value}(h:Vals xs us)(k:Vals ys us):xs=ys:=by
 induction h generalizing ys with
 |nil=>cases k;rfl
 |cons r t ih=>cases k with|cons r' t'=>rw[r.inj r',ih t']
section
variable{X:Cx}{pins:List (Addr×Obj)}{σ:St}{H:Hp}{s:Shared}{a:Addr}{xs ys:List V}
theorem bh.of{K:PySem.W.Frag}(h:H a=some (.lst xs)):bh K H a xs:= .inl (.inl h)
theorem gY.of{K:PySem.W.Frag}(h:H a=some (.tup xs)):gY K H a xs:= .inl (.inl h)
theorem Inv.list(I:Inv X pins σ H s)(h:bh X.K H a xs):∃its:List Value,Vals xs its/\PlainL s.heap a its.toArray/\xs.length<=sizeLine:=by
 rcases h with h|⟨o,its,n,hk,hc,hd,hs,hz,r⟩
 ·obtain⟨z,its,n,r,e⟩:=h.ok I.hok
  exact⟨its,r,⟨_,n,e,rfl,rfl,rfl⟩,z⟩
 ·refine⟨its.toList,r,⟨o,n,I.dI a o hk,hc,hd,by simpa using hs⟩,?_⟩
  have e:=r.length
  simp only[jW] at e
  omega
theorem Inv.tuple(I:Inv X pins σ H s)(h:gY X.K H a xs):∃its:List Value,Vals xs its/\IsTup s.heap a its.toArray/\xs.length<=sizeLine:=by
 rcases h with h|⟨o,its,n,hk,hc,hs,hz,r⟩
 ·obtain⟨z,its,r,p⟩:=h.ok I.hok
  exact⟨its,r,p,z⟩
 ·refine⟨its.toList,r,⟨o,I.dI a o hk,hc,n,by simpa using hs⟩,?_⟩
  have e:=r.length
  simp only[jW] at e
  omega
theorem Inv.Xr(I:Inv X pins σ H s)(h:bh X.K H a xs)(h':bh X.K H a ys):xs=ys:=by
 obtain⟨its,r,⟨o,n,e,_,_,d⟩,_⟩:=I.list h
 obtain⟨its',r',⟨o',n',e',_,_,d'⟩,_⟩:=I.list h'
 rw[e] at e';cases e'
 rw[d] at d'
 injection d' with d1 _
 have:its=its':=by simpa using congrArg Array.toList d1
 subst this
 exact r.inj r'
end
abbrev Cx.lN(X:Cx)(E:Value->Shared->Prop):Cx:={X with xe:=E}
abbrev Cx.vZ(X:Cx):Cx:=X.lN fun _ _=>False
theorem Cx.Ok.lN{X:Cx}(ok:X.Ok)(E:Value->Shared->Prop):(X.lN E).Ok:=
 ⟨ok.mod,ok.kind,ok.glob,ok.blt,ok.above,ok.inj,ok.has,ok.ve,ok.hd,ok.frames,ok.stk,ok.yy,ok.bs,ok.oz,ok.tK,ok.sZ,ok.kD,ok.oX⟩
theorem Cx.Ok.nK{X:Cx}{E:Value->Shared->Prop}(ok:(X.lN E).Ok):X.Ok:=
 ⟨ok.mod,ok.kind,ok.glob,ok.blt,ok.above,ok.inj,ok.has,ok.ve,ok.hd,ok.frames,ok.stk,ok.yy,ok.bs,ok.oz,ok.tK,ok.sZ,ok.kD,ok.oX⟩
section
variable{X:Cx}{pins:List (Addr×Obj)}{σ:St}{H:Hp}{s:Shared}{E:Value->Shared->Prop}
theorem Inv.lN(I:Inv X pins σ H s)(E:Value->Shared->Prop):Inv (X.lN E) pins σ H s:=⟨I.ok.lN E,I.os,I.bare,I.base,I.loc,I.cell,I.free,I.kc,I.pin,I.hok,I.len⟩
theorem Inv.nK(I:Inv (X.lN E) pins σ H s):Inv X pins σ H s:=⟨I.ok.nK,I.os,I.bare,I.base,I.loc,I.cell,I.free,I.kc,I.pin,I.hok,I.len⟩
theorem SP.nK{D:Ends}{f:Flow}{s':Shared}(h:SP (X.lN E) pins D f s'):SP X pins D f s':=by
 cases f with
 |next=>obtain⟨σ',H',I,q⟩:=h;exact⟨σ',H',I.nK,q⟩
 |brk=>obtain⟨σ',H',I,q⟩:=h;exact⟨σ',H',I.nK,q⟩
 |cont=>obtain⟨σ',H',I,q⟩:=h;exact⟨σ',H',I.nK,q⟩
 |ret u=>obtain⟨v,σ',H',I,r,q⟩:=h;exact⟨v,σ',H',I.nK,r,q⟩
theorem j8.vZ{st:List Stmt}{t:TS}(h:j8 X.vZ st t):j8 X st t:=fun pins s σ H D I hw=>
 wpAny_mono (h pins s σ H D (I.lN _) hw) (fun _ _ q=>q.nK) fun _ _ z=>False.elim z
end
section
variable{X:Cx}{st:Stmt}{rest:List Stmt}{t u:TS}{e:Expr}{te:TE}{pos:Pos}
def EB:TS:=fun D σ H=>D.nx σ H
def mP(t u:TS):TS:=fun D σ H=>t {D with nx:=u D} σ H
theorem dG:j8 X [] EB:=fun _ _ σ H _ I h=>wpAny_execs_nil ⟨σ,H,I,h⟩
theorem ay(h1:PS X st t)(h2:j8 X rest u):j8 X (st::rest) (mP t u):=by
  intro pins s σ H D I h
  refine wpAny_execs_cons (aP (h1 pins s σ H {D with nx:=u D} I h) fun f s1 q=>?_)
  cases f with
  | next =>
    obtain⟨σ',H',I',q⟩:=q
    exact h2 pins s1 σ' H' D I' q
  |ret v=>exact q
  |brk=>exact q
  |cont=>exact q
theorem aD(h1:PS X st t):j8 X [st] t:=by
 intro pins s σ H D I h
 refine wpAny_execs_cons (aP (h1 pins s σ H D I h) fun f s1 q=>?_)
 cases f with
 |next=>exact wpAny_execs_nil q
 |ret v=>exact q
 |brk=>exact q
 |cont=>exact q
def abb:TS:=fun D σ H=>D.bk σ H
def Vu:TS:=fun D σ H=>D.ct σ H
theorem Inv.quiet{pins:List (Addr×Obj)}{σ:St}{H:Hp}{s:Shared}(I:Inv X pins σ H s):interactive X.env=false:=by simp[interactive,I.ok.kind]
def nB(te:TE):TS:=fun D σ H=>te σ H fun _ H1=>D.nx σ H1
theorem jV(he:PE X e te)(hs:swapsWith e none pos.line X.env=pure false:=by rfl):PS X (.Expr e pos) (nB te):=by
 intro pins s σ H D I h
 exact wpAny_Expr_any (aP (he pins s σ H _ I h) fun v s1 ⟨x,H1,I1,r1,q1⟩=>⟨σ,H1,I1,q1⟩) I.quiet hs
def mW(te:TE):TS:=fun D σ H=>te σ H D.rt
theorem bC(he:PE X e te):PS X (.Return (some e) pos) (mW te):=by
 intro pins s σ H D I h
 exact wpAny_Return_some (aP (he pins s σ H _ I h) fun v s1 ⟨x,H1,I1,r1,q1⟩=>⟨x,σ,H1,I1,r1,q1⟩)
def yr(c:TT)(t u:TS):TS:=fun D σ H=>c σ H fun b H1=>if b=true then t D σ H1 else u D σ H1
theorem cR{c:Expr}{a b:List Stmt}{tc:TT}(hc:PT X c tc)(ha:j8 X a t)(hb:j8 X b u):PS X (.If c a b pos) (yr tc t u):=by
 intro pins s σ H D I h
 refine wpAny_If (aP (hc pins s σ H _ I h) fun d s1 ⟨H1,I1,q1⟩=>?_)
 cases d with
 |true=>exact ha pins s1 σ H1 D I1 q1
 |false=>exact hb pins s1 σ H1 D I1 q1
end
abbrev TG:=V->St->Hp->(St->Hp->Prop)->Prop
abbrev jv:=List V->St->Hp->(St->Hp->Prop)->Prop
def PG(X:Cx)(target:Expr)(t:TG):Prop:=
 ∀(pins:List (Addr×Obj)) (s:Shared) (σ:St) (H:Hp) (v:V) (u:Value) (Q:St->Hp->Prop),Inv X pins σ H s->RelV v u->t v σ H Q->
  wpAny (model X.prog X.w) X.A (assign target X.env u) (fun _ s'=>∃σ' H',Inv X pins σ' H' s'/\Q σ' H') X.xe s
def uE(X:Cx)(ts:List Expr)(t:jv):Prop:=
 ∀(pins:List (Addr×Obj)) (s:Shared) (σ:St) (H:Hp) (vs:List V) (us:List Value) (Q:St->Hp->Prop),Inv X pins σ H s->Vals vs us->t vs σ H Q->
  wpAny (model X.prog X.w) X.A (assignInOrder ((assignEach ts X.env).map (·.2)) us) (fun _ s'=>∃σ' H',Inv X pins σ' H' s'/\Q σ' H') X.xe s
abbrev qN:=V->V->V->Hp->(Hp->Prop)->Prop
def w9(X:Cx)(t:qN):Prop:=
 ∀(pins:List (Addr×Obj)) (s:Shared) (σ:St) (H:Hp) (o i v:V) (ov iv u:Value) (Q:Hp->Prop),Inv X pins σ H s->RelV o ov->RelV i iv->RelV v u->t o i v H Q->
  wpAny (model X.prog X.w) X.A (setItem ov iv u) (fun _ s'=>∃H',Inv X pins σ H' s'/\Q H') X.xe s
abbrev xN:=V->V->Hp->VK->Prop
def Kd(X:Cx)(op:Operator)(t:xN):Prop:=
 ∀(pins:List (Addr×Obj)) (s:Shared) (σ:St) (H:Hp) (x y:V) (v u:Value) (Q:VK),Inv X pins σ H s->RelV x v->RelV y u->t x y H Q->
  wpAny (model X.prog X.w) X.A (inplaceOp op v u) (EP X pins σ Q) X.xe s
section
variable{X:Cx}{pos:Pos}
def iK(i:Nat):TG:=fun v σ H Q=>Q (σ.set i (some v)) H
theorem bB{i:Nat}{x:Str}(hN:X.N.Nodup)(hi:X.N[i]?=some x)(hx:Loc X.env.scope x)(hf:X.fn x=true\/X.env.scope.names.lookup x=some .local:=by first|exact .inl rfl|exact .inr rfl|assumption):PG X (.Name x pos) (iK i):=by
 intro pins s σ H v u Q I r h
 exact wpAny_assign_Name (Ny I hN hi hx r (fun s' I'=>⟨_,H,I',h⟩) hf)
def D3:jv:=fun vs σ H Q=>vs=[]/\Q σ H
def FF(t:TG)(u:jv):jv:=fun vs σ H Q=>∃v r,vs=v::r/\t v σ H fun σ' H'=>u r σ' H' Q
theorem jx:uE X [] D3:=by
 intro pins s σ H vs us Q I r h
 obtain⟨e,h⟩:=h
 subst e
 cases r
 exact assignInOrder_nil ⟨σ,H,I,h⟩
theorem dj{e:Expr}{es:List Expr}{t:TG}{u:jv}(h1:PG X e t)(h2:uE X es u)
    (hs:(assignEach (e::es) X.env).map (·.2)=assign e X.env::(assignEach es X.env).map (·.2):=by rfl):uE X (e::es) (FF t u):=by
  intro pins s σ H vs us Q I r h
  obtain⟨v,vr,e1,h⟩:=h
  subst e1
  cases r with
  | cons r rr =>
    rw[hs]
    refine assignInOrder_cons (aP (h1 pins s σ H _ _ _ I r h) fun _ s1 ⟨σ1,H1,I1,q1⟩=>?_)
    exact h2 pins s1 σ1 H1 _ _ Q I1 rr q1
def yh(K:PySem.W.Frag)(n:Nat)(t:jv):TG:=fun v σ H Q=>∃a xs,v= .ref a/\gY K H a xs/\xs.length=n/\t xs σ H Q
theorem Ng{es:List Expr}{k:Nat}{t:jv}{n:Nat}(hc:X.calm=true)(h:uE X es t)
  (hn:(assignEach es X.env).length=n:=by rfl) (hst:(assignEach es X.env).findIdx? (·.1)=none:=by rfl):PG X (.Tuple es k pos) (yh X.K n t):=by
 intro pins s σ H v u Q I r hw
 obtain⟨a,xs,e1,hq,hl,hw⟩:=hw
 subst e1
 cases r
 obtain⟨its,rv,ht,hz⟩:=I.tuple hq
 refine assign_Tuple_tuple (I.ok.hd hc) ht (by simp[hn,<-hl,rv.length]) hst fun h' hx=>?_
 have I1:Inv X pins σ H {s with heap:=h'}:=I.kept (t':=s.toks) fun b o e=>hx b o (eG (cz e)) e
 exact h pins _ σ H xs _ Q I1 (by simpa using rv) hw
def mJ(to ti:TE)(t:qN):TG:=fun v σ H Q=>to σ H fun o H1=>ti σ H1 fun i H2=>t o i v H2 fun H3=>Q σ H3
theorem jf{o i:Expr}{to ti:TE}{t:qN}(ho:PE X o to)(hi:PE X i ti)(hs:w9 X t)
  (ha : ∀ v, assign (.Subscript o i pos) X.env v = (do
   let ov<-holding [v] (eval o X.env)
   let iv<-holding [v,ov] (eval i X.env)
   standAt pos
   holding [v,ov,iv] (setItem ov iv v)
   release [v,ov,iv] []):=by intro _;rfl):PG X (.Subscript o i pos) (mJ to ti t):=by
 intro pins s σ H v u Q I r h
 rw[ha]
 refine wpAny_bind (wpAny_holding (aP (ho pins s σ H _ I h) fun ov s1 ⟨x,H1,I1,r1,q1⟩=>?_))
 refine wpAny_bind (wpAny_holding (aP (hi pins s1 σ H1 _ I1 q1) fun iv s2 ⟨y,H2,I2,r2,q2⟩=>?_))
 refine wpAny_bind (wpAny_standAt (wpAny_bind (wpAny_holding (aP (hs pins s2 σ H2 x y v ov iv u _ I2 r1 r2 r q2) fun _ s3 ⟨H3,I3,q3⟩=>?_))))
 exact wpAny_release ⟨σ,H3,I3,q3⟩
def fZ(te:TE)(g:TG):TS:=fun D σ H=>te σ H fun x H1=>g x σ H1 D.nx
theorem gC{tg e:Expr}{te:TE}{g:TG}(he:PE X e te)(hg:PG X tg g)(hs:swapsWithSole [tg] e pos.line X.env=pure false:=by rfl)(hw:swappedStores [tg] e X.env=pure none:=by rfl)
  (h1:(assignEach [tg] X.env).map (·.2)=[assign tg X.env]:=by rfl):PS X (.Assign [tg] e pos) (fZ te g):=by
 intro pins s σ H D I h
 refine wpAny_Assign_stores (aP (he pins s σ H _ I h) fun v s1 ⟨x,H1,I1,r1,q1⟩=>?_) hs hw
 rw[h1]
 exact aP (hg pins s1 σ H1 x v _ I1 r1 q1) fun _ s2 q=>q
theorem aV{i:Nat}{x:Str}{e:Expr}{te:TE}{pos':Pos}(hN:X.N.Nodup)(hi:X.N[i]?=some x)(hx:Loc X.env.scope x)(he:PE X e te)(hs:swapsWith e (some (.Name x pos')) pos.line X.env=pure false:=by rfl)(hf:X.fn x=true\/X.env.scope.names.lookup x=some .local:=by first|exact .inl rfl|exact .inr rfl|assumption):
  PS X (.Assign [.Name x pos'] e pos) (fZ te (iK i)):=by
 intro pins s σ H D I h
 refine wpAny_Assign_Name (aP (he pins s σ H _ I h) fun v s1 ⟨y,H1,I1,r1,q1⟩=>?_) hs
 exact Ny I1 hN hi hx r1 (fun s2 I2=>⟨_,H1,I2,q1⟩) hf
def IM(to ti te:TE)(xQ:V->V->Hp->VK->Prop)(AZ:xN)(zv:qN):TS:=fun D σ H=>to σ H fun o H1=>ti σ H1 fun i H2=>xQ o i H2 fun x H3=>te σ H3 fun y H4=>AZ x y H4 fun z H5=>zv o i z H5 fun H6=>D.nx σ H6
def M4(X:Cx)(t:V->V->Hp->VK->Prop):Prop:=
 ∀(pins:List (Addr×Obj)) (s:Shared) (σ:St) (H:Hp) (o i:V) (ov iv:Value) (Q:VK),Inv X pins σ H s->RelV o ov->RelV i iv->t o i H Q->
  wpAny (model X.prog X.w) X.A (getItem ov iv) (EP X pins σ Q) X.xe s
theorem acJ{o i e:Expr}{to ti te:TE}{xQ:V->V->Hp->VK->Prop}{AZ:xN}{zv:qN}{op:Operator}{tpos:Pos}(ho:PE X o to)(hi:PE X i ti)(hg:M4 X xQ)(he:PE X e te)(hp:Kd X op AZ)(hs:w9 X zv)
  (ha:∀ov iv new,augStore i ov iv new=(do holding [new,ov,iv] (setItem ov iv new);release [new,ov,iv] [];pure .next):=by intros;rfl):PS X (.AugAssign (.Subscript o i tpos) op e pos) (IM to ti te xQ AZ zv):=by
 intro pins s σ H D I h
 refine wpAny_AugAssign_SubscriptAny (aP (ho pins s σ H _ I h) fun ov s1 ⟨x1,H1,I1,r1,q1⟩=>?_) ha
 refine aP (hi pins s1 σ H1 _ I1 q1) fun iv s2 ⟨x2,H2,I2,r2,q2⟩=>?_
 refine aP (hg pins s2 σ H2 x1 x2 ov iv _ I2 r1 r2 q2) fun old s3 ⟨x3,H3,I3,r3,q3⟩=>?_
 refine aP (he pins s3 σ H3 _ I3 q3) fun v s4 ⟨x4,H4,I4,r4,q4⟩=>?_
 refine aP (hp pins s4 σ H4 x3 x4 old v _ I4 r3 r4 q4) fun new s5 ⟨x5,H5,I5,r5,q5⟩=>?_
 exact aP (hs pins s5 σ H5 x1 x2 x5 ov iv new _ I5 r1 r2 r5 q5) fun _ s6 ⟨H6,I6,q6⟩=>⟨σ,H6,I6,q6⟩
def Jo(f:Int->Int->Int):xN:=fun x y H Q=>∃i j,x= .int i/\y= .int j/\Q (.int (f i j)) H
theorem WK:Kd X .Sub (Jo fun i j=>i-j):=by
 intro pins s σ H x y v u Q I r1 r2 h
 obtain⟨i,j,e1,e2,q⟩:=h
 subst e1;subst e2
 obtain⟨t,rfl⟩:=r1
 obtain⟨t',rfl⟩:=r2
 exact isub_int ⟨.int _,H,I.tok _,⟨_,rfl⟩,q⟩
end
section
variable{X:Cx}{pos:Pos}
def Cv(c:TT)(tb:TS):TS:=fun D σ H=>∃W:Nat->St->Hp->Prop,(∃m,W m σ H)/\∀m σ H,W m σ H->
 c σ H fun b H1=>if b=true then∃N:St->Hp->Prop,(∀σ' H',N σ' H'->∃m',m'<m/\W m' σ' H')/\tb {D with nx:=N,ct:=N,bk:=D.nx} σ H1 else D.nx σ H1
theorem E8{c:Expr}{body:List Stmt}{tc:TT}{tb:TS}(hp:PassesOwn (model X.prog X.w) X.A X.env X.xe)(hc:PT X c tc)(hb:j8 X body tb):PS X (.While c body [] pos) (Cv tc tb):=by
  intro pins s σ H D I h
  obtain⟨W,⟨m0,w0⟩,turn⟩:=h
  refine wpAny_While (codeAny_whileLoop (fun n s'=>∃σ' H',Inv X pins σ' H' s'/\W n σ' H') ?_ m0 ⟨σ,H,I,w0⟩)
  rintro n s1 ⟨σ1,H1,I1,w1⟩
  refine wpAny_passesOwn hp (aP (hc pins s1 σ1 H1 _ I1 (turn n σ1 H1 w1)) fun b s2 ⟨H2,I2,q2⟩=>?_)
  cases b with
  | true =>
    obtain⟨N,hN,q2⟩:=q2
    rw[if_pos rfl]
    refine wpAny_passesOwn hp (aP (hb pins s2 σ1 H2 _ I2 q2) fun f s3 q3=>?_)
    cases f with
    | next =>
      obtain⟨σ3,H3,I3,n3⟩:=q3
      obtain⟨m',hm,w3⟩:=hN σ3 H3 n3
      exact⟨m',hm,σ3,H3,I3,w3⟩
    | cont =>
      obtain⟨σ3,H3,I3,n3⟩:=q3
      obtain⟨m',hm,w3⟩:=hN σ3 H3 n3
      exact⟨m',hm,σ3,H3,I3,w3⟩
    |brk=>exact q3
    |ret v=>exact q3
  | false =>
    rw[if_neg bV]
    exact wpAny_execs_nil ⟨σ1,H2,I2,q2⟩
end
structure It where
 go:Nat->Hp->Prop
 lI:Nat->Hp->V->Hp->Prop
 stop:Nat->Hp->Prop
def lZ(X:Cx)(pins:List (Addr×Obj))(H:Hp)(b:Addr):Prop:=
 H b=none/\b≠X.env.locals/\b∉X.fs/\(b∈X.ex\/X.s₀.heap.objs.size<=b)/\(∀x c,X.env.cells.lookup x=some c->c≠b)/\∀p∈X.pn++pins,p.1≠b
theorem Inv.xr{X:Cx}{pins:List (Addr×Obj)}{σ:St}{H H':Hp}{s:Shared}{b:Addr}(I:Inv X pins σ H s)(hb:s.heap.objs.size<=b)(hn:H' b=none):lZ X pins H' b:=by
 refine⟨hn,rN (fB I.lt hb),I.Zt hb, .inr (cG I.sz hb),fun x c e z=>?_,fun p hp z=>?_⟩
 ·obtain⟨v,q⟩:=I.cell x c e
  exact absurd (fB q.lt (by rw[z];exact hb)) (mT _)
 ·exact absurd (fB (cz (I.pin p hp).1) (by rw[z];exact hb)) (mT _)
structure Turn(P:Program)(w:World)(K:PySem.W.Frag)(tg:Expr)(J:It)(fp:List Addr)(it:Addr)(tn:Nat->Heap->Prop):Prop where
 mem:it∈fp
 obj:∀i h,tn i h->∀b∈fp,∃o,h.get? b=some o/\∀v,o.data≠ .cell v
 keep:∀i h h',tn i h->(∀b∈fp,∀o,h.get? b=some o->h'.get? b=some o)->tn i h'
 item:∀(X:Cx),X.prog=P->X.w=w->X.K=K->X.calm=true->∀(i:Nat) (pins:List (Addr×Obj)) (s:Shared) (σ:St) (H:Hp) (E:Value->Shared->Prop),Inv X pins σ H s->(∀b∈fp,lZ X pins H b)->tn i s.heap->J.go i H->
  wpAny (model P w) X.A (pyNext (.ref it)) (fun r s1=>∃u,r=some u/\
   wpAny (model P w) X.A (letOwnedTupleGo tg (.ref it) u) (fun _ s2=>∃x H',Inv X pins σ H' s2/\RelV x u/\J.lI i H x H'/\tn (i+1) s2.heap/\∀b∈fp,H' b=none) E s1) E s
 done:∀(X:Cx),X.prog=P->X.w=w->X.K=K->X.calm=true->∀(i:Nat) (pins:List (Addr×Obj)) (s:Shared) (σ:St) (H:Hp) (E:Value->Shared->Prop),Inv X pins σ H s->(∀b∈fp,lZ X pins H b)->tn i s.heap->J.stop i H->
  wpAny (model P w) X.A (pyNext (.ref it)) (fun r s1=>r=none/\Inv X pins σ H s1) E s
 self:∀(A:Around) (i:Nat) (s:Shared) (Q:Value->Shared->Prop) (E:Value->Shared->Prop),tn i s.heap->Q (.ref it) s->wpAny (model P w) A (pyIter (.ref it)) Q E s
abbrev TI:=St->Hp->(It->Hp->Prop)->Prop
def HV(X:Cx)(pins:List (Addr×Obj))(σ:St)(tg:Expr)(R:It->Hp->Prop)(itv:Value)(s2:Shared):Prop:=
 ∃(it:Addr) (fp:List Addr) (tn:Nat->Heap->Prop) (J:It) (H':Hp),itv= .ref it/\Inv X pins σ H' s2/\Turn X.prog X.w X.K tg J fp it tn/\tn 0 s2.heap/\(∀b∈fp,lZ X pins H' b)/\R J H'
def PI(X:Cx)(tg iter:Expr)(wi:TI):Prop:=
 ∀(pins:List (Addr×Obj)) (s:Shared) (σ:St) (H:Hp) (R:It->Hp->Prop),Inv X pins σ H s->wi σ H R->
  wpAny (model X.prog X.w) X.A (eval iter X.env) (fun v s1=>wpAny (model X.prog X.w) X.A (pyIter v) (HV X pins σ tg R) X.xe s1) X.xe s
theorem DZ{M:Model}{A:Around}{E:Value->Shared->Prop}{s:Shared}{tg:Expr}{it:Addr}{u:Value}{o:Obj}{n:String}{vs:Array Value}{Q:Unit->Shared->Prop}(ho:s.heap.get? it=some o)(hc:o.cls= .type n)(hd:o.data= .fields vs)
    (hn:["enumerate","zip","dict_itemiterator","dict_reverseitemiterator","odict_iterator","itertools.zip_longest","itertools.pairwise"].contains n=false) (hQ:Q () s):wpAny M A (letOwnedTupleGo tg (.ref it) u) Q E s:=by
  unfold letOwnedTupleGo
  cases tg<;>first
    |exact wpAny_pure hQ
    |(cases u<;>first
        |exact wpAny_pure hQ
        | (refine wpAny_bind (wpAny_load ho ?_)
           rw[hc,hd]
           show wpAny M A (if(["enumerate","zip","dict_itemiterator","dict_reverseitemiterator","odict_iterator","itertools.zip_longest","itertools.pairwise"].contains n && vs[0]?==some (rawInt _))=true then _ else _) Q E s
           rw[if_neg (by intro h;rw[hn,Bool.false_and] at h;cases h)]
           exact wpAny_pure hQ))
def pC(K:PySem.W.Frag)(a:Addr):It:=
 ⟨fun i H=>∃xs x,bh K H a xs/\xs[i]?=some x,fun i H x H'=>H'=H/\∀xs,bh K H a xs->xs[i]?=some x,fun i H=>∃xs,bh K H a xs/\xs.length<=i⟩
def j9(lo:Int)(n:Nat):It:=⟨fun i _=>i<n,fun i H x H'=>H'=H/\x= .int (lo+i),fun i _=>n<=i⟩
theorem ZA{P:Program}{w:World}{K:PySem.W.Frag}{tg:Expr}(a it:Addr):Turn P w K tg (pC K a) [it] it (fun i h=>h.IsListIter it a i) where
 mem:=by simp
 obj:=fun i h st b hb=>by
  have e:b=it:=by simpa using hb
  subst e
  obtain⟨o,e,c,d⟩:=st
  exact⟨o,e,fun v z=>by rw[d] at z;cases z⟩
 keep:=fun i h h' st k=>st.at fun o e=>k it (by simp) o e
 item:=by
  intro X hP hw hK hc i pins s σ H E I hf st hg
  subst hP hw hK
  obtain⟨xs,x,hq,hx⟩:=hg
  obtain⟨its,rv,p,hz⟩:=I.list hq
  obtain⟨u,hu,ru⟩:=rv.get hx
  obtain⟨f0,f1,f2,f3,f4,f5⟩:=hf it (by simp)
  refine wpAny_pyNext_list_item st p.isList (x:=u) (by simpa using hu) fun h' st' sb=>?_
  have I1:Inv X pins σ H {s with heap:=h'}:=I.turned (t':=s.toks) (fun b o hb e=>(sb.2 b hb).trans e) f0 f1 f3 f4 f5
  obtain⟨o,e,c,d⟩:=id st'
  exact⟨u,rfl,DZ (s:={s with heap:=h'}) e c d (by decide) ⟨x,H,I1,ru,⟨rfl,fun ys hy=>by rw[I.Xr hy hq];exact hx⟩,st',fun b hb=>(hf b hb).1⟩⟩
 done:=by
  intro X hP hw hK hc i pins s σ H E I hf st hg
  subst hP hw hK
  obtain⟨xs,hq,hx⟩:=hg
  obtain⟨its,rv,p,hz⟩:=I.list hq
  obtain⟨f0,f1,f2,f3,f4,f5⟩:=hf it (by simp)
  have hl:=rv.length
  exact wpAny_pyNext_list_end (I.ok.hd hc) st p.isList (by simp;omega) fun h' eb=>⟨rfl,I.turned (t':=s.toks) (fun b o hb e=>eb b o hb e) f0 f1 f3 f4 f5⟩
 self:=fun _ _ _ _ _ st h=>wpAny_pyIter_listiter st h
theorem QL{P:Program}{w:World}{K:PySem.W.Frag}{tg:Expr}(it:Addr)(lo:Int)(n:Nat):Turn P w K tg (j9 lo n) [it] it (fun i h=>IsRangeIter h it (lo+(i:Nat)*1) ((n:Int)-(i:Nat)) 1) where
 mem:=by simp
 obj:=fun i h st b hb=>by
  have e:b=it:=by simpa using hb
  subst e
  exact⟨_,st,fun v z=>by
   have z':Data.fields _=Data.cell v:=z
   cases z'⟩
 keep:=fun i h h' st k=>k it (by simp) _ st
 item:=by
  intro X hP hw hK hc i pins s σ H E I hf st hg
  subst hP hw hK
  obtain⟨f0,f1,f2,f3,f4,f5⟩:=hf it (by simp)
  have W:=Walks.range (prog:=X.prog) (w:=X.w) (I.ok.hd hc) it lo 1 n
  refine W.item i s _ _ hg st fun v h' tk hv st' kk=>?_
  obtain⟨t,rfl⟩:=hv
  have I1:Inv X pins σ H {s with heap:=h',toks:=tk}:=I.turned (fun b o hb e=>kk b o (by simpa using hb) e) f0 f1 f3 f4 f5
  refine⟨_,rfl,DZ (s:={s with heap:=h',toks:=tk}) (n:="range_iterator") st' rfl rfl (by decide) ⟨.int (lo+i),H,I1,⟨t,?_⟩,⟨rfl,rfl⟩,st',fun b hb=>(hf b hb).1⟩⟩
  rw[BD]
 done:=by
  intro X hP hw hK hc i pins s σ H E I hf st hg
  subst hP hw hK
  obtain⟨f0,f1,f2,f3,f4,f5⟩:=hf it (by simp)
  exact wpAny_pyNext_range_end (I.ok.hd hc) st (by have:n<=i:=hg;omega) fun h' eb=>⟨rfl,I.turned (t':=s.toks) (fun b o hb e=>eb b o hb e) f0 f1 f3 f4 f5⟩
 self:=fun _ _ _ _ _ st h=>wpAny_pyIter_rangeiter st h
section
variable{X:Cx}{tg:Expr}
def qf(K:PySem.W.Frag)(tl:TE):TI:=fun σ H R=>tl σ H fun x H1=>∃a,x= .ref a/\(∃xs,bh K H1 a xs)/\R (pC K a) H1
theorem Z5{l:Expr}{tl:TE}(hl:PE X l tl):PI X tg l (qf X.K tl):=by
 intro pins s σ H R I h
 refine aP (hl pins s σ H _ I h) fun v s1 ⟨x,H1,I1,r1,q1⟩=>?_
 obtain⟨a,e,⟨xs,hq⟩,q⟩:=q1
 subst e
 cases r1
 obtain⟨its,rv,p,hz⟩:=I1.list hq
 refine wpAny_pyIter_list p.isList ?_
 refine⟨s1.heap.objs.size,[s1.heap.objs.size],_,_,H1,rfl,I1.kept (t':=s1.toks) fun b o e=>cM _ e,ZA a _,⟨_,gh _ rfl,rfl,rfl⟩,fun b hb=>?_,q⟩
 have e:b=s1.heap.objs.size:=by simpa using hb
 subst e
 exact I1.xr (aU _) (I1.hok.fresh (aU _))
theorem Ic{pins:List (Addr×Obj)}{σ:St}{H:Hp}{s:Shared}{R:It->Hp->Prop}{E:Value->Shared->Prop}{lo hi:Int}{t u v:Tok}{tk:Nat}(I:Inv X pins σ H s)(h1: -(2^62)<=lo)(h2:lo<2^62)(h3: -(2^62)<=hi)(h4:hi<2^62)
  (q:R (j9 lo (hi-lo).toNat) H):wpAny (model X.prog X.w) X.A (pyIter (.ref s.heap.objs.size)) (HV X pins σ tg R) E {s with heap:=s.heap.push {cls:= .type "range",data:= .fields #[.int lo t, .int hi u, .int 1 v]},toks:=tk}:=by
 refine wpAny_pyIter_range (IsRange.new ..) (small_one h1 h2 h3 h4) ?_
 have I1:Inv X pins σ H {s with heap:=s.heap.push {cls:= .type "range",data:= .fields #[.int lo t, .int hi u, .int 1 v]},toks:=tk}:=I.kept fun b o e=>cM _ e
 refine⟨(s.heap.push {cls:= .type "range",data:= .fields #[.int lo t, .int hi u, .int 1 v]}).objs.size,[(s.heap.push {cls:= .type "range",data:= .fields #[.int lo t, .int hi u, .int 1 v]}).objs.size],_,_,H,rfl,
  I1.kept (t':=tk) fun b o e=>cM _ e,QL _ lo (hi-lo).toNat,?_,fun b hb=>?_,q⟩
 ·have e1:lo+((0:Nat):Int)*1=lo:=by simp
  have e2:(((hi-lo).toNat:Nat):Int)-((0:Nat):Int)=Builtin.Range.rangeSize lo hi 1:=by rw[rangeSize_one];split<;>omega
  show IsRangeIter _ _ (lo+((0:Nat):Int)*1) ((((hi-lo).toNat:Nat):Int)-((0:Nat):Int)) 1
  rw[e1,e2]
  exact gh _ rfl
 ·have e:b=(s.heap.push {cls:= .type "range",data:= .fields #[.int lo t, .int hi u, .int 1 v]}).objs.size:=by simpa using hb
  subst e
  exact I1.xr (aU _) (I1.hok.fresh (aU _))
def tV(ta:TA):TI:=fun σ H R=>ta σ H fun vs H1=>∃j:Int,vs=[.int j]/\ -(2^62)<=j/\j<2^62/\R (j9 0 j.toNat) H1
def ES(ta:TA):TI:=fun σ H R=>ta σ H fun vs H1=>∃i j:Int,vs=[.int i, .int j]/\(-(2^62)<=i/\i<2^62/\ -(2^62)<=j/\j<2^62)/\R (j9 i (j-i).toNat) H1
theorem o7{a:Expr}{ta:TA}{p pos:Pos}(hg:Gl X "range")(hm:X.mg "range"=none)(ha:PA X [a] ta)(hs:starEach [a] X.env=[(false,eval a X.env)]:=by rfl):PI X tg (.Call (.Name "range" p) [a] [] pos) (tV ta):=by
  intro pins s σ H R I h
  refine Call_ (sN I hg hm boot_range (CJ (aP (ha pos pins s σ H _ I h) fun us s1 ⟨vs,H1,I1,r1,q1⟩=>?_) hs rfl))
  obtain⟨j,e,q1,q2,q⟩:=q1
  subst e
  cases r1 with
  | cons r rr =>
    cases rr
    obtain⟨t,rfl⟩:=r
    exact call_range_1 (Ic I1 (by omega) (by omega) q1 q2 (by simpa using q))
theorem E9{a b:Expr}{ta:TA}{p pos:Pos}(hg:Gl X "range")(hm:X.mg "range"=none)(ha:PA X [a,b] ta)(hs:starEach [a,b] X.env=[(false,eval a X.env),(false,eval b X.env)]:=by rfl)(hs2:starEach [b] X.env=[(false,eval b X.env)]:=by rfl):
    PI X tg (.Call (.Name "range" p) [a,b] [] pos) (ES ta):=by
  intro pins s σ H R I h
  refine Call_ (sN I hg hm boot_range (CJ (aP (ha pos pins s σ H _ I h) fun us s1 ⟨vs,H1,I1,r1,q1⟩=>?_) (by rw[hs,hs2]) (by rw[hs2];rfl)))
  obtain⟨i,j,e,⟨q1,q2,q3,q4⟩,q⟩:=q1
  subst e
  cases r1 with
  | cons r rr =>
    cases rr with
    | cons r' rr =>
      cases rr
      obtain⟨t,rfl⟩:=r
      obtain⟨t',rfl⟩:=r'
      exact call_range_2 (Ic I1 q1 q2 q3 q4 q)
def pQ(wi:TI)(g:TG)(tb:TS):TS:=fun D σ H=>wi σ H fun J H1=>∃W:Nat->Nat->St->Hp->Prop,(∃m,W 0 m σ H1)/\∀i m σ H,W i m σ H->
 (J.stop i H/\D.nx σ H)\/(J.go i H/\∃N:St->Hp->Prop,(∀σ' H',N σ' H'->∃m',m'<m/\W (i+1) m' σ' H')/\∀x H',J.lI i H x H'->g x σ H' fun σ2 H2=>tb {D with nx:=N,ct:=N,bk:=D.nx} σ2 H2)
def uz(fp:List Addr)(h:Heap):List (Addr×Obj):=fp.filterMap fun b=>(h.get? b).map fun o=>(b,o)
theorem yP{fp:List Addr}{h:Heap}{b:Addr}{o:Obj}(hb:b∈fp)(e:h.get? b=some o):(b,o)∈uz fp h:=p8.mpr ⟨b,hb,by rw[e];rfl⟩
theorem Yj{fp:List Addr}{h:Heap}{p:Addr×Obj}(hp:p∈uz fp h):p.1∈fp/\h.get? p.1=some p.2:=by
  obtain⟨b,hb,e⟩:=p8.mp hp
  cases q:h.get? b with
  |none=>rw[q] at e;cases e
  | some o =>
    rw[q] at e
    have e':(b,o)=p:=gf e
    subst e'
    exact⟨hb,q⟩
theorem Inv.pinned{pins:List (Addr×Obj)}{σ:St}{H:Hp}{s:Shared}{fp:List Addr}(I:Inv X pins σ H s)(hf:∀b∈fp,lZ X pins H b)(ho:∀b∈fp,∃o,s.heap.get? b=some o/\∀v,o.data≠ .cell v):Inv X (pins++uz fp s.heap) σ H s:=
 I.Od fun p hp=>(ir.mp hp).elim (fun z=>I.pin p (jH _ z)) fun z=>by
  obtain⟨hb,e⟩:=Yj z
  obtain⟨f0,f1,f2,_⟩:=hf p.1 hb
  obtain⟨o,e',d⟩:=ho p.1 hb
  rw[e] at e';cases e'
  exact⟨e,f0,f1,f2,d⟩
theorem Inv.zW{pins pl:List (Addr×Obj)}{σ:St}{H:Hp}{s:Shared}(I:Inv X (pins++pl) σ H s):Inv X pins σ H s:=I.Od fun p hp=>I.pin p (jH _ (Bp _ hp))
theorem jd{iter:Expr}{body:List Stmt}{wi:TI}{g:TG}{tb:TS}{pos:Pos}(hp:PassesOwn (model X.prog X.w) X.A X.env X.xe)(hc:X.calm=true)(hi:PI X tg iter wi)(hg:PG X tg g)(hb:j8 X body tb)
  (hs:∀x,foldedSetIterable iter X.env x=pure x:=by intro _;rfl):PS X (.For tg iter body [] pos) (pQ wi g tb):=by
 intro pins s σ H D I h
 refine wpAny_For (aP (hi pins s σ H _ I h) fun v s1 h1=>aP h1 fun itv s2 h2=>?_) hs
 obtain⟨it,fp,tn,J,H2,e,I2,T,st2,f2,W,⟨m0,w0⟩,turn⟩:=h2
 subst e
 have oO:∀{H':Hp},(∀b∈fp,H' b=none)->∀b∈fp,lZ X pins H' b:=fun hn b hb=>⟨hn b hb,(f2 b hb).2⟩
 refine codeAny_forLoop_any (fun n s'=>∃i σ' H',Inv X pins σ' H' s'/\tn i s'.heap/\(∀b∈fp,H' b=none)/\W i n σ' H') ?_ m0 ⟨0,σ,H2,I2,st2,fun b hb=>(f2 b hb).1,w0⟩
 rintro n s3 ⟨i,σ3,H3,I3,st3,fr3,w3⟩
 rcases turn i n σ3 H3 w3 with ⟨stop,qn⟩|⟨go,N,hN,step⟩
 ·refine wpAny_passesOwn hp (aP (T.done X rfl rfl rfl hc i pins s3 σ3 H3 X.xe I3 (oO fr3) st3 stop) fun r s4 ⟨hr,I4⟩=>?_)
  subst hr
  exact wpAny_execs_nil ⟨σ3,H3,I4,qn⟩
 ·refine wpAny_passesOwn hp (aP (T.item X rfl rfl rfl hc i pins s3 σ3 H3 X.xe I3 (oO fr3) st3 go) fun r s4 ⟨u,hr,h4⟩=>?_)
  subst hr
  refine wpAny_passesOwn hp (aP h4 fun _ s5 ⟨x,H5,I5,r5,y5,mV,G3⟩=>?_)
  have Ew:=I5.pinned (oO G3) (T.obj _ _ mV)
  refine wpAny_passesOwn hp (aP (hg _ s5 σ3 H5 x u _ Ew r5 (step x H5 y5)) fun _ s6 ⟨uC,H6,I6,q6⟩=>?_)
  refine wpAny_passesOwn hp (aP (hb _ s6 uC H6 _ I6 q6) fun f s7 q7=>?_)
  have again:∀{g9:St} {H7:Hp},Inv X (pins++uz fp s5.heap) g9 H7 s7->N g9 H7->∃m,m<n/\∃i σ' H',Inv X pins σ' H' s7/\tn i s7.heap/\(∀b∈fp,H' b=none)/\W i m σ' H':=fun{g9 H7} I7 n7=>by
   obtain⟨m',hm,w7⟩:=hN g9 H7 n7
   refine⟨m',hm,i+1,g9,H7,I7.zW,T.keep _ _ _ mV fun b hb o e=>(I7.pin (b,o) (jH _ (jH _ (yP hb e)))).1,fun b hb=>?_,w7⟩
   obtain⟨o,e,d⟩:=T.obj _ _ mV b hb
   exact(I7.pin (b,o) (jH _ (jH _ (yP hb e)))).2.1
  cases f with
  |next=>obtain⟨g9,H7,I7,n7⟩:=q7;exact again I7 n7
  |cont=>obtain⟨g9,H7,I7,n7⟩:=q7;exact again I7 n7
  |brk=>obtain⟨g9,H7,I7,q7⟩:=q7;exact⟨g9,H7,I7.zW,q7⟩
  |ret v=>obtain⟨x7,g9,H7,I7,r7,q7⟩:=q7;exact⟨x7,g9,H7,I7.zW,r7,q7⟩
end
theorem GO{K:PySem.W.Frag}{a:Addr}{xs:List V}{g:TG}{tb:TS}{D:Ends}{σ:St}{H:Hp}(Pv:Nat->St->Hp->Prop)(h0:Pv 0 σ H)(hl:∀i σ H,i<=xs.length->Pv i σ H->bh K H a xs)
  (hs:∀i x σ H,xs[i]?=some x->Pv i σ H->g x σ H fun σ2 H2=>tb {D with nx:=Pv (i+1),ct:=Pv (i+1),bk:=D.nx} σ2 H2) (hd:∀σ H,Pv xs.length σ H->D.nx σ H):
  ∃W:Nat->Nat->St->Hp->Prop,(∃m,W 0 m σ H)/\∀i m σ H,W i m σ H->
   ((pC K a).stop i H/\D.nx σ H)\/((pC K a).go i H/\∃N:St->Hp->Prop,(∀σ' H',N σ' H'->∃m',m'<m/\W (i+1) m' σ' H')/\∀x H',(pC K a).lI i H x H'->g x σ H' fun σ2 H2=>tb {D with nx:=N,ct:=N,bk:=D.nx} σ2 H2):=by
 refine⟨fun i m σ H=>m=xs.length-i/\i<=xs.length/\Pv i σ H,⟨xs.length,by simp,g8 _,h0⟩,?_⟩
 rintro i m σ H ⟨rfl,hi,p⟩
 have q:=hl i σ H hi p
 by_cases hlt:i<xs.length
 ·refine .inr ⟨⟨xs,xs[i],q,by simp[hlt]⟩,Pv (i+1),fun σ' H' p'=>⟨xs.length-(i+1),by omega,rfl,hlt,p'⟩,fun x H' y=>?_⟩
  obtain⟨e,y⟩:=y
  subst e
  exact hs i x σ _ (y xs q) p
 ·have e:i=xs.length:=by omega
  subst e
  exact .inl ⟨⟨xs,q,aU _⟩,hd σ H p⟩
theorem J7{lo:Int}{n:Nat}{g:TG}{tb:TS}{D:Ends}{σ:St}{H:Hp}(Pv:Nat->St->Hp->Prop)(h0:Pv 0 σ H)
  (hs:∀i σ H,i<n->Pv i σ H->g (.int (lo+i)) σ H fun σ2 H2=>tb {D with nx:=Pv (i+1),ct:=Pv (i+1),bk:=D.nx} σ2 H2) (hd:∀σ H,Pv n σ H->D.nx σ H):
  ∃W:Nat->Nat->St->Hp->Prop,(∃m,W 0 m σ H)/\∀i m σ H,W i m σ H->
   ((j9 lo n).stop i H/\D.nx σ H)\/((j9 lo n).go i H/\∃N:St->Hp->Prop,(∀σ' H',N σ' H'->∃m',m'<m/\W (i+1) m' σ' H')/\∀x H',(j9 lo n).lI i H x H'->g x σ H' fun σ2 H2=>tb {D with nx:=N,ct:=N,bk:=D.nx} σ2 H2):=by
 refine⟨fun i m σ H=>m=n-i/\i<=n/\Pv i σ H,⟨n,by simp,g8 _,h0⟩,?_⟩
 rintro i m σ H ⟨rfl,hi,p⟩
 by_cases hlt:i<n
 ·refine .inr ⟨hlt,Pv (i+1),fun σ' H' p'=>⟨n-(i+1),by omega,rfl,hlt,p'⟩,fun x H' y=>?_⟩
  obtain⟨e,y⟩:=y
  subst e y
  exact hs i σ _ hlt p
 ·have e:i=n:=by omega
  subst e
  exact .inl ⟨aU _,hd σ H p⟩
theorem abX{c:TT}{tb:TS}{D:Ends}{σ:St}{H:Hp}(Pv:St->Hp->Prop)(μ:St->Hp->Nat)(h0:Pv σ H)
  (hs:∀σ H,Pv σ H->c σ H fun b H1=>if b=true then tb {D with nx:=fun σ' H'=>Pv σ' H'/\μ σ' H'<μ σ H,ct:=fun σ' H'=>Pv σ' H'/\μ σ' H'<μ σ H,bk:=D.nx} σ H1 else D.nx σ H1)
  (mono:∀σ H Q Q',(∀b H1,Q b H1->Q' b H1)->c σ H Q->c σ H Q'):Cv c tb D σ H:=by
 refine⟨fun m σ H=>m=μ σ H/\Pv σ H,⟨_,rfl,h0⟩,?_⟩
 rintro m σ H ⟨rfl,p⟩
 refine mono σ H _ _ (fun b H1 q=>?_) (hs σ H p)
 cases b with
 |true=>exact⟨_,fun σ' H' ⟨p',l⟩=>⟨_,l,rfl,p'⟩,q⟩
 |false=>exact q
abbrev R2:=V->V->Hp->VK->Prop
def dR(X:Cx)(f:Value->Value->Sem Value)(r:R2):Prop:=
 ∀(pins:List (Addr×Obj)) (s:Shared) (σ:St) (H:Hp) (x y:V) (v u:Value) (Q:VK),Inv X pins σ H s->RelV x v->RelV y u->r x y H Q->
  wpAny (model X.prog X.w) X.A (f v u) (EP X pins σ Q) X.xe s
def BL(X:Cx)(f:Value->Sem Value)(r:V->Hp->VK->Prop):Prop:=
 ∀(pins:List (Addr×Obj)) (s:Shared) (σ:St) (H:Hp) (x:V) (v:Value) (Q:VK),Inv X pins σ H s->RelV x v->r x H Q->
  wpAny (model X.prog X.w) X.A (f v) (EP X pins σ Q) X.xe s
def gn(X:Cx)(f:Value)(r:List V->Hp->VK->Prop):Prop:=
 ∀(pins:List (Addr×Obj)) (s:Shared) (σ:St) (H:Hp) (xs:List V) (us:List Value) (Q:VK),Inv X pins σ H s->Vals xs us->r xs H Q->
  wpAny (model X.prog X.w) X.A (call f us) (EP X pins σ Q) X.xe s
def R9(X:Cx)(r:V->Hp->(Bool->Hp->Prop)->Prop):Prop:=
 ∀(pins:List (Addr×Obj)) (s:Shared) (σ:St) (H:Hp) (x:V) (v:Value) (Q:Bool->Hp->Prop),Inv X pins σ H s->RelV x v->r x H Q->
  wpAny (model X.prog X.w) X.A (truthy v) (TP X pins σ Q) X.xe s
def cP(r:R2)(ta tb:TE):TE:=fun σ H Q=>ta σ H fun x H1=>tb σ H1 fun y H2=>r x y H2 Q
def FE(r:V->Hp->VK->Prop)(ta:TE):TE:=fun σ H Q=>ta σ H fun x H1=>r x H1 Q
def rI(C:Int->Int->Prop)(g:Int->Int->V):R2:=fun x y H Q=>∃i j,x= .int i/\y= .int j/\C i j/\Q (g i j) H
def ie(g:Int->Int->V):R2:=fun x y H Q=>∃i j,x= .int i/\y= .int j/\Q (g i j) H
def rU(g:Int->V):V->Hp->VK->Prop:=fun x H Q=>∃i,x= .int i/\Q (g i) H
section
variable{X:Cx}{a b c:Expr}{ta tb tc:TE}{pos:Pos}
theorem EL(ha:PE X a ta)(hb:PE X b tb){pins:List (Addr×Obj)}{s:Shared}{σ:St}{H:Hp}{R:V->V->Hp->Prop}(I:Inv X pins σ H s)
  (h:ta σ H fun x H1=>tb σ H1 fun y H2=>R x y H2) {Q:Value->Shared->Prop} {f:Value->Value->Sem Value}
  (hf:∀v u s2 x y H2,Inv X pins σ H2 s2->RelV x v->RelV y u->R x y H2->wpAny (model X.prog X.w) X.A (f v u) Q X.xe s2):
  wpAny (model X.prog X.w) X.A (eval a X.env) (fun v s₁=>wpAny (model X.prog X.w) X.A (eval b X.env) (fun u s₂=>wpAny (model X.prog X.w) X.A (f v u) Q X.xe s₂) X.xe s₁) X.xe s:=by
 refine aP (ha pins s σ H _ I h) fun v s1 ⟨x,H1,I1,r1,q1⟩=>?_
 refine aP (hb pins s1 σ H1 _ I1 q1) fun u s2 ⟨y,H2,I2,r2,q2⟩=>?_
 exact hf v u s2 x y H2 I2 r1 r2 q2
theorem aM{op:Operator}{r:R2}(ho:dR X (binaryOp op) r)(ha:PE X a ta)(hb:PE X b tb):PE X (.BinOp a op b pos) (cP r ta tb):=by
 intro pins s σ H Q I h
 exact wpAny_BinOp (EL ha hb I h fun v u s2 x y H2 I2 rx ry q=>ho pins s2 σ H2 x y v u Q I2 rx ry q)
theorem R0{op:UnaryOp}{r:V->Hp->VK->Prop}(ho:BL X (unaryOp op) r)(ha:PE X a ta):PE X (.UnaryOp op a pos) (FE r ta):=by
 intro pins s σ H Q I h
 exact UnaryOp_ (aP (ha pins s σ H _ I h) fun v s1 ⟨x,H1,I1,r1,q1⟩=>ho pins s1 σ H1 x v Q I1 r1 q1)
theorem Ba{f:Value->Value->Sem Value}{C:Int->Int->Prop}{g:Int->Int->Int}
  (rule:∀(i j:Int) (t u:Tok) (s:Shared) (Q:Value->Shared->Prop) (E:Value->Shared->Prop),C i j->Q (.int (g i j) s.toks) {s with toks:=s.toks+1}->wpAny (model X.prog X.w) X.A (f (.int i t) (.int j u)) Q E s):
  dR X f (rI C fun i j=> .int (g i j)):=by
 intro pins s σ H x y v u Q I rx ry h
 obtain⟨i,j,rfl,rfl,hc,q⟩:=h
 obtain⟨t,rfl⟩:=rx
 obtain⟨t',rfl⟩:=ry
 exact rule i j t t' s _ _ hc ⟨.int (g i j),H,I.tok _,⟨_,rfl⟩,q⟩
theorem KY{f:Value->Value->Sem Value}{g:Int->Int->Int}
  (rule:∀(i j:Int) (t u:Tok) (s:Shared) (Q:Value->Shared->Prop) (E:Value->Shared->Prop),Q (.int (g i j) s.toks) {s with toks:=s.toks+1}->wpAny (model X.prog X.w) X.A (f (.int i t) (.int j u)) Q E s):
  dR X f (ie fun i j=> .int (g i j)):=by
 intro pins s σ H x y v u Q I rx ry h
 obtain⟨i,j,rfl,rfl,q⟩:=h
 obtain⟨t,rfl⟩:=rx
 obtain⟨t',rfl⟩:=ry
 exact rule i j t t' s _ _ ⟨.int (g i j),H,I.tok _,⟨_,rfl⟩,q⟩
theorem wz{f:Value->Value->Sem Value}{g:Int->Int->Bool}
  (rule:∀(i j:Int) (t u:Tok) (s:Shared) (Q:Value->Shared->Prop) (E:Value->Shared->Prop),Q (.bool (g i j)) s->wpAny (model X.prog X.w) X.A (f (.int i t) (.int j u)) Q E s):
  dR X f (ie fun i j=> .bl (g i j)):=by
 intro pins s σ H x y v u Q I rx ry h
 obtain⟨i,j,rfl,rfl,q⟩:=h
 obtain⟨t,rfl⟩:=rx
 obtain⟨t',rfl⟩:=ry
 exact rule i j t t' s _ _ ⟨.bl (g i j),H,I,rfl,q⟩
def DH(i j:Int):Prop:=0<=j/\j<=1000000/\i.natAbs<2^64
def BA(i j:Int):Prop:=(-(2^64)<i/\i<2^64)\/(-(2^64)<j/\j<2^64)
theorem BA.ok{i j:Int}(h:BA i j):IntMulOk i j:=by
 rcases h with ⟨h1,h2⟩|⟨h1,h2⟩
 ·exact .of_left (intBits_le_64 h1 h2)
 ·exact .of_right (intBits_le_64 h1 h2)
theorem gu:dR X (binaryOp .Add) (ie fun i j=> .int (i+j)):=KY fun _ _ _ _ _ _ _ q=>add_int q
theorem mX:dR X (binaryOp .Sub) (ie fun i j=> .int (i-j)):=KY fun _ _ _ _ _ _ _ q=>sub_int q
theorem i8:dR X (binaryOp .Mod) (rI (fun _ j=>0<j) fun i j=> .int (i%j)):=Ba fun i j _ _ _ _ _ hc q=>by
 have h1:(0:Int)<j:=hc
 exact mod_int' (by omega) (by rw[Int.fmod_eq_emod_of_nonneg i (by omega)];exact q)
theorem wO:dR X (binaryOp .Pow) (rI DH fun i j=> .int (i^j.toNat)):=Ba fun _ _ _ _ _ _ _ hc q=>pow_int_small hc.1 hc.2.1 hc.2.2 q
theorem Sx{f:Value->Sem Value}{g:Int->Int}
  (rule:∀(i:Int) (t:Tok) (s:Shared) (Q:Value->Shared->Prop) (E:Value->Shared->Prop),Q (.int (g i) s.toks) {s with toks:=s.toks+1}->wpAny (model X.prog X.w) X.A (f (.int i t)) Q E s):
  BL X f (rU fun i=> .int (g i)):=by
 intro pins s σ H x v Q I rx h
 obtain⟨i,rfl,q⟩:=h
 obtain⟨t,rfl⟩:=rx
 exact rule i t s _ _ ⟨.int (g i),H,I.tok _,⟨_,rfl⟩,q⟩
theorem SE:BL X (unaryOp .USub) (rU fun i=> .int (-i)):=Sx fun _ _ _ _ _ q=>neg_int q
end
def D9:V->V->Bool
 | .aI, .aI=>true| .aI, .int _=>true| .int _, .aI=>true| .aI, .bl _=>true| .bl _, .aI=>true| .aI, .str _=>true| .str _, .aI=>true
 | .int _, .int _=>true| .bl _, .bl _=>true| .str _, .str _=>true| .jP _, .jP _=>true
 | .int _, .str _=>true| .str _, .int _=>true| .bl _, .str _=>true| .str _, .bl _=>true
 |_,_=>false
def yz:R2:=fun x y H Q=>D9 x y=true/\Q (.bl (decide (x=y))) H
def Ej:R2:=fun x y H Q=>D9 x y=true/\Q (.bl (!decide (x=y))) H
theorem J1{i j:Int}:decide (V.int i=V.int j)=(i==j):=by
 rw[m7]
 simp
theorem Io{i j:Bool}:decide (V.bl i=V.bl j)=(i==j):=by
 rw[m7]
 simp
theorem LF{i j:Str}:decide (V.str i=V.str j)=(i==j):=by
 rw[m7]
 simp
theorem OR{i j:Array UInt8}:decide (V.jP i=V.jP j)=(i.toList==j.toList):=by
 rw[m7]
 cases i
 cases j
 simp
section
variable{X:Cx}{a b c:Expr}{ta tb tc:TE}{pos:Pos}
theorem dO{pins:List (Addr×Obj)}{σ:St}{H:Hp}{s:Shared}{Q:VK}{k k':Bool}(I:Inv X pins σ H s)(q:Q (.bl k) H)(e:k=k'):EP X pins σ Q (.bool k') s:=by
 subst e
 exact⟨.bl k,H,I,rfl,q⟩
theorem gX:dR X (compareOp .Eq) yz:=by
  intro pins s σ H x y v u Q I rx ry h
  obtain⟨hs,q⟩:=h
  cases x with
  | aI =>
    cases rx
    cases y with
    |aI=>cases ry;exact PySem.EqNone.eq_none_none (dO I q (by simp))
    |bl j=>cases ry;exact PySem.EqNone.eq_none_bool (dO I q (by simp))
    |int j=>obtain⟨t',rfl⟩:=ry;exact PySem.EqNone.eq_none_int (dO I q (by simp))
    |str j=>obtain⟨t',rfl⟩:=ry;exact PySem.EqNone.eq_none_str (dO I q (by simp))
    |_=>exact absurd (show false=true from hs) bV
  | bl i =>
    cases rx
    cases y with
    |aI=>cases ry;exact PySem.EqNone.eq_bool_none (dO I q (by simp))
    |bl j=>cases ry;exact eq_bool (dO I q Io)
    |str j=>obtain⟨t',rfl⟩:=ry;exact PySem.EqMixed.eq_bool_str (dO I q (by simp))
    |_=>exact absurd (show false=true from hs) bV
  | int i =>
    obtain⟨t,rfl⟩:=rx
    cases y with
    |aI=>cases ry;exact PySem.EqNone.eq_int_none (dO I q (by simp))
    |int j=>obtain⟨t',rfl⟩:=ry;exact eq_int (dO I q J1)
    |str j=>obtain⟨t',rfl⟩:=ry;exact PySem.EqMixed.eq_int_str (dO I q (by simp))
    |_=>exact absurd (show false=true from hs) bV
  | str i =>
    obtain⟨t,rfl⟩:=rx
    cases y with
    |aI=>cases ry;exact PySem.EqNone.eq_str_none (dO I q (by simp))
    |bl j=>cases ry;exact PySem.EqMixed.eq_str_bool (dO I q (by simp))
    |int j=>obtain⟨t',rfl⟩:=ry;exact PySem.EqMixed.eq_str_int (dO I q (by simp))
    |str j=>obtain⟨t',rfl⟩:=ry;exact eq_str (dO I q LF)
    |_=>exact absurd (show false=true from hs) bV
  | jP i =>
    obtain⟨t,rfl⟩:=rx
    cases y with
    |jP j=>obtain⟨t',rfl⟩:=ry;exact PySem.W.eq_bytes (dO I q OR)
    |_=>exact absurd (show false=true from hs) bV
  |_=>cases y<;>exact absurd (show false=true from hs) bV
theorem nk:dR X (compareOp .NotEq) Ej:=by
  intro pins s σ H x y v u Q I rx ry h
  obtain⟨hs,q⟩:=h
  cases x with
  | aI =>
    cases rx
    cases y with
    |aI=>cases ry;exact PySem.EqNone.ne_none_none (dO I q (by simp))
    |bl j=>cases ry;exact PySem.EqNone.ne_none_bool (dO I q (by simp))
    |int j=>obtain⟨t',rfl⟩:=ry;exact PySem.EqNone.ne_none_int (dO I q (by simp))
    |str j=>obtain⟨t',rfl⟩:=ry;exact PySem.EqNone.ne_none_str (dO I q (by simp))
    |_=>exact absurd (show false=true from hs) bV
  | bl i =>
    cases rx
    cases y with
    |aI=>cases ry;exact PySem.EqNone.ne_bool_none (dO I q (by simp))
    |bl j=>cases ry;exact ne_bool (dO I q (congrArg not Io))
    |str j=>obtain⟨t',rfl⟩:=ry;exact PySem.EqMixed.ne_bool_str (dO I q (by simp))
    |_=>exact absurd (show false=true from hs) bV
  | int i =>
    obtain⟨t,rfl⟩:=rx
    cases y with
    |aI=>cases ry;exact PySem.EqNone.ne_int_none (dO I q (by simp))
    |int j=>obtain⟨t',rfl⟩:=ry;exact ne_int (dO I q (congrArg not J1))
    |str j=>obtain⟨t',rfl⟩:=ry;exact PySem.EqMixed.ne_int_str (dO I q (by simp))
    |_=>exact absurd (show false=true from hs) bV
  | str i =>
    obtain⟨t,rfl⟩:=rx
    cases y with
    |aI=>cases ry;exact PySem.EqNone.ne_str_none (dO I q (by simp))
    |bl j=>cases ry;exact PySem.EqMixed.ne_str_bool (dO I q (by simp))
    |int j=>obtain⟨t',rfl⟩:=ry;exact PySem.EqMixed.ne_str_int (dO I q (by simp))
    |str j=>obtain⟨t',rfl⟩:=ry;exact ne_str (dO I q (congrArg not LF))
    |_=>exact absurd (show false=true from hs) bV
  | jP i =>
    obtain⟨t,rfl⟩:=rx
    cases y with
    |jP j=>obtain⟨t',rfl⟩:=ry;exact PySem.W.ne_bytes (dO I q (congrArg not OR))
    |_=>exact absurd (show false=true from hs) bV
  |_=>cases y<;>exact absurd (show false=true from hs) bV
theorem rQ:dR X (compareOp .Lt) (ie fun i j=> .bl (decide (i<j))):=wz fun _ _ _ _ _ _ _ q=>lt_int q
theorem zQ:dR X (compareOp .LtE) (ie fun i j=> .bl (decide (i<=j))):=wz fun _ _ _ _ _ _ _ q=>le_int q
theorem VF:dR X (compareOp .Gt) (ie fun i j=> .bl (decide (j<i))):=wz fun _ _ _ _ _ _ _ q=>gt_int q
theorem BU:dR X (compareOp .GtE) (ie fun i j=> .bl (decide (j<=i))):=wz fun _ _ _ _ _ _ _ q=>ge_int q
theorem aaf:dR X (compareOp .Is) (fun x y H Q=>y= .aI/\Q (.bl (decide (x= .aI))) H):=by
 intro pins s σ H x y v u Q I rx ry h
 obtain⟨rfl,q⟩:=h
 cases ry
 refine is_none_gen (dO I q ?_)
 cases x<;>first
  |(cases rx;rfl)
  |(obtain⟨t,rfl⟩:=rx;rfl)
theorem SJ:dR X (compareOp .IsNot) (fun x y H Q=>y= .aI/\Q (.bl (!decide (x= .aI))) H):=by
 intro pins s σ H x y v u Q I rx ry h
 obtain⟨rfl,q⟩:=h
 cases ry
 refine isnot_none_gen (dO I q ?_)
 cases x<;>first
  |(cases rx;rfl)
  |(obtain⟨t,rfl⟩:=rx;rfl)
theorem br(b:Expr){op:CmpOp}(h:op≠ .In:=by decide)(h2:op≠ .NotIn:=by decide):behindInMarks op b=false:=by
 have e1:(op==CmpOp.In)=false:=by cases op<;>first|rfl|exact absurd rfl h
 have e2:(op==CmpOp.NotIn)=false:=by cases op<;>first|rfl|exact absurd rfl h2
 cases b<;>simp[behindInMarks,e1,e2]
theorem oG{op:CmpOp}{r:R2}(ho:dR X (compareOp op) r)(ha:PE X a ta)(hb:PE X b tb)(hm:behindInMarks op b=false):PE X (.Compare a [op] [b] pos) (cP r ta tb):=by
 intro pins s σ H Q I h
 exact wpAny_Compare1 (EL ha hb I h fun v u s2 x y H2 I2 rx ry q=>ho pins s2 σ H2 x y v u Q I2 rx ry q) hm
def uK(t:TE):TT:=fun σ H Q=>t σ H fun x H'=>∃k,x= .bl k/\Q k H'
theorem bA{op:CmpOp}{r:R2}(ho:dR X (compareOp op) r)(ha:PE X a ta)(hb:PE X b tb)(hm:behindInMarks op b=false):PT X (.Compare a [op] [b] pos) (uK (cP r ta tb)):=by
 intro pins s σ H Q I h
 refine wpAny_isTrue_Compare1 (aP (ha pins s σ H _ I h) fun v s1 ⟨x,H1,I1,r1,q1⟩=>aP (hb pins s1 σ H1 _ I1 q1) fun u s2 ⟨y,H2,I2,r2,q2⟩=>
  aP (ho pins s2 σ H2 x y v u _ I2 r1 r2 q2) fun c s3 ⟨z,H3,I3,r3,k,e,q3⟩=>?_) hm
 subst e
 cases r3
 exact wpAny_truthy_bool ⟨H3,I3,q3⟩
def BR(K:PySem.W.Frag)(x:V)(H:Hp)(k:Bool):Prop:=
 match x with
 | .aI=>k=false
 | .bl b=>k=b
 | .int i=>k=(i !=0)
 | .str y=>y.length<=sizeLine/\k=((y.length:Int) !=0)
 | .jP y=>y.size<=sizeLine/\k=((y.size:Int) !=0)
 | .ref p=>(∃xs,bh K H p xs/\k=!xs.isEmpty)\/(∃xs,gY K H p xs/\k=!xs.isEmpty)\/∃kvs,H p=some (.dK kvs)/\k=!kvs.isEmpty
 |_=>False
theorem Rk{κ:Type}{kvs:List (κ×V)}{vs:List (κ×Value)}(r:KV kvs vs):(!vs.isEmpty)=!kvs.isEmpty:=by
 cases r<;>rfl
theorem LA{xs:List V}{its:List Value}(r:Vals xs its):(!its.toArray.isEmpty)=!xs.isEmpty:=by
 cases r<;>simp
theorem sG:(sizeLine:Nat)<2^63:=by rw[sizeLine_eq];decide
theorem Vq:R9 X (fun x H Q=>∃k,BR X.K x H k/\Q k H):=by
  intro pins s σ H x v Q I rx h
  obtain⟨k,e,q⟩:=h
  have hl:=sG
  have hs:sizeLine=16777216:=sizeLine_eq
  cases x with
  | aI =>
    cases rx
    have e':k=false:=e
    subst e'
    exact truthy_none ⟨H,I,q⟩
  | bl b =>
    cases rx
    have e':k=b:=e
    subst e'
    exact wpAny_truthy_bool ⟨H,I,q⟩
  | int i =>
    obtain⟨t,rfl⟩:=rx
    have e':k=(i !=0):=e
    subst e'
    exact PySem.P.truthy_int ⟨H,I,q⟩
  | str y =>
    obtain⟨t,rfl⟩:=rx
    obtain⟨hy,e'⟩:y.length<=sizeLine/\k=((y.length:Int) !=0):=e
    subst e'
    exact PySem.P.truthy_str (by omega) ⟨H,I.tok _,q⟩
  | jP y =>
    obtain⟨t,rfl⟩:=rx
    obtain⟨hy,e'⟩:y.size<=sizeLine/\k=((y.size:Int) !=0):=e
    subst e'
    exact PySem.W.truthy_bytes (by omega) ⟨H,I.tok _,q⟩
  | ref p =>
    cases rx
    have e':(∃xs,bh X.K H p xs/\k=!xs.isEmpty)\/(∃xs,gY X.K H p xs/\k=!xs.isEmpty)\/∃kvs,H p=some (.dK kvs)/\k=!kvs.isEmpty:=e
    rcases e' with ⟨xs,hx,e'⟩|⟨xs,hx,e'⟩|⟨kvs,hx,e'⟩
    · subst e'
      obtain⟨its,r,pl,hz⟩:=I.list hx
      have hlen:=r.length
      exact wpAny_truthy_list pl.isList (by simp only[dZ];omega) ⟨H,I.tok _,by rw[LA r];exact q⟩
    · subst e'
      obtain⟨its,r,pl,hz⟩:=I.tuple hx
      have hlen:=r.length
      exact truthy_tuple pl (by simp only[dZ];omega) ⟨H,I.tok _,by rw[LA r];exact q⟩
    · subst e'
      obtain⟨hz,hS,vs,r,m⟩:kvs.length<=sizeLine/\(p==sysModules)=false/\∃vs,KV kvs vs/\s.heap.DictOf (gk X.prog X.w) p vs:=I.hok p _ hx
      have hlen:kvs.length=vs.length:=Paired.length r
      exact wpAny_truthy_dict hS m (by omega) ⟨H,I.tok _,by rw[Rk r];exact q⟩
  |_=>exact(show False from e).elim
theorem V5(ha:PE X a ta)(he:∀whole,isTrue a X.env whole=(do let v<-whole;standAt a.pos;holding [v] (truthy v))):
  PT X a (fun σ H Q=>ta σ H fun x H'=>∃k,BR X.K x H' k/\Q k H'):=by
 intro pins s σ H Q I h
 exact isTrue_plain (aP (ha pins s σ H _ I h) fun v s1 ⟨x,H1,I1,r1,q1⟩=>Vq pins s1 σ H1 x v Q I1 r1 q1) (he _)
theorem vals1{x:V}{us:List Value}(r:Vals [x] us):∃u,us=[u]/\RelV x u:=by
 cases r with
 |cons r1 r2=>cases r2;exact⟨_,rfl,r1⟩
theorem vals2{x y:V}{us:List Value}(r:Vals [x,y] us):∃u w',us=[u,w']/\RelV x u/\RelV y w':=by
  cases r with
  | cons r1 r2 =>
    cases r2 with
    |cons r3 r4=>cases r4;exact⟨_,_,rfl,r1,r3⟩
theorem Rg:gn X (.builtin "abs") (fun xs H Q=>∃i,xs=[.int i]/\Q (.int (if i<0 then-i else i)) H):=by
 intro pins s σ H xs us Q I r h
 obtain⟨i,rfl,q⟩:=h
 obtain⟨u,rfl,t,rfl⟩:=vals1 r
 exact call_abs_int fun u tk=>⟨.int (if i<0 then-i else i),H,I.tok _,⟨_,rfl⟩,q⟩
theorem VY(hc:X.calm=true):gn X (.builtin "min") (fun xs H Q=>∃i j,xs=[.int i, .int j]/\Q (.int (if j<i then j else i)) H):=by
 intro pins s σ H xs us Q I r h
 obtain⟨i,j,rfl,q⟩:=h
 obtain⟨u,w',rfl,⟨t,rfl⟩,⟨t',rfl⟩⟩:=vals2 r
 refine min_two_ints (I.ok.hd hc) fun h' tk k=>⟨_,H,I.kept k,?_,q⟩
 by_cases hj:j<i
 ·rw[if_pos hj,if_pos hj];exact⟨_,rfl⟩
 ·rw[if_neg hj,if_neg hj];exact⟨_,rfl⟩
theorem WW:gn X (.type "int") (fun xs H Q=>(∃i,xs=[.int i]/\Q (.int i) H)\/∃k,xs=[.bl k]/\Q (.int (if k then 1 else 0)) H):=by
 intro pins s σ H xs us Q I r h
 rcases h with ⟨i,rfl,q⟩|⟨k,rfl,q⟩
 ·obtain⟨u,rfl,t,rfl⟩:=vals1 r
  exact call_int_int ⟨.int i,H,I,⟨_,rfl⟩,q⟩
 ·obtain⟨u,rfl,r1⟩:=vals1 r
  cases r1
  exact call_int_bool ⟨.int (if k then 1 else 0),H,I.tok _,⟨_,rfl⟩,q⟩
end
structure pe(h:Heap)(x dx C:Addr)(mA:Str->Option Value):Prop where
 obj:h.get? x=some (PySem.W.instObj C dx)
 ns:h.Ns1 dx mA
 ne:dx≠x
theorem VA{h:Heap}{dx:Addr}{mA:Str->Option Value}(n:h.Ns1 dx mA):∃od,h.get? dx=some od/\∀name,PySem.W.lookIn name od=some (mA name):=by
 obtain⟨o,es,ep,ho,hd,hk,_,hm⟩:=n
 refine⟨o,ho,fun name=>?_⟩
 have e:=hm name
 unfold nsFind findBy at e
 rw[<-Array.find?_toList] at e
 unfold PySem.W.lookIn
 rw[hd]
 dsimp only
 split
 ·rename_i y q
  rw[q] at e
  exact congrArg some e
 ·rename_i q
  rw[q] at e
  have a:es.toList.any (·.refKey)=false:=by
   rw[List.any_eq_false]
   intro y hy
   obtain⟨z,t,hkey⟩:=hk y (Array.mem_toList_iff.mp hy)
   simp[DictEntry.refKey,hkey]
  have a':¬es.toList.any (·.refKey)=true:=by rw[a];exact bV
  rw[if_neg a']
  exact congrArg some e
theorem pe.look{h:Heap}{x dx C:Addr}{mA:Str->Option Value}(I:pe h x dx C mA):∃od,PySem.W.InstAt h x (PySem.W.instObj C dx) C (some od)/\∀name,PySem.W.lookIn name od=some (mA name):=
 let ⟨od,ho,hl⟩:=VA I.ns
 ⟨od,⟨I.obj,rfl,rfl,ho⟩,hl⟩
section
variable{prog:Program}{w:World}{A:Around}{E:Value->Shared->Prop}{s:Shared}{K:PySem.W.Frag}{x dx C f:Addr}{mA:Str->Option Value}{name:Str}{v:Value}
theorem get_map{expr:Bool}{Q:Value->Shared->Prop}(X:K.In s.heap)(I:pe s.heap x dx C mA)(hg:PySem.W.plainGet K C name=true)(hh:PySem.W.hasDictIn K C=true)
  (ha:PySem.W.findIn K (.ref C) name=some none) (hv:mA name=some v) (hv':PySem.W.handedIn v=true) (h:Q v {s with toks:=s.toks+1}):
  wpAny (model prog w) A (getAttr (.ref x) name expr) Q E s:=by
 obtain⟨od,J,hl⟩:=I.look
 exact PySem.W.get_value X J (E4 hg).1 (PySem.W.findObj_own hh ha rfl (by rw[hl,hv])) hv' h
theorem QZ{pl:Sem Bool}{Q:Value×List Value->Shared->Prop}(X:K.In s.heap)(I:pe s.heap x dx C mA)(hg:PySem.W.plainGet K C name=true)
  (hf:PySem.W.findIn K (.ref C) name=some (some (.ref f))) (ht:PySem.W.isFn K (.ref f)=true) (hv:mA name=none) (h:Q (.ref f,[.ref x]) s):
  wpAny (model prog w) A (getMethod (.ref x) name pl) Q E s:=by
 obtain⟨od,J,hl⟩:=I.look
 exact PySem.W.method_fn X J (E4 hg).1 (E4 hg).2 hf (beq_iff_eq.mp ht) (by show(PySem.W.lookIn name od).map (·.isSome)=some false;rw[hl,hv];rfl) h
theorem Vd{ns:List Str}{Q:Unit->Shared->Prop}(X:K.In s.heap)(I:pe s.heap x dx C mA)
  (hs:PySem.W.findIn K (.ref C) "__setattr__"=some (some (.builtin "object.__setattr__"))) (hp:PySem.W.plainOver K C=true) (ht:PySem.W.takerIn K C name=some none) (hh:PySem.W.hasDictIn K C=true)
  (hw:PySem.Within mA ns) (hsz:ns.length<=sizeLine)
  (h:∀h',pe h' x dx C (fun y=>if y=name then some v else mA y)->Heap.SameBut dx s.heap h'->Q () {s with heap:=h',toks:=s.toks+2}):
  wpAny (model prog w) A (setAttr (.ref x) name v) Q E s:=by
 obtain⟨od,J,hl⟩:=I.look
 refine PySem.W.set_plain X J hs (PySem.W.osa_open (s:={s with toks:=s.toks+1}) (r:=none) X J hp ht fun b=>?_)
 obtain⟨cd,hc,hd'⟩:=PySem.W.any_some hh
 have hx:s.heap.get? x=some ⟨.ref C,some dx, .plain,#[]⟩:=I.obj
 refine wpAny_bind (wpAny_pure (wpAny_bind (wpAny_bind (wpAny_loadPart hx (wpAny_bind (PySem.W.Looks.here (s:={s with toks:=s.toks+1}) (PySem.W.looks_clsIn X hc) ?_))))))
 rw[hd']
 refine wpAny_pure (a:=some dx) (wpAny_bind (wpAny_pure (wpAny_bind ?_)))
 refine wpAny_nsSet1 (s:={s with toks:=s.toks+1}) I.ns fun h' hn2 hs2=>?_
 obtain⟨oD,esD,epD,SK,RP,hcD⟩:=hn2.count (PySem.Within.cons name v hw)
 refine wpAny_bind (wpAny_lookBehind SK (by rw[RP];exact pastItsLine_dict (cG hcD (by rw[fG];omega))) ?_)
 exact wpAny_pure (h _ ⟨(hs2.2 _ (cX I.ne)).trans I.obj,hn2,I.ne⟩ hs2)
theorem abJ{R:Result->Shared->Prop}{vs:List Value}{kw:List (Str×Value)}(X:K.In s.heap)(hm:PySem.W.makesIn K C=true)
  (hi:PySem.W.findIn K (.ref C) "__init__"=some (some (.ref f))) (hf:PySem.W.typeIn K (.ref f)=some (.type "function"))
  (h : codeAny (model prog w) (A.under (.builtin "type.__call__" ⟨.ref C :: vs, kw⟩)) (.call (.ref f) ⟨.ref (s.heap.objs.size + 1) :: vs, kw⟩) (PySem.W.InitBack (s.heap.objs.size + 1) R)
   {s with heap:=(s.heap.push PySem.W.emptyDict).push (PySem.W.instObj C s.heap.objs.size)}):
  codeAny (model prog w) A (.call (.ref C) ⟨vs,kw⟩) R s:=by
 obtain⟨hh,g,d,t,os⟩:=s
 exact PySem.W.make_core (PySem.W.makes_of X hm) (PySem.W.looks_findIn X hi) (fun self=>PySem.W.bind_fn X self hf) (.inl rfl) h
end
def fR(f:Str)(v:V):List (Str×V)->List (Str×V)
 |[]=>[(f,v)]
 |(g,x)::r=>if g=f then(g,v)::r else(g,x)::fR f v r
theorem JD(f g:Str)(v:V):∀fs:List (Str×V),(fR f v fs).lookup g=if g=f then some v else fs.lookup g
  | [] => by
    show List.lookup g [(f,v)]=_
    by_cases h:g=f
    · have hb:(g==f)=true:=beq_iff_eq.mpr h
      simp only[List.lookup,hb,if_pos h]
    · have hb:(g==f)=false:=beq_eq_false_iff_ne.mpr h
      simp only[List.lookup,hb,if_neg h]
  | (k, x) :: r => by
    have ih:=JD f g v r
    rw[show fR f v ((k,x)::r)=(if k=f then(k,v)::r else(k,x)::fR f v r) from rfl]
    by_cases hk:k=f
    · rw[if_pos hk]
      by_cases h:g=k
      · have hb:(g==k)=true:=beq_iff_eq.mpr h
        simp only[List.lookup,hb,if_pos (h.trans hk)]
      · have hb:(g==k)=false:=beq_eq_false_iff_ne.mpr h
        simp only[List.lookup,hb,if_neg (fun e:g=f=>h (e.trans hk.symm))]
    · rw[if_neg hk]
      by_cases h:g=k
      · have hb:(g==k)=true:=beq_iff_eq.mpr h
        simp only[List.lookup,hb,if_neg (fun e:g=f=>hk (h.symm.trans e))]
      · have hb:(g==k)=false:=beq_eq_false_iff_ne.mpr h
        simp only[List.lookup,hb]
        exact ih
theorem Gf(f:Str)(v:V):∀fs:List (Str×V),f∈(fR f v fs).map (·.1)/\∀g,g∈fs.map (·.1)->g∈(fR f v fs).map (·.1)
  |[]=>⟨by simp[fR],fun g h=>by simp at h⟩
  | (k, x) :: r => by
    obtain⟨i1,i2⟩:=Gf f v r
    rw[show fR f v ((k,x)::r)=(if k=f then(k,v)::r else(k,x)::fR f v r) from rfl]
    by_cases hk:k=f
    · rw[if_pos hk]
      subst hk
      exact⟨by simp,fun g h=>by simpa using h⟩
    · rw[if_neg hk]
      refine⟨?_,fun g h=>?_⟩
      · rw[bL]
        exact bX _ i1
      · rw[bL] at h⊢
        rcases aL.mp h with e|e
        · exact aL.mpr (.inl e)
        · exact bX _ (i2 g e)
theorem Le(f:Str)(v:V):∀fs:List (Str×V),(fR f v fs).length<=fs.length+1
  |[]=>by simp[fR]
  | (k, x) :: r => by
    have ih:=Le f v r
    rw[show fR f v ((k,x)::r)=(if k=f then(k,v)::r else(k,x)::fR f v r) from rfl]
    by_cases hk:k=f
    · rw[if_pos hk,fG,fG];omega
    · rw[if_neg hk,fG,fG];omega
theorem iY.some_of{v:V}{o:Option Value}(r:iY (some v) o):∃u,o=some u/\RelV v u:=by
 cases o with
 |none=>exact(show False from r).elim
 |some u=>exact⟨u,rfl,r⟩
theorem iY.none_of{o:Option Value}(r:iY none o):o=none:=by
 cases o with
 |none=>rfl
 |some u=>exact(show False from r).elim
theorem aaR{v:V}{u:Value}(r:RelV v u):PySem.W.handedIn u=true:=by
 cases v with
 |aI=>cases (show u=Value.none from r);rfl
 |bl b=>cases (show u=Value.bool b from r);rfl
 |int i=>obtain⟨t,e⟩:=(show∃t,u=Value.int i t from r);cases e;rfl
 |str x=>obtain⟨t,e⟩:=(show∃t,u=Value.str x t from r);cases e;rfl
 |jP b=>obtain⟨t,e⟩:=(show∃t,u=Value.bytes b t from r);cases e;rfl
 |lF b=>obtain⟨t,e⟩:=(show∃t,u=Value.float b t from r);cases e;rfl
 |ref a=>cases (show u=Value.ref a from r);rfl
 |ty n=>cases (show u=Value.type n from r);rfl
section
variable{P:Program}{w:World}{H H':Hp}{h h':Heap}{a C dx:Addr}{fs fs':List (Str×V)}
theorem w5(hok:dX P w H h)(e:H a=some (.ins C dx fs)):∃mA,pe h a dx C mA/\(∀f,iY (fs.lookup f) (mA f))/\PySem.Within mA (fs.map (·.1))/\fs.length<=1000/\H dx=some (.own a):=by
 obtain⟨d,z,ne,ob,mA,n,r,q⟩:=(show cF P w H h a (.ins C dx fs) from hok a _ e)
 exact⟨mA,⟨ob,n,ne⟩,r,q,z,d⟩
end
structure cg(K:PySem.W.Frag)(C:Addr):Prop where
 pg:PySem.W.plainGet K C Str.empty=true
 hd:PySem.W.hasDictIn K C=true
 po:PySem.W.plainOver K C=true
 sa:PySem.W.findIn K (.ref C) "__setattr__"=some (some (.builtin "object.__setattr__"))
theorem cg.get{K:PySem.W.Frag}{C:Addr}(c:cg K C)(f:Str):PySem.W.plainGet K C f=true:=c.pg
def aT(K:PySem.W.Frag)(C:Addr)(f:Str):Prop:=PySem.W.findIn K (.ref C) f=some none
theorem aT.aao{K:PySem.W.Frag}{C:Addr}{f:Str}(n:aT K C f):PySem.W.takerIn K C f=some none:=by
 unfold PySem.W.takerIn
 rw[show PySem.W.findIn K (.ref C) f=some none from n]
 rfl
structure Meth(K:PySem.W.Frag)(C:Addr)(m:Str)(f:Addr):Prop where
 at_:PySem.W.findIn K (.ref C) m=some (some (.ref f))
 fn:PySem.W.isFn K (.ref f)=true
 kp:PySem.W.keepIn K (.ref f)=true
section
variable{X:Cx}{pins:List (Addr×Obj)}{σ:St}{H:Hp}{s:Shared}{a C dx:Addr}{fs:List (Str×V)}{f:Str}{v:V}{A:Around}{E:Value->Shared->Prop}
theorem aa0{b:Bool}{Q:Value->Shared->Prop}(I:Inv X pins σ H s)(e:H a=some (.ins C dx fs))(c:cg X.K C)(n:aT X.K C f)(l:fs.lookup f=some v)
  (h:∀u s',Inv X pins σ H s'->RelV v u->Q u s'):wpAny (model X.prog X.w) A (getAttr (.ref a) f b) Q E s:=by
 obtain⟨mA,O,r,_,_,_⟩:=w5 I.hok e
 obtain⟨u,hu,ru⟩:=iY.some_of (v:=v) (o:=mA f) (by rw[<-l];exact r f)
 exact get_map I.dI O (c.get f) c.hd n hu (aaR ru) (h u _ (I.tok _) ru)
theorem De{m:Str}{g:Addr}{pl:Sem Bool}{Q:Value×List Value->Shared->Prop}(I:Inv X pins σ H s)(e:H a=some (.ins C dx fs))(c:cg X.K C)(k:Meth X.K C m g)(l:fs.lookup m=none)
  (h:Q (.ref g,[.ref a]) s):wpAny (model X.prog X.w) A (getMethod (.ref a) m pl) Q E s:=by
 obtain⟨mA,O,r,_,_,_⟩:=w5 I.hok e
 have hn:mA m=none:=iY.none_of (by rw[<-l];exact r m)
 exact QZ I.dI O (c.get m) k.at_ k.fn hn h
theorem ZD{y:V}{u:Value}{Q:Unit->Shared->Prop}(I:Inv X pins σ H s)(e:H a=some (.ins C dx fs))(c:cg X.K C)(n:aT X.K C f)(hl:fs.length<1000)(ry:RelV y u)
  (h:∀s',Inv X pins σ (upd H a (.ins C dx (fR f y fs))) s'->Q () s'):wpAny (model X.prog X.w) A (setAttr (.ref a) f u) Q E s:=by
 obtain⟨mA,O,r,wi,_,ho⟩:=w5 I.hok e
 have hz:(fs.map (·.1)).length<=sizeLine:=by rw[ao,sizeLine_eq];omega
 refine Vd I.dI O c.sa c.po n.aao c.hd wi hz fun h' O' sb=>h _ ?_
 have hd:∃o,h'.get? dx=some o:=let ⟨o,_,_,e',_⟩:=O'.ns;⟨o,e'⟩
 refine I.write (x:=a) (e:=dx) (by rw[e];exact True.intro) (.inr ho) (fun b q hb z=>(sb.2 b hb).trans z) hd ?_
 refine⟨by rw[aB O.ne];exact ho,?_,O.ne,O'.obj,_,O'.ns,fun g=>?_,fun g hg=>?_⟩
 ·have:=Le f y fs;omega
 ·show iY ((fR f y fs).lookup g) (if g=f then some u else mA g)
  rw[JD]
  by_cases q:g=f
  ·rw[if_pos q,if_pos q];exact ry
  ·rw[if_neg q,if_neg q];exact r g
 ·by_cases q:g=f
  ·rw[q];exact(Gf f y fs).1
  ·refine(Gf f y fs).2 g (wi g fun z=>hg ?_)
   show(if g=f then some u else mA g)=none
   rw[if_neg q];exact z
theorem Inv.made(I:Inv X pins σ H s):Inv X pins σ (upd (upd H s.heap.objs.size (.own (s.heap.objs.size+1))) (s.heap.objs.size+1) (.ins C s.heap.objs.size []))
  {s with heap:=(s.heap.push PySem.W.emptyDict).push (PySem.W.instObj C s.heap.objs.size)}:=by
 have e1:(s.heap.push PySem.W.emptyDict).get? s.heap.objs.size=some PySem.W.emptyDict:=gh s.heap rfl
 have e2:((s.heap.push PySem.W.emptyDict).push (PySem.W.instObj C s.heap.objs.size)).get? (s.heap.objs.size+1)=some (PySem.W.instObj C s.heap.objs.size):=by
  have:=gh (s.heap.push PySem.W.emptyDict) (o:=PySem.W.instObj C s.heap.objs.size) rfl
  rwa[lR] at this
 have e3:(s.heap.push PySem.W.emptyDict).Ns s.heap.objs.size (fun _=>none):=⟨PySem.W.emptyDict,#[],_,e1,rfl,(fun e he=>absurd he (by simp)),fun _=>rfl⟩
 have I1:=I.laid (a:=s.heap.objs.size) (o:= .own (s.heap.objs.size+1)) (h':=s.heap.push PySem.W.emptyDict) (t':=s.toks) (fun b u q=>cM _ q) (aU _) ⟨_,e1⟩
 refine I1.laid (a:=s.heap.objs.size+1) (o:= .ins C s.heap.objs.size []) (t':=s.toks) (fun b u q=>cM _ q) (tw (lR _ _)) ?_
 have ne:s.heap.objs.size≠s.heap.objs.size+1:=eG (o5 _)
 refine⟨by rw[aB ne,aQ],g8 _,ne,e2,fun _=>none,(Heap.Ns1.of_empty e3).at fun o q=>cM _ q,fun _=>True.intro,fun y hy=>absurd rfl hy⟩
theorem Z0{prog:Program}{w:World}{env:Env}{e:Expr}{f:Str}{pos:Pos}{s:Shared}{Q:Value->Shared->Prop}(hb:attributeBase e f env (eval e env)=eval e env)
  (h:wpAny (model prog w) A (eval e env) (fun o s₁=>wpAny (model prog w) A (getAttr o f true) Q E s₁) E s):wpAny (model prog w) A (eval (.Attribute e f pos) env) Q E s:=
 Attribute_any_ h (by rw[arm_eval_Attribute,hb])
end
def iZ(K:PySem.W.Frag)(ta:TE)(f:Str):TE:=fun σ H Q=>ta σ H fun x H1=>∃a C dx fs v,x= .ref a/\H1 a=some (.ins C dx fs)/\cg K C/\aT K C f/\fs.lookup f=some v/\Q v H1
def sF(K:PySem.W.Frag)(ta tv:TE)(f:Str):TS:=fun D σ H=>tv σ H fun y H1=>ta σ H1 fun x H2=>∃a C dx fs,x= .ref a/\H2 a=some (.ins C dx fs)/\cg K C/\aT K C f/\fs.length<1000/\
 D.nx σ (upd H2 a (.ins C dx (fR f y fs)))
section
variable{X:Cx}{o e value:Expr}{f:Str}{pos pos' tpos:Pos}{ta tv:TE}
theorem cI(he:PE X e ta)(hb:attributeBase e f X.env (eval e X.env)=eval e X.env):PE X (.Attribute e f pos) (iZ X.K ta f):=by
 intro pins s σ H Q I h
 refine Z0 hb (aP (he pins s σ H _ I h) fun u s1 ⟨x,H1,I1,rx,a,C,dx,fs,v,ex,ea,c,n,l,q⟩=>?_)
 subst ex
 obtain rfl:u=Value.ref a:=rx
 exact aa0 I1 ea c n l fun u' s2 I2 ru=>⟨v,H1,I2,ru,q⟩
theorem je(ha:PE X o ta)(hv:PE X value tv)(hs:swapsWith value (some (.Attribute o f pos')) pos.line X.env=pure false):PS X (.Assign [.Attribute o f pos'] value pos) (sF X.K ta tv f):=by
 intro pins s σ H D I h
 refine plainObj_wpAny_Assign_Attribute (aP (hv pins s σ H _ I h) fun u s1 ⟨y,H1,I1,ry,q⟩=>aP (ha pins s1 σ H1 _ I1 q) fun ov s2 ⟨x,H2,I2,rx,a,C,dx,fs,ex,ea,c,n,l,q2⟩=>?_) hs
 subst ex
 obtain rfl:ov=Value.ref a:=rx
 exact ZD I2 ea c n l ry fun s3 I3=>⟨σ,_,I3,q2⟩
theorem adj{pl:Sem Bool}{m:Str}{apos:Pos}{args:List Expr}{pins:List (Addr×Obj)}{s:Shared}{σ:St}{H:Hp}{Q:Value->Shared->Prop}{te:TE}(he:PE X e te)(I:Inv X pins σ H s)
  (h : te σ H fun x H1 => ∃ a C dx fs g, x = .ref a /\ H1 a = some (.ins C dx fs) /\ cg X.K C /\ Meth X.K C m g /\ fs.lookup m = none /\
   ∀s1,Inv X pins σ H1 s1->wpAny (model X.prog X.w) X.A (callWith pos (.ref g) [.ref a] (backTo pos (starEach args X.env)) (backToKw pos (keywordEach [] X.env))) Q X.xe s1)
  (ht : eval (.Call (.Attribute e m apos) args [] pos) X.env = (do
   let ov<-eval e X.env
   standAt apos.atName
   let (f,first)<-holding [ov] (getMethod ov m pl)
   callWith pos f first (backTo pos (starEach args X.env)) (backToKw pos (keywordEach [] X.env)))):
  wpAny (model X.prog X.w) X.A (eval (.Call (.Attribute e m apos) args [] pos) X.env) Q X.xe s:=by
 refine FU (pl:=pl) (aP (he pins s σ H _ I h) fun u s1 ⟨x,H1,I1,rx,a,C,dx,fs,g,ex,ea,c,k,l,q⟩=>?_) ht
 subst ex
 obtain rfl:u=Value.ref a:=rx
 exact De I1 ea c k l (q s1 I1)
end
section
variable{X:Cx}{pins:List (Addr×Obj)}{σ:St}{H:Hp}{s:Shared}{A:Around}{E:Value->Shared->Prop}{Q:Value->Shared->Prop}{c:Value}{b:Bool}
inductive jy(K:PySem.W.Frag)(H:Hp):V->Value->Prop where
 |aI:jy K H .aI (.type "NoneType")
 |bl (x:Bool):jy K H (.bl x) (.type "bool")
 |int (i:Int):jy K H (.int i) (.type "int")
 |str (x:Str):jy K H (.str x) (.type "str")
 |lF (x:UInt64):jy K H (.lF x) (.type "float")
 |lst {a:Addr} {xs:List V} (e:H a=some (.lst xs)):jy K H (.ref a) (.type "list")
 |bQ {a:Addr} {o:Obj} {xs:List V} (e:H a=some (.bQ o (.lst xs))):jy K H (.ref a) (.type "list")
 |tup {a:Addr} {xs:List V} (e:H a=some (.tup xs)):jy K H (.ref a) (.type "tuple")
 |dK {a:Addr} {kvs:List (Key×V)} (e:H a=some (.dK kvs)):jy K H (.ref a) (.type "dict")
 |dT {a:Addr} {kvs:List (List Key×V)} (e:H a=some (.dT kvs)):jy K H (.ref a) (.type "dict")
 |Oa {a:Addr} {o:Obj} {kvs:List (Key×V)} (e:H a=some (.bQ o (.dK kvs))):jy K H (.ref a) (.type "dict")
 | ins {a C dx : Addr} {fs : List (Str × V)} (e : H a = some (.ins C dx fs)) (cl : cg K C) (ha : PySem.W.findIn K (.ref C) "__class__" = some (some (.builtin "object.__class__")))
   (hn:PySem.W.specialIn K (.builtin "object.__class__") "__get__"=some (some (.builtin "getset_descriptor.__get__"))) (htk:PySem.W.takesIn K (.builtin "object.__class__")=some true)
   (hm:PySem.W.mroIn K C (.type "object")=some true):jy K H (.ref a) (.ref C)
theorem Zv{x:V}{u t:Value}(I:Inv X pins σ H s)(rx:RelV x u)(ty:jy X.K H x t)(e:PySem.W.kitOne X.K t c=some b)(h:∀tk,Q (.bool b) {s with toks:=tk}):
    wpAny (model X.prog X.w) A (call (.builtin "isinstance") [u,c]) Q E s:=by
  cases ty with
  |aI=>cases (show u=Value.none from rx);exact kJ PySem.W.kitx_none I.dI True.intro e (fun z=>nomatch z) h
  |bl y=>cases (show u=Value.bool y from rx);exact kJ PySem.W.kitx_bool I.dI True.intro e (fun z=>nomatch z) h
  |int i=>obtain⟨t,q⟩:=(show∃t,u=Value.int i t from rx);cases q;exact kJ PySem.W.kitx_int I.dI True.intro e (fun z=>nomatch z) h
  |str y=>obtain⟨t,q⟩:=(show∃t,u=Value.str y t from rx);cases q;exact kJ PySem.W.kitx_str I.dI True.intro e (fun z=>nomatch z) h
  |lF y=>obtain⟨t,q⟩:=(show∃t,u=Value.float y t from rx);cases q;exact kJ PySem.W.kitx_float I.dI True.intro e (fun z=>nomatch z) h
  | @lst a xs ea =>
    cases (show u=Value.ref a from rx)
    obtain⟨_,_,n,_,h1⟩:=(show cF X.prog X.w H s.heap a (.lst xs) from I.hok a _ ea)
    exact kJ Ey I.dI ⟨_,h1,rfl⟩ e (fun z=>nomatch z) h
  | @bQ a ob xs ea =>
    cases (show u=Value.ref a from rx)
    obtain⟨_,_,_,n,_,h1⟩:=(show cF X.prog X.w H s.heap a (.bQ ob (.lst xs)) from I.hok a _ ea)
    exact kJ Ey I.dI ⟨_,h1,rfl⟩ e (fun z=>nomatch z) h
  | @tup a xs ea =>
    cases (show u=Value.ref a from rx)
    obtain⟨_,_,_,p⟩:=(show cF X.prog X.w H s.heap a (.tup xs) from I.hok a _ ea)
    obtain⟨o,h1,h2,_⟩:=p
    exact kJ PySem.W.kitx_tuple I.dI ⟨o,h1,h2⟩ e (fun z=>nomatch z) h
  | @dK a kvs ea =>
    cases (show u=Value.ref a from rx)
    obtain⟨_,_,vs,_,p⟩:=(show cF X.prog X.w H s.heap a (.dK kvs) from I.hok a _ ea)
    obtain⟨o,es,ep,h1,h2,_⟩:=p
    exact kJ Ae I.dI ⟨o,h1,h2.1⟩ e (fun z=>nomatch z) h
  | @dT a kvs ea =>
    cases (show u=Value.ref a from rx)
    obtain⟨_,_,xs,_,o,es,ep,h1,h2,_⟩:=(show cF X.prog X.w H s.heap a (.dT kvs) from I.hok a _ ea)
    exact kJ Ae I.dI ⟨o,h1,h2.1⟩ e (fun z=>nomatch z) h
  | @Oa a ob kvs ea =>
    cases (show u=Value.ref a from rx)
    obtain⟨_,_,_,vs,_,o,es,ep,h1,h2,_⟩:=I.hok a _ ea
    exact kJ Ae I.dI ⟨o,h1,h2.1⟩ e (fun z=>nomatch z) h
  | @ins a C dx fs ea cl ha hn htk hm =>
    cases (show u=Value.ref a from rx)
    obtain⟨mA,O,_⟩:=w5 I.hok ea
    obtain⟨od,J,_⟩:=O.look
    exact kJ (PySem.W.kitx_own (cl.get _) cl.hd ha hn htk hm) I.dI J e (fun z=>nomatch z) h
end
structure ez(k:Nat)(A:Around):Prop where
 hd:A.handled=none
 dp:A.depth+3*k+5<recursionLimit
 un:A.units+16*k+200<cLine
theorem ez.mono{j k:Nat}{A:Around}(r:ez k A)(h:j<=k):ez j A:=⟨r.hd,by have:=r.dp;omega,by have:=r.un;omega⟩
theorem ez.deeper{k:Nat}{A:Around}(r:ez (k+1) A)(env:Env):ez k (A.deeper env):=
 ⟨r.hd,by have:=r.dp;show A.depth+1+3*k+5<_;omega,by have:=r.un;show A.units+3+16*k+200<_;omega⟩
theorem Rj{A:Around}{C:Addr}{us:List Value}{kw:List (Str×Value)}:(A.under (.builtin "type.__call__" ⟨.ref C::us,kw⟩)).depth=A.depth+1:=by
 first|rfl|simp[Around.under,Code.weight,Code.isCreation,Code.isGuard,Code.isCaller,Code.frames,Code.isFrame,guardIds]
theorem ab8{A:Around}{C:Addr}{us:List Value}{kw:List (Str×Value)}:(A.under (.builtin "type.__call__" ⟨.ref C::us,kw⟩)).units=A.units+1:=by
 first|rfl|simp[Around.under,Code.cUnits,Code.frames,Code.isFrame]
theorem ez.make{k:Nat}{A:Around}(r:ez (k+1) A)(C:Addr)(us:List Value)(kw:List (Str×Value)):ez k (A.under (.builtin "type.__call__" ⟨.ref C::us,kw⟩)):=
 ⟨r.hd,by have:=r.dp;rw[Rj];omega,by have:=r.un;rw[ab8];omega⟩
theorem ez.depth{k:Nat}{A:Around}(r:ez k A):A.depth<recursionLimit:=by have:=r.dp;omega
theorem ez.units{k:Nat}{A:Around}(r:ez k A):A.units+64<cLine:=by have:=r.un;omega
def bE:TA:=fun _ H Q=>Q [] H
def aX(ta:TE)(tr:TA):TA:=fun σ H Q=>ta σ H fun x H1=>tr σ H1 fun xs H2=>Q (x::xs) H2
section
variable{X:Cx}{e:Expr}{es:List Expr}{te:TE}{t:TA}{pos:Pos}
theorem aj:PA X [] bE:=fun _ _ _ _ H Q I h=>Calls.spliced_nil ⟨[],H,I, .nil,h⟩
theorem aa(ha:PE X e te)(hr:PA X es t)(hs:starEach (e::es) X.env=(false,eval e X.env)::starEach es X.env:=by rfl):PA X (e::es) (aX te t):=by
 intro pos pins s σ H Q I h
 rw[hs]
 show wpAny _ _ (spliced ((false,eval e X.env)::backTo pos (starEach es X.env))) _ _ s
 refine Calls.spliced_cons (aP (ha pins s σ H _ I h) fun u s1 ⟨x,H1,I1,r1,q1⟩=>?_)
 exact aP (hr pos pins s1 σ H1 _ I1 q1) fun us s2 ⟨xs,H2,I2,r2,q2⟩=>⟨x::xs,H2,I2, .cons r1 r2,q2⟩
def uI(t:TA):TE:=fun σ H Q=>t σ H fun xs H1=>xs.length<=sizeLine/\∀p,H1 p=none->Q (.ref p) (upd H1 p (.tup xs))
def mw(t:TA):TE:=fun σ H Q=>t σ H fun xs H1=>xs.length<=sizeLine/\∀p,H1 p=none->Q (.ref p) (upd H1 p (.lst xs))
theorem gc{x1}(h:PA X es t):PE X (.Tuple es x1 pos) (uI t):=by
 intro pins s σ H Q I hq
 refine wpAny_Tuple_spliced (aP (h pos pins s σ H _ I hq) fun us s1 ⟨xs,H1,I1,r,z,q⟩=>⟨by rw[<-r.length];exact z,?_⟩)
 have hf:H1 s1.heap.objs.size=none:=I1.hok.fresh (aU _)
 refine⟨.ref s1.heap.objs.size,upd H1 s1.heap.objs.size (.tup xs),I1.laid (t':=s1.toks) (fun b u e=>cM _ e) (aU _) ?_,rfl,q _ hf⟩
 exact⟨z,us,r,⟨_,gh _ rfl,rfl,_,rfl⟩⟩
theorem iw(h:PA X es t):PE X (.List es pos) (mw t):=by
 intro pins s σ H Q I hq
 refine wpAny_List_spliced (aP (h pos pins s σ H _ I hq) fun us s1 ⟨xs,H1,I1,r,z,q⟩=>⟨by rw[<-r.length];exact z,?_⟩)
 have hf:H1 s1.heap.objs.size=none:=I1.hok.fresh (aU _)
 refine⟨.ref s1.heap.objs.size,upd H1 s1.heap.objs.size (.lst xs),I1.laid (t':=s1.toks) (fun b u e=>cM _ e) (aU _) ?_,rfl,q _ hf⟩
 exact⟨z,us,0,r,gh _ rfl⟩
end
abbrev Sp:=List V->Hp->VK->XK->Prop
abbrev lO:=List Env->Hp->Shared->XK->Value->Shared->Prop
structure pB(P:Program)(w:World)(K:PySem.W.Frag)(mg:Str->Option Value)(base:Heap)(A:Around)(outer:List Env)(s:Shared)(H:Hp):Prop where
 frames:A.frames=some outer
 mod:Mod K mg base
 bs:∀b o,base.get? b=some o->s.heap.get? b=some o/\H b=none
 oz:base.objs.size<=s.heap.objs.size
 kD:s.heap.FunFrames base outer
 oX:∀b∈frs outer,H b=none
 hok:dX P w H s.heap
 bare:AllBare s.gens
def CE(outer:List Env)(P:Program)(w:World)(H:Hp)(s:Shared)(Q:VK)(u:Value)(s':Shared):Prop:=
 ∃v H',s'.os=s.os/\AllBare s'.gens/\Un (frs outer) [] H H' s.heap s'.heap/\dX P w H' s'.heap/\RelV v u/\Q v H'
def CR(CX:lO)(outer:List Env)(P:Program)(w:World)(H:Hp)(s:Shared)(Q:VK)(E:XK)(r:Result)(s':Shared):Prop:=
 match r with
 | .ok (.ret u)=>CE outer P w H s Q u s'
 | .ok _=>False
 | .error e=>CX outer H s E e s'
structure bq(P:Program)(w:World)(K:PySem.W.Frag)(mg:Str->Option Value)(base:Heap)(CX:lO)(k:Nat)(f:Addr)(fd:FuncData)(ps:List Str)(sp:Sp):Prop where
 len:∀vs H Q E,sp vs H Q E->vs.length=ps.length
 run:∀(A:Around) (outer:List Env) (s:Shared) (H:Hp) (args:Args) (us:List Value) (vs:List V) (Q:VK) (E:XK),ez k A->pB P w K mg base A outer s H->BindsTo s fd args (ps.zip us)->Vals vs us->sp vs H Q E->
  codeAny (model P w) A (.call (.ref f) args) (CR CX outer P w H s Q E) s
theorem pB.make{P:Program}{w:World}{K:PySem.W.Frag}{mg:Str->Option Value}{base:Heap}{A:Around}{outer:List Env}{s:Shared}{H:Hp}(e:pB P w K mg base A outer s H)(C:Addr)(us:List Value)(kw:List (Str×Value)):
  pB P w K mg base (A.under (.builtin "type.__call__" ⟨.ref C::us,kw⟩)) outer s H:=⟨by first|exact e.frames|(simpa[Around.under,Code.envs,Code.isFrame,pushEnvs] using e.frames),e.mod,e.bs,e.oz,e.kD,e.oX,e.hok,e.bare⟩
section
variable{X:Cx}{pins:List (Addr×Obj)}{σ:St}{H:Hp}{s s':Shared}
theorem Inv.J8(I:Inv X pins σ H s):pB X.prog X.w X.K X.mg X.base X.A X.stack s H:=
 ⟨I.ok.frames,I.ok.mod,I.bs,cG I.ok.oz I.sz,I.stack,I.PX,I.hok,I.bare⟩
theorem Inv.after{Q:VK}{u:Value}(I:Inv X pins σ H s)(h:CE X.stack X.prog X.w H s Q u s'):EP X pins σ Q u s':=by
 obtain⟨v,H',os,bare,un,hok,r,q⟩:=h
 obtain⟨hh,g,d,t,os'⟩:=s'
 obtain rfl:os'=s.os:=os
 exact⟨v,H',I.call (h':=hh) (g':=g) (d':=d) (t':=t) (ch:=[]) un hok bare (fun b z=>absurd z (by simp)),r,q⟩
end
def iF(sp:Sp)(gz:List V)(E:XK)(t:TA):TE:=fun σ H Q=>t σ H fun vs H1=>sp (vs++gz) H1 Q E
def kP(C:Addr)(m:Str)(sp:Sp)(gz:List V)(E:XK)(ta:TE)(t:TA):TE:=fun σ H Q=>ta σ H fun x H1=>∃a dx fs,x= .ref a/\H1 a=some (.ins C dx fs)/\fs.lookup m=none/\
 t σ H1 fun vs H2=>sp (x::(vs++gz)) H2 Q E
def Gs(C:Addr)(sp:Sp)(gz:List V)(E:XK)(t:TA):TE:=fun σ H Q=>t σ H fun vs H1=>∀x dx,H1 x=none->H1 dx=none->dx≠x->
 sp (.ref x::(vs++gz)) (upd (upd H1 dx (.own x)) x (.ins C dx [])) (fun v H2=>v= .aI/\Q (.ref x) H2) E
def Binds(K:PySem.W.Frag)(fd:FuncData)(ps:List Str)(ds:List Value):Prop:=
 ∀(s:Shared) (us:List Value),K.In s.heap->(us++ds).length=ps.length->BindsTo s fd ⟨us,[]⟩ (ps.zip (us++ds))
theorem Binds.all{K:PySem.W.Frag}{fd:FuncData}{ps:List Str}(h:∀us:List Value,us.length=ps.length->bindArgs fd ⟨us,[]⟩=pure (ps.zip us)):Binds K fd ps []:=fun s us _ hl=>by
 rw[gH] at hl⊢
 exact .of_eq (h us hl)
def Passes(CX:lO)(X:Cx)(E:XK):Prop:=∀(pins:List (Addr×Obj)) (σ:St) (H:Hp) (s:Shared) (e:Value) (s':Shared),Inv X pins σ H s->CX X.stack H s E e s'->X.xe e s'
section
variable{X:Cx}{CX:lO}{k:Nat}{f C:Addr}{fd:FuncData}{ps:List Str}{sp:Sp}{gz:List V}{ds:List Value}{E:XK}{x m:Str}{p pos apos:Pos}{e o:Expr}{es:List Expr}{ta:TE}{t:TA}
theorem Cp{pins:List (Addr×Obj)}{σ:St}{H:Hp}{s:Shared}{Q:VK}{us:List Value}{vs:List V}(F:bq X.prog X.w X.K X.mg X.base CX k f fd ps sp)(hr:ez k X.A)(hb:Binds X.K fd ps ds)(hd:Vals gz ds)(hx:Passes CX X E)
    (I:Inv X pins σ H s) (r:Vals vs us) (h:sp (vs++gz) H Q E):wpAny (model X.prog X.w) X.A (call (.ref f) us) (EP X pins σ Q) X.xe s:=by
  have r2:Vals (vs++gz) (us++ds):=r.append hd
  have hl:(us++ds).length=ps.length:=by rw[<-r2.length];exact F.len _ _ _ _ h
  refine wpAny_call (codeAny_mono (F.run X.A X.stack s H ⟨us,[]⟩ (us++ds) (vs++gz) Q E hr I.J8 (hb s us I.dI hl) r2 h) fun r s' hq=>?_)
  cases r with
  |error e=>exact hx pins σ H s e s' I hq
  | ok fl =>
    cases fl with
    |ret u=>exact I.after hq
    |next=>exact False.elim hq
    |brk=>exact False.elim hq
    |cont=>exact False.elim hq
theorem Ve(F:bq X.prog X.w X.K X.mg X.base CX k f fd ps sp)(hr:ez k X.A)(hg:Gl X x)(hm:X.mg x=some (.ref f))(hk:PySem.W.keepIn X.K (.ref f)=true)(hb:Binds X.K fd ps ds)(hd:Vals gz ds)(hx:Passes CX X E)
  (ha:PA X (e::es) t) (hdb:(x==("__debug__":Str))=false:=by decide) (he:starEach (e::es) X.env=(false,eval e X.env)::starEach es X.env:=by rfl) (hpl:(backTo pos (starEach es X.env)).any (·.1)=false:=by rfl):
  PE X (.Call (.Name x p) (e::es) [] pos) (iF sp gz E t):=by
 intro pins s σ H Q I h
 refine wpAny_Call_Name_kw (Qo I hg hm ?_ hdb)
 refine Dg (h₀:=X.base) I.ok.mod.vJ hk (aP (ha pos pins s σ H _ I h) fun us s1 ⟨vs,H1,I1,r,q⟩=>⟨I1.dI,?_⟩) he hpl
 exact Cp F hr hb hd hx I1 r q
theorem Yu{pl:Sem Bool}(he:PE X o ta)(c:cg X.K C)(hm:Meth X.K C m f)(F:bq X.prog X.w X.K X.mg X.base CX k f fd ps sp)(hr:ez k X.A)(hb:Binds X.K fd ps ds)(hd:Vals gz ds)(hx:Passes CX X E)(ha:PA X (e::es) t)
  (hst:starEach (e::es) X.env=(false,eval e X.env)::starEach es X.env:=by rfl) (hpl:(backTo pos (starEach es X.env)).any (·.1)=false:=by rfl)
  (ht : eval (.Call (.Attribute o m apos) (e :: es) [] pos) X.env = (do
   let ov<-eval o X.env
   standAt apos.atName
   let (f,first)<-holding [ov] (getMethod ov m pl)
   callWith pos f first (backTo pos (starEach (e::es) X.env)) (backToKw pos (keywordEach [] X.env))):=by rfl):
  PE X (.Call (.Attribute o m apos) (e::es) [] pos) (kP C m sp gz E ta t):=by
 intro pins s σ H Q I h
 refine FU (pl:=pl) (aP (he pins s σ H _ I h) fun u s1 ⟨x,H1,I1,rx,a,dx,fs,ex,ea,l,q⟩=>?_) ht
 subst ex
 obtain rfl:u=Value.ref a:=rx
 refine De I1 ea c hm l ?_
 refine Dg (first:=[.ref a]) (h₀:=X.base) I.ok.mod.vJ hm.kp (aP (ha pos pins s1 σ H1 _ I1 q) fun us s2 ⟨vs,H2,I2,r,q2⟩=>⟨I2.dI,?_⟩) hst hpl
 exact Cp (us:= .ref a::us) (vs:= .ref a::vs) F hr hb hd hx I2 (.cons rfl r) q2
theorem acF{pl:Sem Bool}(he:PE X o ta)(c:cg X.K C)(hm:Meth X.K C m f)(F:bq X.prog X.w X.K X.mg X.base CX k f fd ps sp)(hr:ez k X.A)(hb:Binds X.K fd ps ds)(hd:Vals gz ds)(hx:Passes CX X E)
  (ht : eval (.Call (.Attribute o m apos) [] [] pos) X.env = (do
   let ov<-eval o X.env
   standAt apos.atName
   let (f,first)<-holding [ov] (getMethod ov m pl)
   callWith pos f first (backTo pos (starEach [] X.env)) (backToKw pos (keywordEach [] X.env))):=by rfl):
  PE X (.Call (.Attribute o m apos) [] [] pos) (kP C m sp gz E ta bE):=by
 intro pins s σ H Q I h
 refine FU (pl:=pl) (aP (he pins s σ H _ I h) fun u s1 ⟨x,H1,I1,rx,a,dx,fs,ex,ea,l,q⟩=>?_) ht
 subst ex
 obtain rfl:u=Value.ref a:=rx
 refine De I1 ea c hm l ?_
 exact PySem.W.callWith_K0 (first:=[.ref a]) I1.dI hm.kp (Cp (us:=[.ref a]) (vs:=[.ref a]) F hr hb hd hx I1 (.cons rfl .nil) q)
structure Mk(K:PySem.W.Frag)(C f:Addr):Prop where
 makes:PySem.W.makesIn K C=true
 init:PySem.W.findIn K (.ref C) "__init__"=some (some (.ref f))
 fn:PySem.W.isFn K (.ref f)=true
 kp:PySem.W.keepIn K (.ref C)=true
theorem Yc{pins:List (Addr×Obj)}{σ:St}{H:Hp}{s:Shared}{Q:VK}{us:List Value}{vs:List V}(M:Mk X.K C f)(F:bq X.prog X.w X.K X.mg X.base CX k f fd ps sp)(hr:ez (k+1) X.A)(hb:Binds X.K fd ps ds)(hd:Vals gz ds)
    (hx:Passes CX X E) (I:Inv X pins σ H s) (r:Vals vs us)
    (h:∀x dx,H x=none->H dx=none->dx≠x->sp (.ref x::(vs++gz)) (upd (upd H dx (.own x)) x (.ins C dx [])) (fun v H2=>v= .aI/\Q (.ref x) H2) E):
    wpAny (model X.prog X.w) X.A (call (.ref C) us) (EP X pins σ Q) X.xe s:=by
  have hq:=h (s.heap.objs.size+1) s.heap.objs.size (I.hok.fresh (oj _)) (I.hok.fresh (aU _)) (eG (o5 _))
  have I2:=Inv.made (C:=C) I
  have r2:Vals (V.ref (s.heap.objs.size+1)::(vs++gz)) (Value.ref (s.heap.objs.size+1)::(us++ds)):= .cons rfl (r.append hd)
  have hl:(Value.ref (s.heap.objs.size+1)::us++ds).length=ps.length:=by
    have e:=r2.length
    rw[F.len _ _ _ _ hq] at e
    exact e.symm
  refine wpAny_call (abJ (f:=f) I.dI M.makes M.init (beq_iff_eq.mp M.fn) (codeAny_mono (F.run _ X.stack _ _ ⟨Value.ref (s.heap.objs.size+1)::us,[]⟩ (Value.ref (s.heap.objs.size+1)::(us++ds)) _ _ E (hr.make C us [])
    (I2.J8.make C us []) (hb _ (Value.ref (s.heap.objs.size+1)::us) I2.dI hl) r2 hq) fun r s' hq'=>?_))
  cases r with
  |error e=>exact hx pins σ _ _ e s' I2 hq'
  | ok fl =>
    cases fl with
    | ret u =>
      obtain⟨v,H',I3,rv,ev,q3⟩:=I2.after hq'
      subst ev
      exact⟨rv,⟨V.ref (s.heap.objs.size+1),H',I3,rfl,q3⟩⟩
    |next=>exact False.elim hq'
    |brk=>exact False.elim hq'
    |cont=>exact False.elim hq'
theorem aay(M:Mk X.K C f)(F:bq X.prog X.w X.K X.mg X.base CX k f fd ps sp)(hr:ez (k+1) X.A)(hg:Gl X x)(hm:X.mg x=some (.ref C))(hb:Binds X.K fd ps ds)(hd:Vals gz ds)(hx:Passes CX X E)
  (ha:PA X (e::es) t) (hdb:(x==("__debug__":Str))=false:=by decide) (he:starEach (e::es) X.env=(false,eval e X.env)::starEach es X.env:=by rfl) (hpl:(backTo pos (starEach es X.env)).any (·.1)=false:=by rfl):
  PE X (.Call (.Name x p) (e::es) [] pos) (Gs C sp gz E t):=by
 intro pins s σ H Q I h
 refine wpAny_Call_Name_kw (Qo I hg hm ?_ hdb)
 refine Dg (h₀:=X.base) I.ok.mod.vJ M.kp (aP (ha pos pins s σ H _ I h) fun us s1 ⟨vs,H1,I1,r,q⟩=>⟨I1.dI,?_⟩) he hpl
 exact Yc M F hr hb hd hx I1 r q
end
structure bY(N P:List Str)(sc:Scope):Prop where
 kind:sc.kind= .function
 co:sc.isCoroutine=false
 gen:sc.isGenerator=false
 nd:N.Nodup
 pre:N.take P.length=P
 par:∀x∈P,sc.names.lookup x=some .local\/sc.names.lookup x=some .cell
 Sk:∀y∈sc.names,y.2≠ .free
theorem JQ{kindOf:Str->Option NameKind}{x:Str}:∀{binds:List (Str×Value)} {m:Str->Option Value},(∀v,(x,v)∉binds)->bindL kindOf binds m x=m x
  |[],_,_=>rfl
  | (n, v) :: r, m, h => by
    unfold bindL
    rw[JQ fun w hw=>h w (bX _ hw)]
    split
    · have:x≠n:=by rintro rfl;exact h v cA
      simp[this]
    · rfl
theorem OP{kindOf:Str->Option NameKind}{x:Str}:∀{binds:List (Str×Value)} {m:Str->Option Value},(∀v,(x,v)∉binds)->bindC kindOf binds m x=m x
  |[],_,_=>rfl
  | (n, v) :: r, m, h => by
    unfold bindC
    rw[OP fun w hw=>h w (bX _ hw)]
    split
    · rfl
    · have:x≠n:=by rintro rfl;exact h v cA
      simp[this]
theorem Jc{kindOf:Str->Option NameKind}{x:Str}{v:Value}:∀{P:List Str} {vs:List Value} {i:Nat} {m:Str->Option Value},P.Nodup->P[i]?=some x->vs[i]?=some v->kindOf x=some .local->
    bindL kindOf (P.zip vs) m x=some v
  |[],_,_,_,_,h,_,_=>by simp at h
  |_::_,[],_,_,_,_,h,_=>by simp at h
  | p :: P, w :: vs, 0, m, nd, h1, h2, hk => by
    simp at h1 h2;subst h1;subst h2
    show bindL kindOf ((p,w)::P.zip vs) m p=_
    unfold bindL
    rw[JQ fun v hv=>(gR.mp nd).1 (Fg hv).1,if_pos hk]
    simp
  | p :: P, w :: vs, i + 1, m, nd, h1, h2, hk => by
    show bindL kindOf ((p,w)::P.zip vs) m x=_
    unfold bindL
    exact Jc (i:=i) (gR.mp nd).2 (by simpa using h1) (by simpa using h2) hk
theorem N3{kindOf:Str->Option NameKind}{x:Str}{v:Value}:∀{P:List Str} {vs:List Value} {i:Nat} {m:Str->Option Value},P.Nodup->P[i]?=some x->vs[i]?=some v->kindOf x≠some .local->
    bindC kindOf (P.zip vs) m x=some v
  |[],_,_,_,_,h,_,_=>by simp at h
  |_::_,[],_,_,_,_,h,_=>by simp at h
  | p :: P, w :: vs, 0, m, nd, h1, h2, hk => by
    simp at h1 h2;subst h1;subst h2
    show bindC kindOf ((p,w)::P.zip vs) m p=_
    unfold bindC
    rw[OP fun v hv=>(gR.mp nd).1 (Fg hv).1,if_neg hk]
    simp
  | p :: P, w :: vs, i + 1, m, nd, h1, h2, hk => by
    show bindC kindOf ((p,w)::P.zip vs) m x=_
    unfold bindC
    exact N3 (i:=i) (gR.mp nd).2 (by simpa using h1) (by simpa using h2) hk
def start(N:List Str)(vs:List V):St:=vs.map some++List.replicate (N.length-vs.length) none
def sr(CX:lO)(P:Program)(w:World)(K:PySem.W.Frag)(mg:Str->Option Value)(base:Heap)(N:List Str)(qual:Str)(scope:Scope)(f:Addr)(cd:Value)(A:Around)(outer:List Env)(s:Shared)(H:Hp)(E:XK):Cx where
 prog:=P
 w:=w
 K:=K
 mg:=mg
 base:=base
 A:=A.deeper (envOfC qual scope s.heap.objs.size f cd)
 N:=N
 s₀:=s
 H₀:=H
 env:=envOfC qual scope s.heap.objs.size f cd
 outer:=outer
 stack:=envOfC qual scope s.heap.objs.size f cd::outer
 ex:=[]
 calm:=true
 fn:=fun _=>true
 pn:=[]
 xe:=fun e s'=>wpAny (model P w) (A.deeper (envOfC qual scope s.heap.objs.size f cd)) (leaving (envOfC qual scope s.heap.objs.size f cd) e) (fun _ s''=>CX outer H s E e s'') (fun e' s''=>CX outer H s E e' s'') s'
theorem Mz{sc:Scope}{n:Nat}{x:Str}(h:sc.names.lookup x=some .cell):∃c,(cellsFrom n sc.names []).lookup x=some c:=by
 have q:=M0 sc.names n [] (.inl h)
 exact pS.mp q
theorem VC{CX:lO}{P:Program}{w:World}{K:PySem.W.Frag}{mg:Str->Option Value}{base:Heap}{N ps:List Str}{qual:Str}{scope:Scope}{f:Addr}{cd:Value}{A:Around}{outer:List Env}{s s1:Shared}{H:Hp}{E:XK}{us:List Value}{vs:List V}
  (S:bY N ps scope) (hd:A.handled=none) (e0:pB P w K mg base A outer s H) (hl:vs.length=ps.length) (r:Vals vs us)
  (x:InCallC s s.heap.objs.size (bindL (envOfC qual scope s.heap.objs.size f cd).kindOf (ps.zip us) fun _=>none) (cellsFrom (s.heap.objs.size+1) scope.names []) (bindC (envOfC qual scope s.heap.objs.size f cd).kindOf (ps.zip us) fun _=>none) s1):
  Inv (sr CX P w K mg base N qual scope f cd A outer s H E) [] (start N vs) H s1:=by
 have hpl:ps.length<=N.length:=by have:=congrArg List.length S.pre;rw[mH] at this;omega
 obtain⟨h1,tk,rfl,hk⟩:=x.done
 have vA:∀b:Addr,b∉(sr CX P w K mg base N qual scope f cd A outer s H E).ex:=fun b z=>absurd (show b∈([]:List Addr) from z) (by simp)
 refine⟨⟨e0.mod,S.kind,rfl,rfl,aU _,fun y z c h1 h2=>?_,fun y hy=>?_,fun y c _ h=>?_,fun _=>hd,Around.frames_deeper e0.frames, .inr ⟨rfl,rfl⟩,fun b z=>absurd z (vA b),e0.bs,e0.oz,fun b _ _=>vA b,fun b z=>absurd z (vA b),e0.kD,e0.oX⟩,
  rfl,e0.bare,Un.kept hk,⟨_,x.toInCall.ns,fun i y v h1 h2 h3=>?_⟩,fun y c h=>⟨_,x.cell y c h⟩,e0.hok.fresh (aU _),fun y c h=>?_,fun p hp=>absurd (show p∈([]:List (Addr×Obj)) from hp) (by simp),e0.hok.kept hk,?_⟩
 ·exact name_of_addr x.apart (qm h1) (qm h2)
 ·have hy:scope.names.lookup y=some .cell\/scope.names.lookup y=some .free:=hy
  rcases hy with hy|hy
  ·exact Mz hy
  ·exact absurd rfl (S.Sk _ (qm hy))
 ·exact j5 (x.above y c (qm h))
 ·have hi:i<vs.length:=by
   unfold start at h2
   by_cases hi:i<vs.length
   ·exact hi
   ·rw[iu (by simpa using hi)] at h2
    rw[eY] at h2
    split at h2<;>cases h2
  have ha:vs[i]?=some v:=by
   unfold start at h2
   rw[gM (by simpa using hi),bI] at h2
   cases e:vs[i]? with
   |none=>rw[e] at h2;cases h2
   |some a=>rw[e] at h2;cases h2;rfl
  obtain⟨u,hu,rv⟩:=r.get ha
  have hp:ps[i]?=some y:=by
   rw[<-S.pre,List.getElem?_take_of_lt (by omega)];exact h1
  have NR:ps.Nodup:=by rw[<-S.pre];exact S.nd.sublist (List.take_sublist _ _)
  refine⟨u,rv,?_⟩
  rcases S.par y (dg hp) with k|k
  ·exact .inl ⟨k,Jc NR hp hu k⟩
  ·obtain⟨c,e⟩:=Mz (n:=s.heap.objs.size+1) k
   refine .inr ⟨.inl k,c,e,?_⟩
   have q:=x.cell y c e
   rw[N3 NR hp hu (by show scope.names.lookup y≠_;rw[k];decide)] at q
   exact q
 ·exact e0.hok.fresh (j5 (x.above y c (qm h)))
 ·unfold start
  show _=N.length
  rw[dW,ao,rj]
  omega
theorem aaP{CX:lO}{P:Program}{w:World}{K:PySem.W.Frag}{mg:Str->Option Value}{base:Heap}{k:Nat}{f:Addr}{name qual:Str}{params:Arguments}{body:List Stmt}{scope:Scope}{dV kV doc pm cdv ct oc:Value}{an od:Option Addr}
    {osl:Array (Option Value)} {N ps:List Str} {sp:Sp} (lk:K.lookup f=some ⟨oc,od, .func (PySem.W.fnOf name qual params body scope dV kV doc pm an cdv ct),osl⟩) (hcd:PySem.W.codeIn K cdv qual=true) (S:bY N ps scope)
    (len:∀vs H Q E,sp vs H Q E->vs.length=ps.length)
    (hbody:∀(A:Around) (outer:List Env) (s:Shared) (H:Hp) (vs:List V) (Q:VK) (E:XK),ez k (A.deeper (envOfC qual scope s.heap.objs.size f cdv))->sp vs H Q E->
      ∃t,j8 (sr CX P w K mg base N qual scope f cdv A outer s H E) body t/\t {nx:=fun _ H'=>Q .aI H',rt:=Q} (start N vs) H):
    bq P w K mg base CX (k+1) f (PySem.W.fnOf name qual params body scope dV kV doc pm an cdv ct) ps sp:=by
  refine⟨len,fun A outer s H args us vs Q E hr e0 hb r nW=>?_⟩
  have hl:=len _ _ _ _ nW
  have KX:K.In s.heap:=e0.mod.vJ.keeps fun b o e=>(e0.bs b o e).1
  have lim:s.heap.NoLimit:=e0.mod.nolimit.keeps fun b o e=>(e0.bs b o e).1
  have hkind:∀y∈ps.zip us,scope.names.lookup y.1=some .local\/(scope.names.lookup y.1=some .cell/\((cellsFrom (s.heap.objs.size+1) scope.names []).lookup y.1).isSome=true):=fun⟨n,v⟩ hy=>by
    rcases S.par n (Fg hy).1 with q|q
    · exact .inl q
    · exact .inr ⟨q,M0 _ _ _ (.inl q)⟩
  refine codeAny_call_function hr.depth (KX _ _ lk) rfl S.co S.gen rfl (PySem.W.codeRec_of KX hcd) (hb _ _ _ _ ?_)
  refine wpAny_newFunctionEnv_cells S.kind hkind fun env he s1 x=>?_
  subst he
  refine⟨lim.keeps x.toInCall.keep,codeAny_func ?_⟩
  obtain⟨t,ht,hq⟩:=hbody A outer s H vs Q E (hr.deeper _) nW
  have I:Inv (sr CX P w K mg base N qual scope f cdv A outer s H E) [] (start N vs) H s1:=VC S hr.hd e0 hl r x
  refine wpAny_mono (ht [] s1 (start N vs) H _ I hq) (fun fl s' hs=>?_) fun e s' hs=>hs
  have fin:∀{σ':St} {H':Hp} {v:V} {u:Value},Inv (sr CX P w K mg base N qual scope f cdv A outer s H E) [] σ' H' s'->RelV v u->Q v H'->CE outer P w H s Q u s':=
    fun{σ' H' v u} J rv q=>⟨v,H',J.os,J.bare,J.base,J.hok,rv,q⟩
  cases fl with
  | ret u =>
    obtain⟨v,σ',H',J,rv,q⟩:=hs
    exact fin J rv q
  | next =>
    obtain⟨σ',H',J,q⟩:=hs
    exact fin (v:=V.aI) (u:=Value.none) J rfl q
  | brk =>
    obtain⟨_,_,_,q⟩:=hs
    exact False.elim q
  | cont =>
    obtain⟨_,_,_,q⟩:=hs
    exact False.elim q
section
variable{X:Cx}{x:Str}{p pos:Pos}{e:Expr}{es:List Expr}{t:TA}{id T:String}{r:List V->Hp->VK->Prop}
def fc(r:List V->Hp->VK->Prop)(t:TA):TE:=fun σ H Q=>t σ H fun vs H1=>r vs H1 Q
theorem cZ(hc:gn X (.builtin id) r)(hg:Gl X x)(hm:X.mg x=none)(hv:bootBuiltins x=some (.builtin id))(ha:PA X (e::es) t)(hn:x≠"__name__":=by decide)(hdb:(x==("__debug__":Str))=false:=by decide)
  (he:starEach (e::es) X.env=(false,eval e X.env)::starEach es X.env:=by rfl) (hpl:(backTo pos (starEach es X.env)).any (·.1)=false:=by rfl):PE X (.Call (.Name x p) (e::es) [] pos) (fc r t):=by
 intro pins s σ H Q I h
 refine wpAny_Call_Name_kw (sN I hg hm hv ?_ hn hdb)
 exact PyProof.Rows.callWith_builtin1 (aP (ha pos pins s σ H _ I h) fun us s1 ⟨vs,H1,I1,r1,q1⟩=>hc pins s1 σ H1 vs us Q I1 r1 q1) he hpl
theorem lQ(hc:gn X (.type T) r)(hg:Gl X x)(hm:X.mg x=none)(hv:bootBuiltins x=some (.type T))(ha:PA X (e::es) t)(hn:x≠"__name__":=by decide)(hdb:(x==("__debug__":Str))=false:=by decide)
  (he:starEach (e::es) X.env=(false,eval e X.env)::starEach es X.env:=by rfl) (hpl:(backTo pos (starEach es X.env)).any (·.1)=false:=by rfl):PE X (.Call (.Name x p) (e::es) [] pos) (fc r t):=by
 intro pins s σ H Q I h
 refine wpAny_Call_Name_kw (sN I hg hm hv ?_ hn hdb)
 exact CJ (aP (ha pos pins s σ H _ I h) fun us s1 ⟨vs,H1,I1,r1,q1⟩=>hc pins s1 σ H1 vs us Q I1 r1 q1) he hpl
end
end L2
namespace HT
open PySem PyProof.Rows
section
open PySem.SeqAt
open PySem.AutoSeq1 (wpAny_loadPart')
open PySem.MeetsSeq PySem.MeetsSeq2 PySem.MeetsSeq3
end
section
variable{prog:Program}{w:World}{A:Around}{E:Value->Shared->Prop}{s:Shared}
def gm(n d:Nat):Option Int->Nat
 |none=>d
 |some v=>if v<0 then(v+(n:Int)).toNat else min v.toNat n
end
end HT
namespace L2
open PySem PySem.Spec PyProof.Rows
abbrev TO:=St->Hp->(Option Int->Hp->Prop)->Prop
def PO(X:Cx)(e:Option Expr)(t:TO):Prop:=
 ∀(pins:List (Addr×Obj)) (s:Shared) (σ:St) (H:Hp) (Q:Option Int->Hp->Prop),Inv X pins σ H s->t σ H Q->
  wpAny (model X.prog X.w) X.A (evalPart e X.env) (fun u s'=>∃o H',Inv X pins σ H' s'/\IsPart u o/\Q o H') X.xe s
def GQ:TO:=fun _ H Q=>Q none H
def BW(t:TE):TO:=fun σ H Q=>t σ H fun x H1=>∃i,x= .int i/\Q (some i) H1
section
variable{X:Cx}{e:Expr}{te:TE}{lo hi:Option Expr}{tl th:TO}{pos p2:Pos}
theorem IT:PO X none GQ:=by
 intro pins s σ H Q I h
 rw[evalPart_none]
 exact wpAny_pure ⟨none,H,I, .none,h⟩
theorem IG(h:PE X e te):PO X (some e) (BW te):=by
 intro pins s σ H Q I hw
 rw[evalPart_some]
 refine aP (h pins s σ H _ I hw) fun u s1 ⟨x,H1,I1,r1,q1⟩=>?_
 obtain⟨i,rfl,q⟩:=q1
 obtain⟨t,rfl⟩:=r1
 exact⟨some i,H1,I1, .int i t,q⟩
def Pj(X:Cx)(r:V->Option Int->Option Int->Hp->VK->Prop):Prop:=
 ∀(pins:List (Addr×Obj)) (s:Shared) (σ:St) (H:Hp) (x:V) (v vl vu:Value) (lo hi:Option Int) (sl:Addr) (Q:VK),Inv X pins σ H s->RelV x v->s.heap.IsSliceOf sl vl vu .none->IsPart vl lo->IsPart vu hi->r x lo hi H Q->
  ∃T id,typeLookup (.type T) "__getitem__"=pure (some (.builtin id))/\s.TypeIs v T/\wpAny (model X.prog X.w) X.A (getItem v (.ref sl)) (EP X pins σ Q) X.xe s
def GG(r:V->Option Int->Option Int->Hp->VK->Prop)(te:TE)(tl th:TO):TE:=fun σ H Q=>te σ H fun x H1=>tl σ H1 fun l H2=>th σ H2 fun u H3=>r x l u H3 Q
theorem Iu{r:V->Option Int->Option Int->Hp->VK->Prop}(hr:Pj X r)(he:PE X e te)(hl:PO X lo tl)(hu:PO X hi th):PE X (.Subscript e (.Slice lo hi none p2) pos) (GG r te tl th):=by
 intro pins s σ H Q I h
 refine Subscript_ (aP (he pins s σ H _ I h) fun v s1 ⟨x,H1,I1,r1,q1⟩=>?_)
 refine wpAny_Slice (aP (hl pins s1 σ H1 _ I1 q1) fun vl s2 ⟨l,H2,I2,pl,q2⟩=>aP (hu pins s2 σ H2 _ I2 q2) fun vu s3 ⟨u,H3,I3,pu,q3⟩=>?_)
 rw[evalPart_none]
 refine wpAny_pure ?_
 have I4:Inv X pins σ H3 {s3 with heap:=s3.heap.push {cls:= .type "slice",data:= .fields #[vl,vu, .none]}}:=I3.kept (t':=s3.toks) fun b ob q=>cM _ q
 obtain⟨T,id,hT,ht,hg⟩:=hr pins {s3 with heap:=s3.heap.push {cls:= .type "slice",data:= .fields #[vl,vu, .none]}} σ H3 x v vl vu l u s3.heap.objs.size Q I4 r1 (Heap.IsSliceOf.new ..) pl pu q3
 show wpAny (model X.prog X.w) X.A (subscriptTail e (.Slice lo hi none p2) v (.ref s3.heap.objs.size)) (EP X pins σ Q) X.xe {s3 with heap:=s3.heap.push {cls:= .type "slice",data:= .fields #[vl,vu, .none]}}
 exact tail_any (ops:=[.ref s3.heap.objs.size,v]) ht hT hg (by with_unfolding_all rfl)
def lY(xs:List V)(lo hi:Option Int):List V:=(xs.drop (HT.gm xs.length 0 lo)).take (HT.gm xs.length xs.length hi-HT.gm xs.length 0 lo)
theorem aby(xs:List V)(lo hi:Option Int):(lY xs lo hi).length<=xs.length:=by
 unfold lY
 rw[mH,List.length_drop]
 omega
def aaD(K:PySem.W.Frag):V->Option Int->Option Int->Hp->VK->Prop:=fun x lo hi H Q=>∃a xs,x= .ref a/\gY K H a xs/\
 ¬(HT.gm xs.length 0 lo=0/\HT.gm xs.length xs.length hi=xs.length)/\∀p,H p=none->Q (.ref p) (upd H p (.tup (lY xs lo hi)))
def UK(K:PySem.W.Frag):R2:=fun x y H Q=>∃a b xs ys,x= .ref a/\y= .ref b/\gY K H a xs/\gY K H b ys/\xs≠[]/\xs.length+ys.length<=sizeLine/\
 (ys=[]->Q (.ref a) H)/\(ys≠[]->∀p,H p=none->Q (.ref p) (upd H p (.tup (xs++ys))))
end
def gV(n:Nat)(i:Int):Option Nat:=if 0<=i then(if i<n then some i.toNat else none) else if-(n:Int)<=i then some (i+n).toNat else none
def cO{α:Type}(xs:List α)(i:Int):Option α:=(gV xs.length i).bind fun j=>xs[j]?
theorem Df{n:Nat}{i:Int}{j:Nat}(h:gV n i=some j):seqIndex? i n=some j/\j<n/\ -(n:Int)<=i/\i<n:=by
 unfold gV at h
 by_cases h0:0<=i
 ·rw[if_pos h0] at h
  by_cases h1:i<n
  ·rw[if_pos h1] at h
   have e:i.toNat=j:=gf h
   exact⟨by rw[seqIndex_of h0 h1,e],by omega,by omega,h1⟩
  ·rw[if_neg h1] at h;cases h
 ·rw[if_neg h0] at h
  by_cases h1: -(n:Int)<=i
  ·rw[if_pos h1] at h
   have e:(i+n).toNat=j:=gf h
   exact⟨by rw[seqIndex_neg (by omega) h1,e],by omega,h1,by omega⟩
  ·rw[if_neg h1] at h;cases h
theorem EX{α:Type}{xs:List α}{i:Int}{v:α}(h:cO xs i=some v):∃j,seqIndex? i xs.length=some j/\xs[j]?=some v/\j<xs.length/\ -(xs.length:Int)<=i/\i<xs.length:=by
  unfold cO at h
  cases e:gV xs.length i with
  |none=>rw[e] at h;cases h
  | some j =>
    rw[e] at h
    obtain⟨h1,h2,h3,h4⟩:=Df e
    exact⟨j,h1,h,h2,h3,h4⟩
theorem Rz{α:Type}{xs:List α}{j:Nat}{v:α}(h:xs[j]?=some v):cO xs (j:Int)=some v:=by
 have hj:j<xs.length:=(bT.mp h).1
 have e:gV xs.length (j:Int)=some j:=by
  unfold gV
  rw[if_pos (by omega),if_pos (by omega)];simp
 unfold cO;rw[e];exact h
def RW(b:Expr):Prop:=∀o i,subscripted b false o i=operate [o,i] (getItem o i)
def mz(X:Cx)(r:R2):Prop:=
 ∀(value slice:Expr) (pins:List (Addr×Obj)) (s:Shared) (σ:St) (H:Hp) (x y:V) (v u:Value) (Q:VK),Inv X pins σ H s->RelV x v->RelV y u->r x y H Q->
  subscripted slice false v u=operate [v,u] (getItem v u)->wpAny (model X.prog X.w) X.A (subscriptTail value slice v u) (EP X pins σ Q) X.xe s
def M6(X:Cx)(id:String)(r:V->List V->Hp->VK->Prop):Prop:=
 ∀(pins:List (Addr×Obj)) (s:Shared) (σ:St) (H:Hp) (x:V) (xs:List V) (v:Value) (us:List Value) (Q:VK),Inv X pins σ H s->RelV x v->Vals xs us->r x xs H Q->
  wpAny (model X.prog X.w) X.A (call (.builtin id) (v::us)) (EP X pins σ Q) X.xe s
section
variable{X:Cx}{a b:Expr}{ta tb:TE}{pos:Pos}
theorem mz.or{r r':R2}(h:mz X r)(h':mz X r'):mz X (fun x y H Q=>r x y H Q\/r' x y H Q):=by
 intro value slice pins s σ H x y v u Q I rx ry q hs
 rcases q with q|q
 ·exact h value slice pins s σ H x y v u Q I rx ry q hs
 ·exact h' value slice pins s σ H x y v u Q I rx ry q hs
theorem aF{r:R2}(hr:mz X r)(ha:PE X a ta)(hb:PE X b tb)(hs:RW b):PE X (.Subscript a b pos) (cP r ta tb):=by
 intro pins s σ H Q I h
 exact Subscript_ (EL ha hb I h fun v u s2 x y H2 I2 rx ry q=>hr a b pins s2 σ H2 x y v u Q I2 rx ry q (hs _ _))
def dS(K:PySem.W.Frag):R2:=fun x y H Q=>∃p xs i v,x= .ref p/\y= .int i/\bh K H p xs/\cO xs i=some v/\Q v H
def bU(K:PySem.W.Frag):R2:=fun x y H Q=>∃p xs i v,x= .ref p/\y= .int i/\gY K H p xs/\cO xs i=some v/\Q v H
def LI:R2:=fun x y H Q=>∃z i c,x= .str z/\y= .int i/\z.length<=sizeLine/\cO z.cps.toList i=some c/\Q (.str ⟨#[c]⟩) H
theorem cC:mz X (dS X.K):=by
 intro value slice pins s σ H x y v u Q I rx ry h hs
 obtain⟨p,xs,i,z,rfl,rfl,hq,he,q⟩:=h
 cases rx
 obtain⟨t,rfl⟩:=ry
 obtain⟨its,r,pl,hz⟩:=I.list hq
 obtain⟨j,h1,h2,h3,h4,h5⟩:=EX he
 obtain⟨w,ew,rw'⟩:=r.get h2
 have hl:=r.length
 have hn:=sG
 have fin:EP X pins σ Q w s:=⟨z,H,I,rw',q⟩
 by_cases h0:0<=i
 ·have hj:i.toNat=j:=by
   rw[seqIndex_of h0 h5] at h1
   exact gf h1
  exact item_listR pl.isList h0 (by omega) (by rw[hj];simpa using ew) fin hs
 ·have hj:(i+(its.toArray.size:Int)).toNat=j:=by
   rw[seqIndex_neg (by omega) h4] at h1
   rw[dZ,<-hl]
   exact gf h1
  exact subscriptTail_builtinR (x:=w) pl.isList.typeIs slot_list_getitem.lookup
   (wpAny_getItem_list_neg (Q:=fun r s'=>r=w/\EP X pins σ Q r s') pl.isList (by omega) (by rw[dZ]<;>omega) (by omega) (by rw[hj];simpa using ew) ⟨rfl,fin⟩) hs
theorem cy:mz X (bU X.K):=by
 intro value slice pins s σ H x y v u Q I rx ry h hs
 obtain⟨p,xs,i,z,rfl,rfl,hq,he,q⟩:=h
 cases rx
 obtain⟨t,rfl⟩:=ry
 obtain⟨its,r,pl,hz⟩:=I.tuple hq
 obtain⟨j,h1,h2,h3,h4,h5⟩:=EX he
 obtain⟨w,ew,rw'⟩:=r.get h2
 have hl:=r.length
 have hn:=sG
 have fin:EP X pins σ Q w s:=⟨z,H,I,rw',q⟩
 exact subscriptTail_builtinR (x:=w) pl.typeIs slot_tuple_getitem.lookup
  (getItem_tuple (j:=j) (Q:=fun r s'=>r=w/\EP X pins σ Q r s') pl (by omega) (by omega) (by rw[dZ,<-hl];exact h1) (by simpa using ew) ⟨rfl,fin⟩) hs
theorem R4:mz X LI:=by
 intro value slice pins s σ H x y v u Q I rx ry h hs
 obtain⟨z,i,c,rfl,rfl,hz,he,q⟩:=h
 obtain⟨t,rfl⟩:=rx
 obtain⟨t',rfl⟩:=ry
 obtain⟨j,h1,h2,h3,h4,h5⟩:=EX he
 have hl:z.cps.toList.length=z.length:=by simp[Str.length]
 rw[hl] at h1 h4 h5
 have hn:=sG
 exact tail_any (typeIs_str s z t) slot_str_getitem.lookup (getItem_str (c:=c) (by
  have e1:decide (i< -(2^63:Int))=false:=decide_eq_false (by omega)
  have e2:decide (i≥2^63)=false:=decide_eq_false (by omega)
  rw[e1,e2,nO]) (by rw[h1];simpa using h2) ⟨.str ⟨#[c]⟩,H,I.tok _,⟨_,rfl⟩,q⟩) hs
def xO(K:PySem.W.Frag):R2:=fun x y H Q=>dS K x y H Q\/bU K x y H Q\/LI x y H Q
theorem LN:mz X (xO X.K):=cC.or (cy.or R4)
theorem Ye(its:List Value)(n j:Nat)(u:Value):Obj.mapSeq (·.setIfInBounds j u) {cls:= .type "list",data:= .seq its.toArray n}={cls:= .type "list",data:= .seq (its.set j u).toArray n}:=by
 simp[Obj.mapSeq]
theorem Inv.lst{pins:List (Addr×Obj)}{σ:St}{H:Hp}{s:Shared}{p:Addr}{xs:List V}(I:Inv X pins σ H s)(h:H p=some (.lst xs)):
  ∃(its:List Value) (n:Nat),Vals xs its/\s.heap.get? p=some {cls:= .type "list",data:= .seq its.toArray n}/\xs.length<=sizeLine:=by
 obtain⟨z,its,n,r,e⟩:=I.hok p _ h
 exact⟨its,n,r,e,z⟩
theorem Inv.aaw{pins:List (Addr×Obj)}{σ:St}{H:Hp}{s:Shared}{p:Addr}{xs ys:List V}{its its':List Value}{n n':Nat}{f:Obj->Obj}(I:Inv X pins σ H s)(h:H p=some (.lst xs))
  (ho:s.heap.get? p=some {cls:= .type "list",data:= .seq its.toArray n}) (hf:f {cls:= .type "list",data:= .seq its.toArray n}={cls:= .type "list",data:= .seq its'.toArray n'}) (r:Vals ys its') (hz:ys.length<=sizeLine) (t:Nat):
  Inv X pins σ (upd H p (.lst ys)) {s with heap:=s.heap.update p f,toks:=t}:=by
 have e:(s.heap.update p f).get? p=some {cls:= .type "list",data:= .seq its'.toArray n'}:=by
  rw[zV f ho (by rw[hf]<;>rfl),hf]
 refine I.write (x:=p) (e:=p) (by rw[h];trivial) (.inl rfl) (fun b u hb q=>(lM _ _ (cX hb)).trans q) ⟨_,e⟩ ?_
 exact⟨hz,its',n',r,e⟩
def tZ:V->V->V->Hp->(Hp->Prop)->Prop:=fun o i v H Q=>∃p xs k j,o= .ref p/\i= .int k/\H p=some (.lst xs)/\gV xs.length k=some j/\Q (upd H p (.lst (xs.set j v)))
theorem set_list:w9 X tZ:=by
 intro pins s σ H o i v ov iv u Q I ro ri rv h
 obtain⟨p,xs,k,j,rfl,rfl,hp,hj,q⟩:=h
 cases ro
 obtain⟨t,rfl⟩:=ri
 obtain⟨its,n,r,ho,hz⟩:=I.lst hp
 obtain⟨h1,h2,h3,h4⟩:=Df hj
 have hl:=r.length
 have hn:=sG
 have I':Inv X pins σ (upd H p (.lst (xs.set j v))) {s with heap:=s.heap.update p (Obj.mapSeq (·.setIfInBounds j u))}:=
  I.aaw hp ho (Ye its n j u) (r.set rv j) (by rw[jg];exact hz) s.toks
 by_cases h0:0<=k
 ·have hk:k.toNat=j:=by
   rw[seqIndex_of h0 h4] at h1
   exact gf h1
  exact PySem.W.ki_setAt ho h0 (by omega) (by rw[dZ,<-hl];exact h4) (by rw[hk];exact⟨_,I',q⟩)
 ·have hk:(k+(its.toArray.size:Int)).toNat=j:=by
   rw[seqIndex_neg (by omega) h3] at h1
   rw[dZ,<-hl]
   exact gf h1
  exact PySem.W.ki_setBack ho (by omega) (by rw[dZ,<-hl];exact h3) (by omega) (by rw[hk];exact⟨_,I',q⟩)
theorem Wv(lo hi:Option Int)(n:Nat):(sliceBounds lo hi none n).1=((HT.gm n 0 lo:Nat):Int)/\(sliceBounds lo hi none n).2.1=((HT.gm n n hi:Nat):Int)/\(sliceBounds lo hi none n).2.2=1:=by
  refine⟨?_,?_,rfl⟩
  · cases lo with
    |none=>simp[sliceBounds,HT.gm]
    | some i =>
      simp only[sliceBounds,HT.gm,Option.getD_none,show(1:Int)>0 by decide,if_true]
      by_cases h:i<0
      · simp only[h,if_true]<;>omega
      · simp only[h,if_false]<;>omega
  · cases hi with
    |none=>simp[sliceBounds,HT.gm]
    | some i =>
      simp only[sliceBounds,HT.gm,Option.getD_none,show(1:Int)>0 by decide,if_true]
      by_cases h:i<0
      · simp only[h,if_true]<;>omega
      · simp only[h,if_false]<;>omega
theorem Q6(its:List Value)(lo hi:Option Int):slicePick its.toArray lo hi none=((its.drop (HT.gm its.length 0 lo)).take (HT.gm its.length its.length hi-HT.gm its.length 0 lo)).toArray:=by
 obtain⟨h1,h2,h3⟩:=Wv lo hi its.toArray.size
 unfold slicePick
 rw[h1,h2,h3]
 simp only[sliceRange_one,pick_run,dZ]<;>rfl
def Du(K:PySem.W.Frag):V->Option Int->Option Int->Hp->VK->Prop:=fun x lo hi H Q=>∃a xs,x= .ref a/\bh K H a xs/\∀p,H p=none->Q (.ref p) (upd H p (.lst (lY xs lo hi)))
theorem NU:Pj X (Du X.K):=by
 intro pins s σ H x v vl vu lo hi sl Q I rx hs pl pu h
 obtain⟨a,xs,rfl,hx,q⟩:=h
 cases rx
 obtain⟨its,r,ht,hz⟩:=I.list hx
 have hlen:=r.length
 refine⟨"list",_,slot_list_getitem.lookup,ht.isList.typeIs,?_⟩
 refine wpAny_getItem_list_slice ht.isList hs pl pu .none (by simp) ?_ (by rw[dZ]<;>omega)
 rw[Q6,<-hlen]
 refine⟨.ref s.heap.objs.size,_,I.laid (t':=s.toks) (o:= .lst (lY xs lo hi)) (fun b ob q=>cM _ q) (aU _) ?_,rfl,q _ (I.hok.fresh (aU _))⟩
 exact⟨cG (aby xs lo hi) hz,_,0,(r.drop (HT.gm xs.length 0 lo)).take (HT.gm xs.length xs.length hi-HT.gm xs.length 0 lo),gh _ rfl⟩
def nQ:V->Bool
 | .aI=>true
 | .bl _=>true
 | .int _=>true
 | .str _=>true
 |_=>false
def nY:V->V->Bool
 | .aI, .aI=>true
 | .bl a, .bl b=>a==b
 | .bl a, .int b=>(if a then 1 else 0)==b
 | .int a, .bl b=>a==(if b then 1 else 0)
 | .int a, .int b=>a==b
 | .str a, .str b=>a==b
 |_,_=>false
theorem XZ{A:Around}{s:Shared}{y x:V}{u v:Value}(ry:RelV y u)(rx:RelV x v)(fy:nQ y=true)(fx:nQ x=true):SeqAt.EqAt A s u v (nY y x):=by
  cases y with
  | aI =>
    cases ry
    cases x with
    |aI=>cases rx;exact SeqAt.EqAt.same _
    |bl b=>cases rx;exact SeqAt.EqAt.none_bool b
    |int b=>obtain⟨t,rfl⟩:=rx;exact SeqAt.EqAt.none_int b t
    |str b=>obtain⟨t,rfl⟩:=rx;exact SeqAt.EqAt.none_str b t
    |_=>exact absurd (show false=true from fx) bV
  | bl a =>
    cases ry
    cases x with
    |aI=>cases rx;exact SeqAt.EqAt.bool_none a
    |bl b=>cases rx;exact SeqAt.EqAt.bool_bool a b
    |int b=>obtain⟨t,rfl⟩:=rx;exact SeqAt.EqAt.bool_int a b t
    |str b=>obtain⟨t,rfl⟩:=rx;exact SeqAt.EqAt.bool_str a b t
    |_=>exact absurd (show false=true from fx) bV
  | int a =>
    obtain⟨t',rfl⟩:=ry
    cases x with
    |aI=>cases rx;exact SeqAt.EqAt.int_none a t'
    |bl b=>cases rx;exact SeqAt.EqAt.int_bool a t' b
    |int b=>obtain⟨t,rfl⟩:=rx;exact SeqAt.EqAt.int_int a t' b t
    |str b=>obtain⟨t,rfl⟩:=rx;exact SeqAt.EqAt.int_str a t' b t
    |_=>exact absurd (show false=true from fx) bV
  | str a =>
    obtain⟨t',rfl⟩:=ry
    cases x with
    |aI=>cases rx;exact SeqAt.EqAt.str_none a t'
    |bl b=>cases rx;exact SeqAt.EqAt.str_bool a t' b
    |int b=>obtain⟨t,rfl⟩:=rx;exact SeqAt.EqAt.str_int a t' b t
    |str b=>obtain⟨t,rfl⟩:=rx;exact SeqAt.EqAt.str_str a t' b t
    |_=>exact absurd (show false=true from fx) bV
  |_=>exact absurd (show false=true from fy) bV
def mF(x:V)(u:Value):Bool:=match u with
 | .none=>nY .aI x
 | .bool b=>nY (.bl b) x
 | .int i _=>nY (.int i) x
 | .str z _=>nY (.str z) x
 |_=>false
theorem LJ{x y:V}{u:Value}(r:RelV y u)(f:nQ y=true):mF x u=nY y x:=by
 cases y with
 |aI=>cases r;rfl
 |bl b=>cases r;rfl
 |int i=>obtain⟨t,rfl⟩:=r;rfl
 |str z=>obtain⟨t,rfl⟩:=r;rfl
 |_=>exact absurd (show false=true from f) bV
theorem Eo{x:V}:∀{xs:List V} {us:List Value},Vals xs us->xs.all nQ=true->us.any (mF x)=xs.any fun y=>nY y x
  |_,_, .nil,_=>rfl
  | y :: xs, u :: us, .cons r t, f => by
    rw[nA,fU] at f
    rw[kZ,kZ,LJ r f.1,Eo t f.2]
theorem Hh{A:Around}{s:Shared}{x:V}{v:Value}(rx:RelV x v)(fx:nQ x=true):∀{xs:List V} {us:List Value},Vals xs us->xs.all nQ=true->∀u∈us,SeqAt.EqAt A s u v (mF x u)
  |_,_, .nil,_=>fun u hu=>by cases hu
  | y :: xs, u :: us, .cons r t, f => fun u' hu => by
    rw[nA,fU] at f
    rcases aL.mp hu with rfl|hu
    · rw[LJ r f.1];exact XZ r rx f.1 fx
    · exact Hh rx fx t f.2 u' hu
def l9(x:V)(xs:List V):Bool:=xs.any fun y=>nY y x
def zl(K:PySem.W.Frag)(neg:Bool):R2:=fun x y H Q=>∃p xs,y= .ref p/\(bh K H p xs\/gY K H p xs)/\nQ x=true/\xs.all nQ=true/\Q (.bl (if neg then !l9 x xs else l9 x xs)) H
theorem acN:dR X (compareOp .In) (zl X.K false):=by
 intro pins s σ H x y v u Q I rx ry h
 obtain⟨p,xs,rfl,hq,fx,fs,q⟩:=h
 cases ry
 rcases hq with hq|hq
 ·obtain⟨its,r,pl,hz⟩:=I.list hq
  refine SeqAt.in_listAt (mF x) pl.isList (fun w hw=>Hh rx fx r fs w (by simpa using hw)) ⟨.bl _,H,I,rfl,?_⟩
  rw[show its.toArray.any (mF x)=its.any (mF x) by simp,Eo r fs]
  exact q
 ·obtain⟨its,r,pl,hz⟩:=I.tuple hq
  refine SeqAt.in_tupleAt (mF x) pl (fun w hw=>Hh rx fx r fs w (by simpa using hw)) ⟨.bl _,H,I,rfl,?_⟩
  rw[show its.toArray.any (mF x)=its.any (mF x) by simp,Eo r fs]
  exact q
theorem Ly:gn X (.builtin "len") (fun xs H Q=>∃p ys,xs=[.ref p]/\(bh X.K H p ys\/gY X.K H p ys)/\Q (.int ys.length) H):=by
 intro pins s σ H xs us Q I r h
 obtain⟨p,ys,rfl,hq,q⟩:=h
 obtain⟨u,rfl,rx⟩:=vals1 r
 cases rx
 have hn:=sG
 rcases hq with hq|hq
 ·obtain⟨its,r',pl,hz⟩:=I.list hq
  have hlen:=r'.length
  exact Calls.call_len_list pl.isList (by simp only[dZ]<;>omega) ⟨.int ys.length,H,I.tok _,⟨s.toks+1,by rw[dZ,hlen]⟩,q⟩
 ·obtain⟨its,r',pl,hz⟩:=I.tuple hq
  have hlen:=r'.length
  exact len_tuple pl (by simp only[dZ]<;>omega) ⟨.int ys.length,H,I.tok _,⟨s.toks+1,by rw[dZ,hlen]⟩,q⟩
theorem abp:gn X (.type "list") (fun xs H Q=>∃p ys,xs=[.ref p]/\(bh X.K H p ys\/gY X.K H p ys)/\∀l,H l=none->Q (.ref l) (upd H l (.lst ys))):=by
 intro pins s σ H xs us Q I r h
 obtain⟨p,ys,rfl,hq,q⟩:=h
 obtain⟨u,rfl,rx⟩:=vals1 r
 cases rx
 have fin:∀(its:List Value),Vals ys its->ys.length<=sizeLine->∀(h':Heap) (c':Nat),(∀b o',s.heap.get? b=some o'->h'.get? b=some o')->
   h'.get? s.heap.objs.size=some {cls:= .type "list",dict:=none,data:= .seq its.toArray c',slots:= #[]}->EP X pins σ Q (.ref s.heap.objs.size) {s with heap:=h'}:=fun its r' hz h' c' kp e=>
  ⟨.ref s.heap.objs.size,_,I.laid (t':=s.toks) kp (aU _) (show cF X.prog X.w _ h' _ (.lst ys) from⟨hz,its,c',r',e⟩),rfl,q _ (I.hok.fresh (aU _))⟩
 rcases hq with hq|hq
 ·obtain⟨its,r',pl,hz⟩:=I.list hq
  have hlen:=r'.length
  obtain⟨o,ho,hc,n,hd⟩:=pl.isList
  exact call_list_seq p (.inl rfl) ho hc hd (fun h' c' kp e=>fin its r' hz h' c' kp e) (by simp only[dZ]<;>omega)
 ·obtain⟨its,r',pl,hz⟩:=I.tuple hq
  have hlen:=r'.length
  obtain⟨o,ho,hc,n,hd⟩:=pl
  exact call_list_seq p (.inr rfl) ho hc hd (fun h' c' kp e=>fin its r' hz h' c' kp e) (by simp only[dZ]<;>omega)
def vD(K:PySem.W.Frag)(T:String)(x:V)(H:Hp):Prop:=match x with
 | .str _=>T="str"
 | .int _=>T="int"
 | .ref p => (T = "list" /\ ∃ xs, bh K H p xs) \/ (T = "tuple" /\ ∃ o, K.lookup p = some o /\ o.cls = .type "tuple" /\ o.dict = none) \/
   (T="dict" /\((∃kvs,H p=some (.dK kvs))\/(∃kvs,H p=some (.dT kvs))\/∃o kvs,H p=some (.bQ o (.dK kvs))))\/(T="set" /\∃S n,H p=some (.set S n))
 |_=>False
theorem Z6{pins:List (Addr×Obj)}{σ:St}{H:Hp}{s:Shared}{T:String}{x:V}{v:Value}(I:Inv X pins σ H s)(r:RelV x v)(ty:vD X.K T x H):
    s.TypeIs v T/\∀a,v= .ref a->∃ob,s.heap.get? a=some ob/\ob.dict=none:=by
  cases x with
  | str z =>
    obtain⟨t,rfl⟩:=r
    cases (show T="str" from ty)
    exact⟨typeIs_str s z t,fun _ e=>nomatch e⟩
  | int i =>
    obtain⟨t,rfl⟩:=r
    cases (show T="int" from ty)
    exact⟨typeIs_int s i t,fun _ e=>nomatch e⟩
  | ref p =>
    cases r
    rcases ty with ⟨rfl,xs,hq⟩|⟨rfl,o,hk,hc,hd⟩|⟨rfl,hk⟩|⟨rfl,S,n,hk⟩
    · obtain⟨its,_,pl,_⟩:=I.list hq
      refine⟨pl.isList.typeIs,fun a e=>?_⟩
      cases e
      obtain⟨o,n,e,c,hd,_⟩:=pl
      exact⟨o,e,hd⟩
    · refine⟨⟨o,I.dI p o hk,hc⟩,fun a e=>?_⟩
      cases e
      exact⟨o,I.dI _ o hk,hd⟩
    · have z:∃o,s.heap.get? p=some o/\o.ExactDict:=by
        rcases hk with ⟨kvs,hk⟩|⟨kvs,hk⟩|⟨ob,kvs,hk⟩
        · obtain⟨_,_,_,_,o,_,_,e,ex,_⟩:=I.hok p _ hk
          exact⟨o,e,ex⟩
        · obtain⟨_,_,_,_,o,_,_,e,ex,_⟩:=I.hok p _ hk
          exact⟨o,e,ex⟩
        · obtain⟨_,_,_,_,_,o,_,_,e,ex,_⟩:=I.hok p _ hk
          exact⟨o,e,ex⟩
      obtain⟨o,e,ex⟩:=z
      refine⟨⟨o,e,ex.1⟩,fun a e2=>?_⟩
      cases e2
      exact⟨o,e,ex.2.1⟩
    · obtain⟨o,_,_,_,e,ex,_⟩:=I.hok p _ hk
      refine⟨⟨o,e,ex.1⟩,fun a e2=>?_⟩
      cases e2
      exact⟨o,e,ex.2.1⟩
  |_=>exact False.elim ty
def YS(K:PySem.W.Frag)(T:String)(r:V->List V->Hp->VK->Prop)(to:TE):TE:=fun σ H Q=>to σ H fun x H1=>vD K T x H1/\r x [] H1 Q
def pA(K:PySem.W.Frag)(T:String)(r:V->List V->Hp->VK->Prop)(to:TE)(t:TA):TE:=fun σ H Q=>to σ H fun x H1=>vD K T x H1/\t σ H1 fun xs H2=>r x xs H2 Q
variable{o e:Expr}{es:List Expr}{to:TE}{t:TA}{name:Str}{apos cpos:Pos}{T id:String}{r:V->List V->Hp->VK->Prop}
theorem nI(pa:PlainAttrs T)(slot:Slot T name id)(hty:typeOf (.builtin id)=pure (.type "method_descriptor"))(hm:M6 X id r)(ho:PE X o to)(ha:PA X (e::es) t)
  (hbase:attributeBase o name X.env (eval o X.env)=eval o X.env:=by rfl)
  (hfew : ((backTo cpos (starEach (e :: es) X.env)).all (fun x => !x.1) && (backToKw cpos (keywordEach [] X.env)).all (fun x => x.1.isSome)
   && decide ((e::es).length+([]:List Keyword).length+(if([]:List Keyword).isEmpty then 0 else 1)<30))=true:=by rfl)
  (hline:(apos.endLine==cpos.line)=true:=by rfl) (hs:starEach (e::es) X.env=(false,eval e X.env)::starEach es X.env:=by rfl) (hplain:(backTo cpos (starEach es X.env)).any (·.1)=false:=by rfl):
  PE X (.Call (.Attribute o name apos) (e::es) [] cpos) (pA X.K T r to t):=by
 intro pins s σ H Q I h
 refine wpAny_Call_method_late hbase hfew hline rfl (aP (ho pins s σ H _ I h) fun v s1 ⟨x,H1,I1,r1,ty,q1⟩=>?_)
 obtain⟨h1,h2⟩:=Z6 I1 r1 ty
 refine⟨T,id,pa,slot,hty,h1,h2,?_⟩
 have hA:=ha cpos pins s1 σ H1 _ I1 q1
 rw[hs] at hA⊢
 refine Calls.callWith_builtin (by show(false||(backTo cpos (starEach es X.env)).any (·.1))=false;rw[hplain]<;>rfl) (Calls.evalArgs_plain ?_)
 exact aP hA fun us s2 ⟨vs,H2,I2,r2,q2⟩=>hm pins s2 σ H2 x vs v us Q I2 r1 r2 q2
/-xs.append(e),list.index on a module's tuple .. are M6 facts of 06m-/
end
def zq(X:Cx)(id:String)(r:V->List V->Hp->VK->Prop):Prop:=
 ∀(pins:List (Addr×Obj)) (s:Shared) (σ:St) (H:Hp) (x:V) (xs:List V) (v:Value) (us:List Value) (Q:VK),Inv X pins σ H s->RelV x v->Vals xs us->r x xs H Q->
  wpAny (model X.prog X.w) X.A (call (.builtin id) (v::us)) (EP X pins σ Q) X.xe s
theorem Vals.one{x:V}{us:List Value}(h:Vals [x] us):∃u,us=[u]/\RelV x u:=by
 cases h with
 |cons r t=>cases t;exact⟨_,rfl,r⟩
theorem Vals.two{x y:V}{us:List Value}(h:Vals [x,y] us):∃u v,us=[u,v]/\RelV x u/\RelV y v:=by
  cases h with
  | cons r t =>
    obtain⟨v,e,q⟩:=Vals.one t
    exact⟨_,v,by rw[e],r,q⟩
theorem Vals.dropLast{xs:List V}{us:List Value}(h:Vals xs us):Vals xs.dropLast us.dropLast:=by
  induction h with
  |nil=>exact .nil
  | cons r t ih =>
    cases t with
    |nil=>exact .nil
    |cons q t'=>exact .cons r ih
theorem Vals.eraseIdx:∀{xs:List V} {us:List Value} (i:Nat),Vals xs us->Vals (xs.eraseIdx i) (us.eraseIdx i)
 |_,_,_, .nil=> .nil
 |_,_,0, .cons _ t=>t
 |_,_,i+1, .cons r t=> .cons r (Vals.eraseIdx i t)
theorem Vals.rep{xs:List V}{us:List Value}(h:Vals xs us):∀k:Nat,Vals (List.replicate k xs).flatten (List.replicate k us).flatten
  |0=> .nil
  | k + 1 => by
    rw[mU,mU,rm,rm]
    exact Vals.append h (Vals.rep h k)
theorem OS{α:Type}:∀(l:List α) (i:Nat),(l.eraseIdx i).length<=l.length
 |[],_=>aU _
 |_::_,0=>oj _
 |_::r,i+1=>Nat.succ_le_succ (OS r i)
theorem foldl_rep(its:List Value):∀(k:Nat) (acc:List Value),
    List.foldl (fun x1 x2=>x1++x2) acc.toArray (List.replicate k its.toArray)=(acc++(List.replicate k its).flatten).toArray
  |0,acc=>by simp
  | k + 1, acc => by
    have e:acc.toArray++its.toArray=(acc++its).toArray:=by simp
    have e2:(acc++its)++(List.replicate k its).flatten=acc++(List.replicate (k+1) its).flatten:=by
      rw[mU,rm,List.append_assoc]
    rw[<-e2,<-foldl_rep its k (acc++its),<-e,mU,yb]
section
variable{X:Cx}{pins:List (Addr×Obj)}{σ:St}{H:Hp}{s:Shared}{l b:Addr}{xs ys zs:List V}
theorem Inv.DI{its its':List Value}{n:Nat}{f:Array Value->Array Value}{t':Nat}(I:Inv X pins σ H s)(hH:H l=some (.lst xs))
  (e:s.heap.get? l=some {cls:= .type "list",data:= .seq its.toArray n}) (hf:f its.toArray=its'.toArray) (hv:Vals ys its') (hz:ys.length<=sizeLine):
  Inv X pins σ (upd H l (.lst ys)) {s with heap:=s.heap.update l (Obj.mapSeq f),toks:=t'}:=by
 have q:=PySem.IsL.update e f
 rw[hf] at q
 refine I.write (x:=l) (e:=l) (by rw[hH];exact trivial) (.inl rfl) (fun b' u hb hu=>(lM s.heap (Obj.mapSeq f) (cX hb)).trans hu) ⟨_,q⟩ ?_
 exact⟨hz,its',_,hv,q⟩
theorem Inv.Es{its:List Value}{t':Nat}(I:Inv X pins σ H s)(hv:Vals ys its)(hz:ys.length<=sizeLine):
  Inv X pins σ (upd H s.heap.objs.size (.lst ys)) {s with heap:=s.heap.push {cls:= .type "list",data:= .seq its.toArray},toks:=t'}:=
 I.laid (fun _ _ q=>cM _ q) (aU _) ⟨hz,its,0,hv,gh _ rfl⟩
theorem Inv.fresh(I:Inv X pins σ H s):H s.heap.objs.size=none:=I.hok.fresh (aU _)
theorem Inv.pT(I:Inv X pins σ H s)(hH:H l=some (.lst xs)):xs.length<=sizeLine/\∃(its:List Value) (n:Nat),Vals xs its/\xs.length=its.length/\s.heap.get? l=some {cls:= .type "list",data:= .seq its.toArray n}:=by
 obtain⟨z,its,n,r,e⟩:=I.hok l _ hH
 exact⟨z,its,n,r,r.length,e⟩
theorem KC{n:Nat}(h:n<=sizeLine):Builtin.List.listTooLong n=false:=by
 unfold Builtin.List.listTooLong
 exact decide_eq_false (by omega)
end
section
variable{X:Cx}
def C8:V->List V->Hp->VK->Prop:=fun x vs H Q=>∃l xs y,x= .ref l/\vs=[y]/\H l=some (.lst xs)/\xs.length<sizeLine/\Q .aI (upd H l (.lst (xs++[y])))
theorem rO:zq X "list.append" C8:=by
 intro pins s σ H x vs v us Q I rx rv h
 obtain⟨l,xs,y,rfl,rfl,hH,hz,q⟩:=h
 cases rx
 obtain⟨u,rfl,ru⟩:=rv.one
 obtain⟨z,its,n,r,hl,e⟩:=I.pT hH
 refine call_meets F.slot_list_append ⟨_,e,rfl⟩ F.entry_list_append (F.args_list_append_2 _ _) (PySem.list_append l its.toArray n u (by rw[dZ];omega)) ⟨e,?_⟩
 refine⟨.aI,_,I.DI (its':=its++[u]) hH e (by simp) (r.append (.cons ru .nil)) ?_,rfl,q⟩
 rw[dW,kT]
 omega
def Y6:V->List V->Hp->VK->Prop:=fun x vs H Q=>∃l b xs zs,x= .ref l/\vs=[.ref b]/\H l=some (.lst xs)/\H b=some (.lst zs)/\xs.length+zs.length<=sizeLine/\Q .aI (upd H l (.lst (xs++zs)))
theorem adJ:zq X "list.extend" Y6:=by
 intro pins s σ H x vs v us Q I rx rv h
 obtain⟨l,b,xs,zs,rfl,rfl,hH,hB,hz,q⟩:=h
 cases rx
 obtain⟨u,rfl,ru⟩:=rv.one
 cases ru
 obtain⟨z,its,n,r,hl,e⟩:=I.pT hH
 obtain⟨z2,its2,n2,r2,hl2,e2⟩:=I.pT hB
 have hsz:its.toArray.size+its2.toArray.size<=sizeLine:=by rw[dZ,dZ];omega
 have GU:¬(!its.toArray.isEmpty && Builtin.List.listTooLong (its.toArray.size+its2.toArray.size))=true:=by
  rw[KC hsz,Bool.and_false]
  exact bV
 refine call_meets F.slot_list_extend ⟨_,e,rfl⟩ F.entry_list_extend (F.args_list_extend_2 _ _)
  (AutoSeq1.list_extend_list_list_0 l its.toArray n b its2.toArray n2 GU (by rw[dZ];omega) (by omega)) ⟨e,e2,?_⟩
 refine⟨.aI,_,I.DI (its':=its++its2) hH e (by simp) (r.append r2) ?_,rfl,q⟩
 rw[dW]
 omega
def HX:V->List V->Hp->VK->Prop:=fun x vs H Q=>∃l xs i k y,x= .ref l/\vs=[.int i]/\H l=some (.lst xs)/\ -(2^63)<=i/\i<2^63/\seqIndex? i xs.length=some k/\xs[k]?=some y/\Q y (upd H l (.lst (xs.eraseIdx k)))
theorem aah:zq X "list.pop" HX:=by
 intro pins s σ H x vs v us Q I rx rv h
 obtain⟨l,xs,i,k,y,rfl,rfl,hH,h1,h2,hk,hy,q⟩:=h
 cases rx
 obtain⟨u,rfl,ru⟩:=rv.one
 obtain⟨t,rfl⟩:=ru
 obtain⟨z,its,n,r,hl,e⟩:=I.pT hH
 obtain⟨w,hw,rw'⟩:=r.get hy
 refine call_meets F.slot_list_pop ⟨_,e,rfl⟩ F.entry_list_pop (F.args_list_pop_2 _ _)
  (MeetsSeq.list_pop_at l its.toArray n i t k w (fitsIndex_both h1 h2) (by rw[dZ,<-hl];exact hk) (by rw[<-mD];exact hw) (by rw[dZ];omega)) ⟨e,?_⟩
 refine⟨y,_,I.DI (its':=its.eraseIdx k) hH e ?_ (r.eraseIdx k) ?_,rw',q⟩
 ·show its.toArray.eraseIdxIfInBounds k=(its.eraseIdx k).toArray
  rw[List.eraseIdxIfInBounds_toArray]
 ·have:=OS xs k
  omega
def GC:R2:=fun x y H Q=>∃l b xs zs,x= .ref l/\y= .ref b/\H l=some (.lst xs)/\H b=some (.lst zs)/\xs.length+zs.length<=sizeLine/\∀p,H p=none->Q (.ref p) (upd H p (.lst (xs++zs)))
theorem Hs:dR X (binaryOp .Add) GC:=by
 intro pins s σ H x y v u Q I rx ry h
 obtain⟨l,b,xs,zs,rfl,rfl,hH,hB,hz,q⟩:=h
 cases rx
 cases ry
 obtain⟨z,its,n,r,hl,e⟩:=I.pT hH
 obtain⟨z2,its2,n2,r2,hl2,e2⟩:=I.pT hB
 refine PySem.P.add_list e e2 ?_ (by rw[dZ,dZ];omega)
 have ea:its.toArray++its2.toArray=(its++its2).toArray:=by simp
 rw[ea]
 exact⟨.ref _,_,I.Es (t':=s.toks) (r.append r2) (by rw[dW];omega),rfl,q _ I.fresh⟩
def ER:R2:=fun x y H Q=>∃l k xs,x= .ref l/\y= .int k/\H l=some (.lst xs)/\ -(2^63)<=k/\k<2^63/\xs.length*k.toNat<=sizeLine/\
 ∀p,H p=none->Q (.ref p) (upd H p (.lst (List.replicate k.toNat xs).flatten))
theorem len_rep{α:Type}(xs:List α)(k:Nat):(List.replicate k xs).flatten.length=k*xs.length:=by
 induction k with
 |zero=>simp
 |succ k ih=>rw[mU,rm,dW,ih,Nat.succ_mul,Nat.add_comm]
theorem Fc:dR X (binaryOp .Mult) ER:=by
 intro pins s σ H x y v u Q I rx ry h
 obtain⟨l,k,xs,rfl,rfl,hH,h1,h2,hz,q⟩:=h
 cases rx
 obtain⟨t,rfl⟩:=ry
 obtain⟨z,its,n,r,hl,e⟩:=I.pT hH
 have hlen:its.toArray.size*k.toNat<=sizeLine:=by rw[dZ,<-hl];exact hz
 have hcap:¬its.toArray.size*k.toNat>(2^63-1)/8:=by
  have:(sizeLine:Nat)<=(2^63-1)/8:=by decide
  omega
 have hfit:¬(!Builtin.List.listFitsIndex k)=true:=by
  rw[fitsIndex_both h1 h2]
  exact bV
 have GU:¬Builtin.List.listTooLong (its.toArray.size*k.toNat)=true:=by
  rw[KC hlen]
  exact bV
 have hnew:List.foldl (fun x1 x2=>x1++x2) #[] (List.replicate (if its.toArray.isEmpty=true then 0 else k.toNat) its.toArray)=(List.replicate k.toNat its).flatten.toArray:=by
  have f0:∀m:Nat,List.foldl (fun x1 x2=>x1++x2) #[] (List.replicate m its.toArray)=(List.replicate m its).flatten.toArray:=fun m=>by
   have:=foldl_rep its m []
   rw[List.nil_append] at this
   exact this
  rw[f0]
  cases its with
  |nil=>simp
  |cons a r'=>rw[if_neg (by simp)]
 refine wpAny_binaryOp_repeat_ref (T:="list") (U:="int") (by decide) ⟨_,e,rfl⟩ (fun s'=>typeIs_int s' k t) noFill_list_mul F.fills_int_mul F.slot_int_rmul repeat_list F.slot_int_index.lookup
  (call_meets F.slot_int_rmul (typeIs_int s k t) F.entry_int_rmul (F.args_int_rmul_2 _ _) (int___rmul___int_list k t l its.toArray n)
   ⟨e,rfl,⟨_,e,rfl⟩,call_meets F.slot_list_mul ⟨_,e,rfl⟩ F.entry_list_mul (F.args_list_mul_2 _ _) (AutoListH.list___mul___list_int_3 l its.toArray n k t hfit hcap GU) ⟨e,?_⟩⟩)
 rw[hnew]
 exact⟨.ref _,_,I.Es (t':=s.toks) (r.rep k.toNat) (by rw[len_rep,rP];exact hz),rfl,q _ I.fresh⟩
end
end L2
namespace Att
open PySem PySem.W PySem.Calls PyProof.Rows
theorem Y0{P:Params}{h:Heap}:∀(ns:List Int) (vs:List Value),WellAll P h vs (ns.map WData.int)->IntsAre vs ns:=by
  intro ns
  induction ns with
  | nil =>
    intro vs w
    rw[vE] at w
    cases w
    exact .nil
  | cons n ns ih =>
    intro vs w
    rw[bL] at w
    cases w with
    | cons a b =>
      cases a
      exact .cons _ _ (ih _ b)
theorem abC{l:OpenLaw}{n:Nat}(hn:l.most=some n){P:Params}{h:Heap}{args:List WData}{vals:List Value}
    (hpre:l.row.toRowW.claim.pre args=true) (hwl:WellAll P h vals args):
    ∃a vs ns,vals=[Value.ref a]/\args=[WData.list (ns.map WData.int)]/\h.get? a=some {cls:= .type "list",data:= .seq vs.toArray}/\IntsAre vs ns/\ns.length<=n:=by
  have hsh:WShape.hasAll [] args [.list .int]=true:=(pre_splitW hpre).1
  have hc:l.pre.holds [] {args:=args}=true:=(pre_splitW hpre).2
  obtain⟨d,r,rfl,h1,h2⟩:=hasAllW_cons hsh
  obtain rfl:=hasAllW_nil h2
  obtain⟨xs,rfl,h3⟩:=hasW_list h1
  obtain⟨ns,rfl⟩:=items_int h3
  have hlen:ns.length<=n:=by
    unfold OpenLaw.pre at hc
    have h4:(WTm.not (.lt (.lit (.int (n:Int))) (.len (.arg 0)))).holds [] {args:=[.list (ns.map .int)]}=true:=by
      have h4:=(holds_andW hc).1
      rw[hn] at h4
      exact h4
    have h5:=condW_of h4 (w_not (w_lt w_lit (w_len_list (w_arg rfl))))
    rw[ao] at h5
    refine Dy fun q=>?_
    have q':(n:Int)<((ns.length:Nat):Int):=by omega
    first
      |(rw[decide_eq_true q'] at h5;exact absurd h5 (by decide))
      |(simp at h5;omega)
  cases hwl with
  | cons w1 w2 =>
    cases w2
    cases w1 with
    |list ho hall=>exact⟨_,_,ns,rfl,rfl,ho,Y0 ns _ hall,hlen⟩
theorem Xl(l:OpenLaw)(args:List WData):l.row.toRowW.claim.post args (.bool true) args=true:=
 postW_of (r:=l.row.toRowW) (X:=(true==true))
  (show WShape.has [] (.bool true) .bool=true by first|rfl|decide|simp[WShape.has,WShape.arms,WShape.armsAll])
  (show(WTm.eq .res (.lit (.bool true))).value [] {args:=args,res:=some (.bool true),after:=args}=some (.bool (true==true)) from w_eq_bool (w_res rfl) w_lit) rfl
theorem We{l:OpenLaw}{n:Nat}{q:Program}{loose:List Str}{XP:(Str->Option Value)->Heap->Prop}{YP:World->Heap->Prop}{d:DefRec}
  (hn:l.most=some n) (hdf:d.params.defaults=[])
  (call : ∀ (w : World) (s₀ s₁ : Shared) (mg mb : Str -> Option Value) (fa : Addr) (o : Obj) (pm cd doc : Value) (a : Addr) (vs : List Value) (ns : List Int),
   Ground q loose [] XP w s₀ mg mb s₁.heap->YP w s₁.heap->
   s₁.heap.get? fa=some o->o.data= .func (docDef d.name d.params d.body d.scope pm cd doc)->s₁.heap.CodeRec cd d.name->mg d.name=some (.ref fa)->
   s₁.heap.get? a=some {cls:= .type "list",data:= .seq vs.toArray}->IntsAre vs ns->ns.length<=n->s₁.gens= #[]->
   codeAny (model l.prog w) callerA (.call (.ref fa) ⟨[.ref a],[]⟩) (fun r s'=>r= .ok (.ret (.bool true))/\OldK s₁.heap s'.heap/\s'.os=s₁.os/\AllBare s'.gens) s₁):
  WalkO q loose XP YP l.row.toRowW d [] (fun f vs=>PySem.call f vs):=by
 intro w s₀ s₁ mg mb G Y fa o pm cd doc dV kV ho hd hcd hD hmg hg args vals as hpre hlay hrd hwl hlo
 obtain rfl:dV= .none:=Dflts.none hD hdf
 obtain rfl:kV= .none:=Dflts.noKw hD
 obtain⟨a,vs,ns,rfl,rfl,hobj,hints,hlen⟩:=abC hn hpre hwl
 refine enter_call (codeAny_mono (call w s₀ s₁ mg mb fa o pm cd doc a vs ns G Y ho (fd_plain hd) hcd hmg hobj hints hlen hg) fun r s' hq=>?_)
 obtain⟨rfl,h2,h3,h4⟩:=hq
 exact⟨.inl ⟨.bool true, .bool true,[],rfl,fun _=>rfl, .bool true,Xl l _,fun _=>⟨List.Pairwise.nil,fun _ hm=>(nomatch hm)⟩⟩,h2,h3,h4⟩
section
variable{prog:Program}{w:World}{A:Around}{E:Value->Shared->Prop}{s:Shared}{K:Frag}
def ledger(h:Heap)(L d:Addr):List (Addr×Obj):=(List.range h.objs.size).filterMap fun a=>if a=L\/a=d then none else(h.get? a).map fun o=>(a,o)
end
end Att
namespace L2
open PySem PySem.Spec PyProof.Rows
theorem HZ:∀{vs:List Value} {ns:List Int},IntsAre vs ns->Vals (ns.map V.int) vs
 |_,_, .nil=> .nil
 |_,_, .cons n t h=> .cons ⟨t,rfl⟩ (HZ h)
def BX(H:Hp):Prop:=∀b,H b=none\/∃o xs,H b=some (.bQ o (.lst xs))
theorem RM{P:Program}{w:World}{K:PySem.W.Frag}{mg mb:Str->Option Value}{CX:lO}{k:Nat}{fa a:Addr}{fd:FuncData}{x:Str}{sp:Sp}{s₁:Shared}{vs:List Value}{ns:List Int}
    (KX:K.In s₁.heap) (hns:s₁.heap.Ns mainGlobals mg) (hb:s₁.heap.Ns builtinsNs mb) (ux:∀x:Str,x≠"__name__" ->mb x=bootBuiltins x) (hlim:s₁.heap.NoLimit) (hg:s₁.gens= #[])
    (ha:s₁.heap.get? a=some {cls:= .type "list",data:= .seq vs.toArray}) (hi:IntsAre vs ns) (hl:ns.length<=sizeLine) (hr:ez k callerA)
    (F:∀base:Heap,K.In base->base.Ns mainGlobals mg->bq P w K mg base CX k fa fd [x] sp) (hbind:∀(s:Shared) (u:Value),BindsTo s fd ⟨[u],[]⟩ [(x,u)])
    (nW:∀H:Hp,BX H->bh K H a (ns.map V.int)->sp [.ref a] H (fun v _=>v= .bl true) fun _ _ _=>False)
    (EF:∀H e s',CX [] H s₁ (fun _ _ _=>False) e s'->False):
    codeAny (model P w) callerA (.call (.ref fa) ⟨[.ref a],[]⟩) (fun r s'=>r= .ok (.ret (.bool true))/\OldK s₁.heap s'.heap/\s'.os=s₁.os/\AllBare s'.gens) s₁:=by
  have rv:=HZ hi
  have TM:=hi.length
  have core:∀H:Hp,BX H->bh K H a (ns.map V.int)->dX P w H s₁.heap->(∀b,H b≠none->b=a)->(H a≠none->K.lookup a=none)->
      codeAny (model P w) callerA (.call (.ref fa) ⟨[.ref a],[]⟩) (fun r s'=>r= .ok (.ret (.bool true))/\OldK s₁.heap s'.heap/\s'.os=s₁.os/\AllBare s'.gens) s₁:=by
    intro H hO hS hok hA hK
    have P9:∀{b:Addr} {o:Obj},s₁.heap.get? b=some o->H b=none->(mL s₁.heap H).get? b=some o:=fun e n=>Uw e n
    have vA:∀{b:Addr} {o:Obj} {es:Array DictEntry} {ep:Nat},s₁.heap.get? b=some o->o.data= .dict es ep->H b=none:=fun{b o es ep} e d=>by
      cases q:H b with
      |none=>rfl
      | some u =>
        have e':b=a:=hA b (by rw[q];simp)
        subst e'
        rw[ha] at e;cases e
        have d':Data.seq vs.toArray _=Data.dict es ep:=d
        cases d'
    have wX:∀{b:Addr} {m:Str->Option Value},s₁.heap.Ns b m->(mL s₁.heap H).Ns b m:=fun{b m} ⟨o,es,ep,e,d,r⟩=>⟨o,es,ep,P9 e (vA e d),d,r⟩
    have Kl:K.In (mL s₁.heap H):=fun b o e=>P9 (KX b o e) (by
      cases q:H b with
      |none=>rfl
      | some u =>
        have e':b=a:=hA b (by rw[q];simp)
        subst e'
        rw[hK (by rw[q];simp)] at e;cases e)
    have hM:Mod K mg (mL s₁.heap H):=⟨Kl,wX hns,⟨mb,wX hb,ux⟩,let ⟨mc,h1,h2⟩:=hlim;⟨mc,wX h1,h2⟩⟩
    have e0:pB P w K mg (mL s₁.heap H) callerA [] s₁ H:=⟨rfl,hM,fun b o e=>acs e,tw (aap _ _),trivial,fun b hb=>absurd (show b∈([]:List Addr) from hb) (by simp),hok, .of_eq hg⟩
    refine codeAny_mono ((F _ Kl (wX hns)).run callerA [] s₁ H ⟨[.ref a],[]⟩ [.ref a] [.ref a] _ _ hr e0 (hbind s₁ (.ref a)) (.cons rfl .nil) (nW H hO hS)) fun r s' h=>?_
    cases r with
    |error e=>exact(EF H e s' h).elim
    | ok fl =>
      cases fl with
      |next=>exact False.elim h
      |brk=>exact False.elim h
      |cont=>exact False.elim h
      | ret u =>
        obtain⟨v,H',os,bare,un,S0,r',q⟩:=h
        have q':v= .bl true:=q
        subst q'
        obtain rfl:u=Value.bool true:=r'
        refine⟨rfl,OldK.of_keep fun b o e=>?_,os,bare⟩
        cases q:H b with
        |none=>exact un.keep b o e q (by intro z;exact absurd (show b∈([]:List Addr) from z) (by simp)) (by simp)
        | some u =>
          rcases hO b with z|⟨ob,xs,z⟩
          · rw[q] at z;cases z
          · have z2:=un.kW b ob _ z
            obtain⟨e1,_⟩:=hok b _ z
            obtain⟨e2,_⟩:=S0 b _ z2
            rw[e] at e1;cases e1
            exact e2
  cases hk:K.lookup a with
  | some o =>
    have e:=KX a o hk
    rw[ha] at e
    cases e
    refine core (fun _=>none) (fun _=> .inl rfl) (.inr ⟨_,vs.toArray,_,hk,rfl,rfl,rfl,by rw[dZ,TM];exact hl,by simpa using rv⟩) (fun b u z=>by have z':(none:Option HO)=some u:=z;cases z') (fun b z=>absurd rfl z) fun z=>absurd rfl z
  | none =>
    refine core (fun b=>if b=a then some (.bQ {cls:= .type "list",data:= .seq vs.toArray} (.lst (ns.map V.int))) else none) (fun b=>?_) (.inl (.inr ⟨{cls:= .type "list",data:= .seq vs.toArray},if_pos rfl⟩)) (fun b u z=>?_) (fun b z=>?_) fun _=>hk
    · by_cases hb:b=a
      · exact .inr ⟨_,_,if_pos hb⟩
      · exact .inl (if_neg hb)
    · by_cases hb:b=a
      · have z':=(if_pos hb).symm.trans z
        cases z'
        subst hb
        exact⟨ha,by rw[ao];exact hl,vs,_,rv,ha⟩
      · have z':=(if_neg hb).symm.trans z
        cases z'
    · by_cases hb:b=a
      · exact hb
      · exact absurd (if_neg hb) z
theorem Y5{l:PySem.W.OpenLaw}{n k:Nat}{q:Program}{loose:List Str}{XP:(Str->Option Value)->Heap->Prop}{YP:World->Heap->Prop}{d:DefRec}{K:Params->PySem.W.Frag}{CX:World->lO}{sp:World->Sp}{x:Str}
  (hn:l.most=some n) (hn2:n<=sizeLine) (hdf:d.params.defaults=[]) (hr:ez k callerA)
  (hY:∀(w:World) (h:Heap),YP w h->(K w.params).In h)
  (F : ∀ (w : World) (mg : Str -> Option Value) (fa : Addr) (h : Heap), (K w.params).In h -> h.Ns mainGlobals mg -> mg d.name = some (.ref fa) ->
   ∃fd:FuncData,(∀(s:Shared) (u:Value),BindsTo s fd ⟨[u],[]⟩ [(x,u)])/\
    ∀base:Heap,(K w.params).In base->base.Ns mainGlobals mg->bq l.prog w (K w.params) mg base (CX w) k fa fd [x] (sp w))
  (nW:∀(w:World) (H:Hp) (a:Addr) (ns:List Int),ns.length<=n->BX H->bh (K w.params) H a (ns.map V.int)->sp w [.ref a] H (fun v _=>v= .bl true) fun _ _ _=>False)
  (EF:∀(w:World) (H:Hp) (s:Shared) (e:Value) (s':Shared),CX w [] H s (fun _ _ _=>False) e s'->False):
  PySem.W.WalkO q loose XP YP l.row.toRowW d [] (fun f vs=>PySem.call f vs):=by
 refine Att.We hn hdf fun w s₀ s₁ mg mb fa o pm cd doc a vs ns G Y ho hd hcd hmg hobj hints hlen hg=>?_
 have KX:=hY w _ Y
 obtain⟨fd,hb,hF⟩:=F w mg fa _ KX G.T.g hmg
 exact RM KX G.T.g G.T.b G.T.builtins G.T.nolimit hg hobj hints (cG hlen hn2) hr hF hb (fun H hO hS=>nW w H a ns hlen hO hS) fun H e s'=>EF w H s₁ e s'
end L2
/-THE LAST THEOREM (shape;LID,My.*are yours):
   My.Adr:a structure of the addresses that your layer names (classes,functions);My.Txt K t:a structure (Prop) of the equations over K;
   My.txt_mk:{K} {implicit addresses ..} (e1:nsIn K mainGlobals "law"=some (some (.ref f))) (e2:K.lookup f=some ⟨oc,od, .func (fnOf "law" "law" params body scope dV kV doc pm an cdv ct),sl⟩) (e3:codeIn K cdv "law"=true) .. :∃t,My.Txt K t
set_option maxRecDepth 100000 in
set_option maxHeartbeats 0 in
(the tactic k_is has no namespace:write k_is)-/
namespace L2
open PySem PySem.Spec PyProof.Rows
def inClass(s:Stmt)(j:Nat):Stmt:=match s with
 | .ClassDef _ _ _ body _ _ _ _ _ _ _=>body.getD j (.Pass ⟨0,0,0,0⟩)
 |_=> .Pass ⟨0,0,0,0⟩
def gQ(s:Stmt):Arguments:=match s with
 | .FunctionDef _ a _ _ _ _ _ _ _ _=>a
 |_=>{posonlyargs:=[],args:=[],vararg:=none,kwonlyargs:=[],kw_defaults:=[],kwarg:=none,defaults:=[]}
def gx(s:Stmt):List Stmt:=match s with
 | .FunctionDef _ _ b _ _ _ _ _ _ _=>b
 |_=>[]
def aN(s:Stmt):Scope:=match s with
 | .FunctionDef _ _ _ _ _ _ sc _ _ _=>sc
 |_=>{kind:= .function,names:=[],isGenerator:=false,isCoroutine:=false}
abbrev bG:lO:=fun _ _ _ _ _ _=>False
abbrev E0:XK:=fun _ _ _=>False
theorem Az{X:Cx}:Passes bG X E0:=fun _ _ _ _ _ _ _ h=>h.elim
structure bM(K:PySem.W.Frag)(x qual:Str)(st:Stmt)(f:Addr)(fd:FuncData):Prop where
 ex:∃(oc:Value) (od:Option Addr) (kV doc pm:Value) (an:Option Addr) (cdv ct:Value) (osl:Array (Option Value)),
  fd=PySem.W.fnOf x qual (gQ st) (gx st) (aN st) .none kV doc pm an cdv ct/\K.lookup f=some ⟨oc,od, .func fd,osl⟩/\PySem.W.codeIn K cdv qual=true
 kp:PySem.W.keepIn K (.ref f)=true
section
variable{P:Program}{w:World}{K:PySem.W.Frag}{mg:Str->Option Value}{base:Heap}
theorem bM.ok{x qual:Str}{st:Stmt}{f:Addr}{fd:FuncData}{N ps:List Str}{k:Nat}{sp:Sp}(F:bM K x qual st f fd)(S:bY N ps (aN st))(len:∀vs H Q E,sp vs H Q E->vs.length=ps.length)
  (hbody : ∀ (cdv : Value) (A : Around) (outer : List Env) (s : Shared) (H : Hp) (vs : List V) (Q : VK) (E : XK), ez k (A.deeper (envOfC qual (aN st) s.heap.objs.size f cdv)) -> sp vs H Q E ->
   ∃t,j8 (sr bG P w K mg base N qual (aN st) f cdv A outer s H E).vZ (gx st) t/\t {nx:=fun _ H'=>Q .aI H',rt:=Q} (start N vs) H):bq P w K mg base bG (k+1) f fd ps sp:=by
 obtain⟨oc,od,kV,doc,pm,an,cdv,ct,osl,rfl,lk,hcd⟩:=F.ex
 refine aaP lk hcd S len fun A outer s H vs Q E hr nW=>?_
 obtain⟨t,h,q⟩:=hbody cdv A outer s H vs Q E hr nW
 exact⟨t,h.vZ,q⟩
theorem bM.binds{x qual:Str}{st:Stmt}{f:Addr}{fd:FuncData}{ps:List Str}(F:bM K x qual st f fd)
  (h:∀(kV doc pm:Value) (an:Option Addr) (cdv ct:Value) (us:List Value),us.length=ps.length->bindArgs (PySem.W.fnOf x qual (gQ st) (gx st) (aN st) .none kV doc pm an cdv ct) ⟨us,[]⟩=pure (ps.zip us)):Binds K fd ps []:=by
 obtain⟨oc,od,kV,doc,pm,an,cdv,ct,osl,rfl,lk,hcd⟩:=F.ex
 exact .all (h kV doc pm an cdv ct)
theorem jt{x qual:Str}{st:Stmt}{f:Addr}{oc:Value}{od an:Option Addr}{osl:Array (Option Value)}{kV doc pm cdv ct:Value}(l:K.lookup f=some ⟨oc,od, .func (PySem.W.fnOf x qual (gQ st) (gx st) (aN st) .none kV doc pm an cdv ct),osl⟩)
  (c:PySem.W.codeIn K cdv qual=true) (k:PySem.W.keepIn K (.ref f)=true):bM K x qual st f (PySem.W.fnOf x qual (gQ st) (gx st) (aN st) .none kV doc pm an cdv ct):=⟨⟨oc,od,kV,doc,pm,an,cdv,ct,osl,rfl,l,c⟩,k⟩
end
theorem Ku{n:Nat}(h:n<=1000):n<sizeLine:=oq h (by decide)
section
variable{X:Cx}
theorem pv(i:Nat){x:Str}{pos:Pos}(hN:X.N[i]?=some x:=by rfl)(hv:C3 X.env.scope x:=by first|exact Or.inl rfl|exact Or.inr (Or.inl rfl)|exact Or.inr (Or.inr rfl))(hd:(x==("__debug__":Str))=false:=by decide)
  (hcd:(x==("__classdict__":Str))=false:=by decide):PE X (.Name x pos) (bf i):=Uo hN hv hd hcd
end
theorem KQ{A B:Prop}(h:B):if false=true then A else B:=by
 rw[if_neg bV]
 exact h
theorem vN{A B:Prop}(h:A):if true=true then A else B:=by
 rw[if_pos rfl]
 exact h
theorem qQ{c A B:Prop}[Decidable c](h1:c->A)(h2:¬c->B):if c then A else B:=by
 by_cases h:c
 ·rw[if_pos h]
  exact h1 h
 ·rw[if_neg h]
  exact h2 h
def cS(H H':Hp):Prop:=∀b o,H b=some o->H' b=some o
theorem cS.refl(H:Hp):cS H H:=fun _ _ h=>h
theorem cS.trans{H H1 H2:Hp}(a:cS H H1)(b:cS H1 H2):cS H H2:=fun c o h=>b c o (a c o h)
theorem cS.free{H H':Hp}(e:cS H H'){l:Addr}(h:H' l=Option.none):H l=Option.none:=by
  cases q:H l with
  |none=>rfl
  | some o =>
    rw[e l o q] at h
    cases h
theorem cS.seq{K:PySem.W.Frag}{H H':Hp}{a:Addr}{xs:List V}(e:cS H H')(h:bh K H a xs):bh K H' a xs:=by
 rcases h with (h|⟨o,h⟩)|h
 ·exact .inl (.inl (e _ _ h))
 ·exact .inl (.inr ⟨o,e _ _ h⟩)
 ·exact .inr h
end L2
set_option maxHeartbeats 1000000
namespace L2
open PySem PySem.Spec PyProof.Rows
def j6(cells:List (Str×Addr)):List (Str×NameKind)->List (Str×Addr)->List (Str×Addr)
 |[],acc=>acc
 |(n,k)::r,acc=>j6 cells r (if k==NameKind.free then(match cells.lookup n with|some a=>(n,a)::acc|none=>acc) else acc)
theorem EJ{env:Env}{f:Str×NameKind->List (Str×Addr)->Sem (ForInStep (List (Str×Addr)))}
    (hf:∀x acc,f x acc=if(x.2==NameKind.free)=true then(do let a<-cellOf env x.1;pure (ForInStep.yield ((x.1,a)::acc))) else pure (ForInStep.yield acc)):
    ∀(l:List (Str×NameKind)) (acc:List (Str×Addr)),(∀x∈l,x.2= .free->∃a,env.cells.lookup x.1=some a)->(forIn l acc f:Sem (List (Str×Addr)))=pure (j6 env.cells l acc)
  |[],acc,_=>by rw[List.forIn_nil];rfl
  | (n, k) :: r, acc, h => by
    have hr:=fun x hx=>h x (bX _ hx)
    rw[List.forIn_cons,hf]
    by_cases hk:(k==NameKind.free)=true
    · have hk':k=NameKind.free:=by simpa using hk
      obtain⟨a,ha⟩:=h (n,k) cA hk'
      have hc:cellOf env n=pure a:=by unfold cellOf;rw[ha]
      rw[if_pos hk,hc]
      show(forIn r ((n,a)::acc) f:Sem (List (Str×Addr)))=pure (j6 env.cells r _)
      rw[EJ hf r _ hr,if_pos hk,ha]
    · rw[if_neg hk]
      show(forIn r acc f:Sem (List (Str×Addr)))=pure (j6 env.cells r _)
      rw[EJ hf r _ hr,if_neg hk]
theorem Zm{scope:Scope}{env:Env}(h:∀x∈scope.names,x.2= .free->∃a,env.cells.lookup x.1=some a):closureFor scope env=pure (j6 env.cells scope.names []):=by
 simp only[closureFor]
 rw[EJ (env:=env) (fun⟨n,k⟩ acc=>by dsimp only) scope.names [] h]
 rfl
theorem BZ{cells:List (Str×Addr)}:∀{l:List (Str×NameKind)} {acc:List (Str×Addr)} {x:Str} {c:Addr},(∀y d,acc.lookup y=some d->cells.lookup y=some d)->(j6 cells l acc).lookup x=some c->cells.lookup x=some c
  |[],_,_,_,ha,h=>ha _ _ h
  | (n, k) :: r, acc, x, c, ha, h => by
    refine BZ (l:=r) ?_ h
    intro y d hd
    by_cases hk:(k==NameKind.free)=true
    · rw[if_pos hk] at hd
      cases q:cells.lookup n with
      |none=>rw[q] at hd;exact ha _ _ hd
      | some a =>
        rw[q] at hd
        by_cases hy:(y==n)=true
        · have hy':y=n:=by simpa using hy
          subst hy'
          simp[fK] at hd
          rw[q,hd]
        · have hy':(y==n)=false:=by simpa using hy
          simp only[fK,hy'] at hd
          exact ha _ _ hd
    · rw[if_neg hk] at hd;exact ha _ _ hd
theorem IV{cells:List (Str×Addr)}:∀{l:List (Str×NameKind)} {acc:List (Str×Addr)} {x:Str},(acc.lookup x).isSome=true->((j6 cells l acc).lookup x).isSome=true
  |[],_,_,h=>h
  | (n, k) :: r, acc, x, h => by
    refine IV (l:=r) ?_
    by_cases hk:(k==NameKind.free)=true
    · rw[if_pos hk]
      cases q:cells.lookup n with
      |none=>exact h
      | some a =>
        by_cases hy:(x==n)=true
        · simp[fK,hy]
        · have hy':(x==n)=false:=by simpa using hy
          simp only[fK,hy']
          exact h
    · rw[if_neg hk];exact h
theorem L3{cells:List (Str×Addr)}:∀{l:List (Str×NameKind)} {acc:List (Str×Addr)} {x:Str} {a:Addr},(x,NameKind.free)∈l->cells.lookup x=some a->((j6 cells l acc).lookup x).isSome=true
  |[],_,_,_,h,_=>nomatch h
  | (n, k) :: r, acc, x, a, h, hc => by
    rcases aL.mp h with e|h
    · obtain⟨rfl,rfl⟩:=Prod.mk.inj e
      refine IV (l:=r) ?_
      rw[if_pos (by decide),hc]
      simp[fK]
    · exact L3 (l:=r) h hc
theorem Nm{cells:List (Str×Addr)}{l:List (Str×NameKind)}{x:Str}{a:Addr}(h:(x,NameKind.free)∈l)(hc:cells.lookup x=some a):(j6 cells l []).lookup x=some a:=by
 obtain⟨c,e⟩:=pS.mp (L3 (acc:=[]) h hc)
 have:=BZ (fun y d (q:([]:List (Str×Addr)).lookup y=some d)=>by simp at q) e
 rw[hc] at this;cases this
 exact e
theorem BO{env:Env}:∀{l:List (Str×NameKind)} {x:Str} {k:NameKind},(∀y∈l,y.2≠ .cell)->
    (l.map fun(n,k)=>if(k==NameKind.free && env.scope.kind== .function && env.kindOf n==some .cell) then(n,NameKind.cell) else(n,k)).lookup x=some k->k= .cell\/k= .free->l.lookup x=some .free
  |[],_,_,_,h,_=>by simp at h
  | (n, q) :: r, x, k, hc, h, hk => by
    have hr:=fun y hy=>hc y (bX _ hy)
    have ih:=BO (env:=env) (l:=r) (x:=x) (k:=k) hr
    rw[bL] at h
    dsimp only at h
    by_cases hx:(x==n)=true
    · simp only[fK,hx]
      by_cases hq:(q==NameKind.free && env.scope.kind== .function && env.kindOf n==some .cell)=true
      · have:q= .free:=by
          simp only[fU] at hq
          simpa using hq.1.1
        rw[this]
      · rw[if_neg hq] at h
        simp only[fK,hx] at h
        have O3:q=k:=gf h
        rcases hk with e|e
        · exact absurd (O3.trans e) (hc (n,q) cA)
        · rw[O3,e]
    · have hx':(x==n)=false:=by simpa using hx
      simp only[fK,hx']
      refine ih ?_ hk
      by_cases hq:(q==NameKind.free && env.scope.kind== .function && env.kindOf n==some .cell)=true
      · rw[if_pos hq] at h
        simp only[fK,hx'] at h
        exact h
      · rw[if_neg hq] at h
        simp only[fK,hx'] at h
        exact h
theorem Mc{env:Env}:∀{l:List (Str×NameKind)} {x:Str},l.lookup x=some .free->
    (l.map fun(n,k)=>if(k==NameKind.free && env.scope.kind== .function && env.kindOf n==some .cell) then(n,NameKind.cell) else(n,k)).lookup x=some .cell\/
    (l.map fun(n,k)=>if(k==NameKind.free && env.scope.kind== .function && env.kindOf n==some .cell) then(n,NameKind.cell) else(n,k)).lookup x=some .free
  |[],_,h=>by simp at h
  | (n, q) :: r, x, h => by
    have ih:=Mc (env:=env) (l:=r) (x:=x)
    rw[bL]
    dsimp only
    by_cases hx:(x==n)=true
    · simp only[fK,hx] at h
      by_cases hq:(q==NameKind.free && env.scope.kind== .function && env.kindOf n==some .cell)=true
      · rw[if_pos hq]
        left
        simp only[fK,hx]
      · rw[if_neg hq]
        right
        simp only[fK,hx]
        exact h
    · have hx':(x==n)=false:=by simpa using hx
      simp only[fK,hx'] at h
      have:=ih h
      by_cases hq:(q==NameKind.free && env.scope.kind== .function && env.kindOf n==some .cell)=true
      · rw[if_pos hq]
        simp only[fK,hx']
        exact this
      · rw[if_neg hq]
        simp only[fK,hx']
        exact this
def iU(sx:Scope)(NX:List Str)(scope:Scope)(N:List Str)(mp:List (Option Nat)):Bool:=
 (scope.kind== .function) && scope.names.all (fun y=>y.2 != .cell) && scope.names.all (fun y=>y.2 != .local||scope.names.lookup y.1==some .local) &&
 scope.names.all (fun y=>y.2 != .free||sx.names.lookup y.1==some .cell||sx.names.lookup y.1==some .free) &&(mp.length==N.length) &&
 ((N.zip mp).all fun p=>match p.2 with|none=>true|some j=>NX[j]?==some p.1 && scope.names.lookup p.1==some .free)
structure gF(sx:Scope)(NX:List Str)(scope:Scope)(N:List Str)(mp:List (Option Nat)):Prop where
 kind:scope.kind= .function
 cell:∀y∈scope.names,y.2≠ .cell
 names:∀y∈scope.names,y.2= .local->scope.names.lookup y.1=some .local
 free:∀y∈scope.names,y.2= .free->sx.names.lookup y.1=some .cell\/sx.names.lookup y.1=some .free
 len:mp.length=N.length
 look:∀(i j:Nat) (x:Str),mp[i]?=some (some j)->N[i]?=some x->NX[j]?=some x/\scope.names.lookup x=some .free
theorem gF.of{sx:Scope}{NX:List Str}{scope:Scope}{N:List Str}{mp:List (Option Nat)}(h:iU sx NX scope N mp=true):gF sx NX scope N mp:=by
 unfold iU at h
 simp only[fU,pN] at h
 obtain⟨⟨⟨⟨⟨h1,h2⟩,h3⟩,h4⟩,h5⟩,h6⟩:=h
 refine⟨by simpa using h1,fun y hy=>by simpa using h2 y hy,fun y hy e=>?_,fun y hy e=>?_,by simpa using h5,fun i j x e1 e2=>?_⟩
 ·have:=h3 y hy
  simpa[e] using this
 ·have:=h4 y hy
  simpa[e] using this
 ·have hm:(x,some j)∈N.zip mp:=by
   have:(N.zip mp)[i]?=some (x,some j):=by
    rw[List.getElem?_zip_eq_some];exact⟨e2,e1⟩
   exact dg this
  have:=h6 _ hm
  simpa using this
def gW(mp:List (Option Nat))(σ:St):St:=mp.map fun o=>match o with|none=>none|some j=>match σ[j]? with|some v=>v|none=>none
def jU(X:Cx)(scope:Scope)(C:Addr)(N:List Str)(s₀:Shared)(H₀:Hp)(fp:List Addr):Cx:=
 {X with N:=N,s₀:=s₀,H₀:=H₀,env:=compEnvC scope (j6 X.env.cells scope.names []) C X.env,outer:=X.stack,ex:=fp,fn:=fun _=>false,pn:=[],xe:=fun _ _=>False}
def tX(X:Cx)(ifs:List Expr)(t:TT):Prop:=
 ∀(pins:List (Addr×Obj)) (s:Shared) (σ:St) (H:Hp) (Q:Bool->Hp->Prop),Inv X pins σ H s->t σ H Q->
  wpAny (model X.prog X.w) X.A (forIn ifs true fun c r=>if r=true then do let ok<-isTrue c X.env (eval c X.env);pure (ForInStep.yield ok) else pure (ForInStep.yield r)) (TP X pins σ Q) X.xe s
def qi:TT:=fun _ H Q=>Q true H
theorem oh{X:Cx}:tX X [] qi:=fun pins s σ H Q I h=>wpAny_tests_nil ⟨H,I,h⟩
theorem pZ{X:Cx}{c:Expr}{t:TT}(h:PT X c t):tX X [c] t:=fun pins s σ H Q I q=>wpAny_tests_one (h pins s σ H Q I q)
def rW(J:It)(g:TG)(tc:TT)(te:TE)(acc:Addr)(Qe:Hp->Prop)(σ:St)(H:Hp):Prop:=∃W:Nat->Nat->St->Hp->Prop,(∃m,W 0 m σ H)/\∀i m σ H,W i m σ H->
 (J.stop i H /\ Qe H) \/ (J.go i H /\ ∃ Nx : St -> Hp -> Prop, (∀ σ' H', Nx σ' H' -> ∃ m', m' < m /\ W (i + 1) m' σ' H') /\ ∀ x H', J.lI i H x H' -> g x σ H' fun σ2 H2 => tc σ2 H2 fun b H3 =>
  if b=true then te σ2 H3 fun v H4=>∃ys,H4 acc=some (.lst ys)/\ys.length<sizeLine/\Nx σ2 (upd H4 acc (.lst (ys++[v]))) else Nx σ2 H3)
def kY(wi:TI)(g:TG)(tc:TT)(te:TE)(mp:List (Option Nat)):TE:=fun σ H Q=>wi σ H fun J H1=>∀acc,H1 acc=none->rW J g tc te acc (fun H'=>Q (.ref acc) H') (gW mp σ) (upd H1 acc (.lst []))
section
variable{prog:Program}{w:World}{A:Around}{R:Result->Shared->Prop}{s:Shared}
theorem RO{elt target iter:Expr}{ifs:List Expr}{scope:Scope}{pos:Pos}{it acc:Value}{env:Env}(I:Nat->Shared->Prop)
    (turn:∀n s,I n s->wpAny (model prog w) A (pyNext it) (fun r s₁=>match r with
      |none=>R (.ok .next) s₁
      |some v=>wpAny (model prog w) A (letOwnedTupleGo target it v) (fun _ s₀=>wpAny (model prog w) A (assign target env v) (fun _ s₂=>
          wpAny (model prog w) A (forIn ifs true fun c r=>if r=true then do let ok<-isTrue c env (eval c env);pure (ForInStep.yield ok) else pure (ForInStep.yield r)) (fun ok s₃=>
            if ok=true then wpAny (model prog w) A (eval elt env) (fun x s₄=>
              wpAny (model prog w) A (call (.builtin "list.append") [acc,x]) (fun _ s₅=>∃m,m<n/\I m s₅) (fun _ _=>False) s₄) (fun _ _=>False) s₃
            else∃m,m<n/\I m s₃) (fun _ _=>False) s₂) (fun _ _=>False) s₀) (fun _ _=>False) s₁) (fun _ _=>False) s)
    (n:Nat) (h:I n s):
    codeAny (model prog w) A (.compLoop (.ListComp elt [⟨target,iter,ifs,0⟩] scope pos) 0 it acc env) R s:=by
  refine codeAny_loop rfl I (fun n s hI=>?_) n h
  show wpAny _ A ((compTurn (.ListComp elt [⟨target,iter,ifs,0⟩] scope pos) 0 it acc env).onRaise (fun x=>do noteFrame x env;theTreesLotGoes x)) _ _ s
  refine wpAny_noted ?_
  rw[compTurn_list]
  refine wpAny_bind (wpAny_standAt (wpAny_bind (wpAny_mono (turn n s hI) (fun r s₁ h₁=>?_) fun _ _ h'=>h'.elim)))
  cases r with
  |none=>exact wpAny_pure h₁
  | some v =>
    refine wpAny_bind (wpAny_mono h₁ (fun _ s₀ h₀=>?_) fun _ _ h'=>h'.elim)
    refine wpAny_bind (wpAny_mono h₀ (fun _ s₂ h₂=>wpAny_bind (wpAny_mono h₂ (fun ok s₃ h₃=>?_) fun _ _ h'=>h'.elim)) fun _ _ h'=>h'.elim)
    cases ok with
    |false=>exact wpAny_pure ⟨rfl,h₃⟩
    | true =>
      exact wpAny_bind (wpAny_bind (wpAny_mono h₃ (fun x s₄ h₄=>wpAny_bind (wpAny_mono h₄ (fun _ s₅ h₅=>wpAny_pure (wpAny_pure ⟨rfl,h₅⟩)) fun _ _ h'=>h'.elim)) fun _ _ h'=>h'.elim))
end
section
variable{X:Cx}
theorem JB{elt iter tg:Expr}{ifs:List Expr}{scope:Scope}{pos pos':Pos}{N:List Str}{mp:List (Option Nat)}{wi:TI}{g:TG}{tc:TT}{te:TE}{use:Option (Value->Sem Unit)}
    {pins:List (Addr×Obj)} {s:Shared} {σ:St} {H:Hp} {Q:VK} {QQ:Value->Shared->Prop}
    (ok:gF X.env.scope X.N scope N mp) (hc:X.calm=true) (hi:PI X tg iter wi)
    (hb:∀C s₀ H₀ fp,PG (jU X scope C N s₀ H₀ fp) tg g/\tX (jU X scope C N s₀ H₀ fp) ifs tc/\PE (jU X scope C N s₀ H₀ fp) elt te)
    (hs:∀x,foldedSetIterable iter X.env x=pure x) (I:Inv X pins σ H s) (h:kY wi g tc te mp σ H Q)
    (fin:∀acc C H' s' m,Inv X pins σ H' s'->lZ X pins H' C->s'.heap.Ns C m->Q (.ref acc) H'->compPost (model X.prog X.w) X.A X.xe use QQ (.ref acc) C (.ok .next) s'):
    wpAny (model X.prog X.w) X.A (comprehension (.ListComp elt [⟨tg,iter,ifs,0⟩] scope pos) scope X.env pos' (newList []) false (eval iter X.env) use) QQ X.xe s:=by
  have hfree:∀x∈scope.names,x.2= .free->∃a,X.env.cells.lookup x.1=some a:=fun x hx e=>I.ok.has x.1 (ok.free x hx e)
  refine wpAny_comprehension_free (use:=use) rfl hs (Zm hfree) ok.kind ok.names (aP (hi pins s σ H _ I h) fun v s1 h1=>aP h1 fun itv s2 h2=>?_)
  obtain⟨it,fp,tn,J,H2,e,I2,T,st2,f2,hW⟩:=h2
  subst e
  refine wpAny_newObj_type (wpAny_newFunctionEnv ok.cell (by intro y hy;simp at hy) (fun h₁ B6 ED=>?_) ok.kind)
  dsimp only at B6 ED⊢
  have I3:=I2.Es (its:=[]) (ys:=[]) (t':=s2.toks) .nil (g8 _)
  have hW:=hW s2.heap.objs.size I2.fresh
  obtain⟨W,⟨m0,w0⟩,turn⟩:=hW
  generalize DR:s2.heap.push {cls:= .type "list",dict:=none,data:= .seq ([]:List Value).toArray}=HP at B6 ED⊢
  have I3:Inv X pins σ (upd H2 s2.heap.objs.size (.lst [])) {s2 with heap:=HP}:=by rw[<-DR];exact I3
  generalize hH3:upd H2 s2.heap.objs.size (.lst [])=H3 at I3 w0
  have hC:HP.objs.size=s2.heap.objs.size+1:=by rw[<-DR,lR]
  have old:∀b o,HP.get? b=some o->h₁.get? b=some o:=fun b o e=>ED.extBut b o (eG (cz e)) (cM _ e)
  have lF:∀b∈fp,b<s2.heap.objs.size:=fun b hb=>by
    obtain⟨o,e,_⟩:=T.obj 0 _ st2 b hb
    exact cz e
  have TN:∀b∈fp,H3 b=none:=fun b hb=>by
    rw[<-hH3,aB (eG (lF b hb))]
    exact(f2 b hb).1
  have t9:∀{x:Str} {c:Addr},(j6 X.env.cells scope.names []).lookup x=some c->X.env.cells.lookup x=some c:=fun{x c} e=>BZ (fun y d q=>by simp at q) e
  have wM:(jU X scope HP.objs.size N {s2 with heap:=HP} H3 fp).Ok:=by
    refine⟨I2.ok.mod,ok.kind,I2.ok.glob,I2.ok.blt,aU _,fun x y c e1 e2=>I2.ok.inj x y c (t9 e1) (t9 e2),fun x hx=>?_,(fun x c e=>absurd (show false=true from e) (by decide)),I2.ok.hd,I2.ok.frames, .inl rfl,fun b hb=>?_,I3.bs,cG I3.ok.oz I3.sz,fun b o e hb=>?_,fun b hb hz=>?_,I3.stack,I3.PX⟩
    · have hx':scope.names.lookup x=some .free:=by
        rcases hx with hx|hx
        · exact BO ok.cell hx (.inl rfl)
        · exact BO ok.cell hx (.inr rfl)
      have hm:=qm hx'
      obtain⟨a,ha⟩:=hfree _ hm rfl
      exact⟨a,Nm hm ha⟩
    · refine⟨fun z=>?_,fun x c e=>(f2 b hb).2.2.2.2.1 x c (t9 e)⟩
      have z':b=HP.objs.size:=z
      have q:=lF b hb
      rw[z',hC] at q
      exact absurd q (Nat.not_lt.mpr (oj _))
    · rcases(f2 b hb).2.2.2.1 with z|z
      · exact I2.ok.tK b o e z
      · exact absurd (fB (cz (I2.ok.bs b o e).1) z) (mT _)
    · rcases aL.mp (I2.Cd b hz) with z|z
      · exact(f2 b hb).2.1 z
      · exact(f2 b hb).2.2.1 z
  have IY:Inv (jU X scope HP.objs.size N {s2 with heap:=HP} H3 fp) [] (gW mp σ) H3 {s2 with heap:=h₁,toks:=s2.toks+([]:List (Str×Value)).length}:=by
    refine⟨wM,rfl,I2.bare,Un.kept old,⟨_,B6,fun i x v e1 e2 e3=>?_⟩,fun x c e=>?_,I3.hok.fresh (aU _),fun x c e=>I3.kc x c (t9 e),fun p hp=>absurd (show p∈([]:List (Addr×Obj)) from hp) (by simp),I3.hok.kept old,?_⟩
    · have hj:∃j,mp[i]?=some (some j)/\σ[j]?=some (some v):=by
        unfold gW at e2
        rw[bI] at e2
        cases q:mp[i]? with
        |none=>rw[q] at e2;cases e2
        | some o =>
          rw[q] at e2
          cases o with
          |none=>cases e2
          | some j =>
            refine⟨j,rfl,?_⟩
            have e2:(match σ[j]? with|some v=>v|none=>none)=some v:=gf e2
            cases r:σ[j]? with
            |none=>rw[r] at e2;cases e2
            | some u =>
              rw[r] at e2
              have e2:u=some v:=e2
              rw[e2]
      obtain⟨j,hj1,hj2⟩:=hj
      obtain⟨l1,l2⟩:=ok.look i j x hj1 e1
      have hm:=qm l2
      have kx:=ok.free _ hm rfl
      obtain⟨mm,_,hl⟩:=I3.loc
      obtain⟨u,ru,lk⟩:=hl j x v l1 hj2 (kx.elim (fun z=> .inr (.inl z)) fun z=> .inr (.inr z))
      refine⟨u,ru, .inr ⟨Mc l2,?_⟩⟩
      rcases lk with ⟨k,_⟩|⟨_,c,e,z⟩
      · exfalso
        have k':X.env.scope.names.lookup x=some .local:=k
        rcases kx with kx|kx
        · rw[k'] at kx;cases kx
        · rw[k'] at kx;cases kx
      · refine⟨c,Nm hm e,?_⟩
        obtain⟨o,ho,hd⟩:=z
        exact⟨o,old c o ho,hd⟩
    · obtain⟨v,o,ho,hd⟩:=I3.cell x c (t9 e)
      exact⟨v,o,old c o ho,hd⟩
    · show(gW mp σ).length=N.length
      unfold gW
      rw[ao,ok.len]
  have oO:∀{H':Hp},(∀b∈fp,H' b=none)->∀b∈fp,lZ (jU X scope HP.objs.size N {s2 with heap:=HP} H3 fp) [] H' b:=fun{H'} hn b hb=>
    ⟨hn b hb,(wM.yy b hb).1,wM.sZ b hb, .inl hb,(wM.yy b hb).2,fun p hp=>absurd (show p∈([]:List (Addr×Obj)) from hp) (by simp)⟩
  have Oz:tn 0 h₁:=T.keep 0 _ _ st2 fun b hb o e=>old b o (by rw[<-DR];exact cM _ e)
  have loop:codeAny (model X.prog X.w) X.A (.compLoop (.ListComp elt [⟨tg,iter,ifs,0⟩] scope pos) 0 (.ref it) (.ref s2.heap.objs.size) (compEnvC scope (j6 X.env.cells scope.names []) HP.objs.size X.env))
      (compPost (model X.prog X.w) X.A X.xe use QQ (.ref s2.heap.objs.size) HP.objs.size) {s2 with heap:=h₁,toks:=s2.toks+([]:List (Str×Value)).length}:=by
    obtain⟨hg,ht,he⟩:=hb HP.objs.size {s2 with heap:=HP} H3 fp
    generalize hY:jU X scope HP.objs.size N {s2 with heap:=HP} H3 fp=Y at hg ht he IY oO
    have yp:Y.prog=X.prog:=by rw[<-hY];rfl
    have yw:Y.w=X.w:=by rw[<-hY];rfl
    have yK:Y.K=X.K:=by rw[<-hY];rfl
    have yA:Y.A=X.A:=by rw[<-hY];rfl
    have yc:Y.calm=true:=by rw[<-hY];exact hc
    have yx:Y.xe=fun _ _=>False:=by rw[<-hY];rfl
    have LU:Y.env=compEnvC scope (j6 X.env.cells scope.names []) HP.objs.size X.env:=by rw[<-hY];rfl
    rw[<-LU]
    refine RO (fun n s'=>∃i σ' H',Inv Y [] σ' H' s'/\tn i s'.heap/\(∀b∈fp,H' b=none)/\W i n σ' H') ?_ m0 ⟨0,_,H3,IY,Oz,TN,w0⟩
    rintro n s3 ⟨i,σ3,H4,I4,st3,fr3,w3⟩
    rcases turn i n σ3 H4 w3 with ⟨stop,qn⟩|⟨go,Nx,hN,step⟩
    · have q0:=T.done Y yp yw yK yc i [] s3 σ3 H4 (fun _ _=>False) I4 (oO fr3) st3 stop
      rw[yA] at q0
      refine aP q0 fun r s4 ⟨hr,I5⟩=>?_
      subst hr
      show compPost (model X.prog X.w) X.A X.xe use QQ (.ref s2.heap.objs.size) HP.objs.size (.ok .next) s4
      obtain⟨m,hm,_⟩:=id I5.loc
      have yl:Y.env.locals=HP.objs.size:=by rw[LU];rfl
      rw[yl] at hm
      have fC:H4 HP.objs.size=none:=by have:=I5.free;rw[yl] at this;exact this
      have ub:=I5.base
      have ub':Un (frs X.stack) fp H3 H4 HP s4.heap:=by rw[<-hY] at ub;exact ub
      have hos:s4.os=s2.os:=by have:=I5.os;rw[<-hY] at this;exact this
      have Yx:dX X.prog X.w H4 s4.heap:=by have:=I5.hok;rw[yp,yw] at this;exact this
      have IX:Inv X pins σ H4 s4:=I3.acV (ch:=fp) hos ub' Yx I5.bare fun b hb=>⟨(f2 b hb).2.2.2.1,(f2 b hb).2.1,(f2 b hb).2.2.2.2.1,(f2 b hb).2.2.2.2.2⟩
      exact fin _ _ H4 s4 m IX (I3.xr (aU _) fC) hm qn
    · have q0:=T.item Y yp yw yK yc i [] s3 σ3 H4 (fun _ _=>False) I4 (oO fr3) st3 go
      rw[yA] at q0
      refine aP q0 fun r s4 ⟨u,hr,h4⟩=>?_
      subst hr
      refine aP h4 fun _ s5 ⟨x,H5,I5,r5,y5,mV,G3⟩=>?_
      have Ew:=I5.pinned (oO G3) (T.obj _ _ mV)
      rw[<-yx,<-yp,<-yw,<-yA]
      refine aP (hg _ s5 σ3 H5 x u _ Ew r5 (step x H5 y5)) fun _ s6 ⟨uC,H6,I6,q6⟩=>?_
      refine aP (ht _ s6 uC H6 _ I6 q6) fun b s7 ⟨H7,I7,q7⟩=>?_
      have again:∀{sY:St} {H8:Hp} {s8:Shared},Inv Y ([]++uz fp s5.heap) sY H8 s8->Nx sY H8->∃m,m<n/\∃i σ' H',Inv Y [] σ' H' s8/\tn i s8.heap/\(∀b∈fp,H' b=none)/\W i m σ' H':=fun{sY H8 s8} I8 n8=>by
        obtain⟨m',hm,w8⟩:=hN sY H8 n8
        refine⟨m',hm,i+1,sY,H8,I8.zW,T.keep _ _ _ mV fun b hb o e=>(I8.pin (b,o) (jH _ (jH _ (yP hb e)))).1,fun b hb=>?_,w8⟩
        obtain⟨o,e,d⟩:=T.obj _ _ mV b hb
        exact(I8.pin (b,o) (jH _ (jH _ (yP hb e)))).2.1
      cases b with
      | false =>
        rw[if_neg bV]
        rw[if_neg bV] at q7
        exact again I7 q7
      | true =>
        rw[if_pos rfl]
        rw[if_pos rfl] at q7
        refine aP (he _ s7 uC H7 _ I7 q7) fun v s8 ⟨y,H8,I8,r8,ys,e8,z8,n8⟩=>?_
        refine aP (rO _ s8 uC H8 (.ref s2.heap.objs.size) [y] (.ref s2.heap.objs.size) [v] (fun _ H9=>H9=upd H8 s2.heap.objs.size (.lst (ys++[y]))) I8 rfl (.cons r8 .nil) ⟨_,ys,y,rfl,rfl,e8,z8,rfl⟩) fun v9 s9 ⟨y9,H9,I9,r9,e9⟩=>?_
        subst e9
        exact again I9 n8
  refine codeAny_compStart_list loop (T.self _ _ _ _ _ Oz loop)
theorem lZ.turned{pins:List (Addr×Obj)}{s:Shared}{σ:St}{H:Hp}{C:Addr}{h':Heap}(I:Inv X pins σ H s)(f:lZ X pins H C)(hs:Heap.SameBut C s.heap h'):Inv X pins σ H {s with heap:=h'}:=
 I.turned (t':=s.toks) (fun b o hb e=>(hs.2 b hb).trans e) f.1 f.2.1 f.2.2.2.1 f.2.2.2.2.1 f.2.2.2.2.2
theorem jX{elt iter tg:Expr}{ifs:List Expr}{scope:Scope}{pos:Pos}{N:List Str}{mp:List (Option Nat)}{wi:TI}{g:TG}{tc:TT}{te:TE}
  (ok:gF X.env.scope X.N scope N mp) (hi:PI X tg iter wi)
  (hb:∀C s₀ H₀ fp,PG (jU X scope C N s₀ H₀ fp) tg g/\tX (jU X scope C N s₀ H₀ fp) ifs tc/\PE (jU X scope C N s₀ H₀ fp) elt te) (hc:X.calm=true:=by rfl)
  (hs:∀x,foldedSetIterable iter X.env x=pure x:=by intro _;rfl):PE X (.ListComp elt [⟨tg,iter,ifs,0⟩] scope pos) (kY wi g tc te mp):=by
 intro pins s σ H Q I h
 rw[eval_ListComp]
 refine JB (use:=none) ok hc hi hb hs I h fun acc C H' s' m I' f hn q=>?_
 exact⟨m,hn,fun h' hs'=>⟨.ref acc,H',f.turned I' hs',rfl,q⟩⟩
def Nz(i:Nat)(t:TE):TS:=fun D σ H=>t σ H fun v H'=>D.nx (σ.set i (some v)) H'
theorem KJ{elt iter tg:Expr}{ifs:List Expr}{scope:Scope}{pos spos py:Pos}{N:List Str}{mp:List (Option Nat)}{wi:TI}{g:TG}{tc:TT}{te:TE}{i:Nat}{y:Str}
  (hN:X.N.Nodup) (hy:X.N[i]?=some y) (hk:X.env.kindOf y=some .local)
  (ok:gF X.env.scope X.N scope N mp) (hi:PI X tg iter wi)
  (hb:∀C s₀ H₀ fp,PG (jU X scope C N s₀ H₀ fp) tg g/\tX (jU X scope C N s₀ H₀ fp) ifs tc/\PE (jU X scope C N s₀ H₀ fp) elt te) (hc:X.calm=true:=by rfl)
  (hsw:swapsWith (.ListComp elt [⟨tg,iter,ifs,0⟩] scope pos) (some (.Name y py)) spos.line X.env=pure true:=by rfl)
  (hs:∀x,foldedSetIterable iter X.env x=pure x:=by intro _;rfl):PS X (.Assign [.Name y py] (.ListComp elt [⟨tg,iter,ifs,0⟩] scope pos) spos) (Nz i (kY wi g tc te mp)):=by
 intro pins s σ H D I h
 rw[exec_Assign_Name_used _ _ _ _ hsw]
 refine wpAny_bind (wpAny_standAt (wpAny_bind ?_))
 show wpAny _ X.A (do let _<-comprehension (.ListComp elt [⟨tg,iter,ifs,0⟩] scope pos) scope X.env _ (newList []) false (eval iter X.env) (some (assign (.Name y py) X.env))) _ _ s
 refine wpAny_bind (wpAny_mono (JB (use:=some (assign (.Name y py) X.env)) (QQ:=fun _ s'=>SP X pins D .next s') ok hc hi hb hs I h fun acc C H' s' m I' f hn q=>?_) (fun _ s' hq=>wpAny_pure (wpAny_pure hq)) fun _ _ e=>e)
 refine wpAny_assign_Name (Nj (v:= .ref acc) I' hN hy (.inl hk) rfl (fun s2 I2 ⟨a,sb,ha⟩=>?_) (.inr hk))
 have hne:C≠a:=by
  rcases ha with z|z
  ·rw[z];exact f.2.1
  ·exact fun e=>f.2.2.2.2.1 y a z e.symm
 exact⟨m,hn.sameBut sb hne,fun h' hs'=>⟨_,H',f.turned I2 hs',q⟩⟩
end
def Sm(i:Int):Prop:= -(2^300)<i/\i<2^300
theorem HE{i:Int}(h:Sm i):Builtin.Int.intBits i<=2^20:=by
 obtain⟨h1,h2⟩:=h
 unfold Builtin.Int.intBits
 split
 ·exact g8 _
 ·rename_i h0
  have hn:i.natAbs≠0:=by
   intro e
   apply h0
   simp
   omega
  have h3:i.natAbs<2^300:=by omega
  have h4:i.natAbs.log2<300:=(Nat.log2_lt hn).mpr h3
  have:(2:Nat)^20=1048576:=by decide
  omega
theorem SI{x y:Int}(h:Sm y):Builtin.divisionGoesByPylong x y=false:=by
 refine PyProof.noPylong_of_log2 ?_
 obtain⟨h1,h2⟩:=h
 by_cases h0:y.natAbs=0
 ·rw[h0];decide+kernel
 ·have h3:y.natAbs<2^300:=by omega
  have h4:y.natAbs.log2<300:=(Nat.log2_lt h0).mpr h3
  omega
section
variable{X:Cx}
theorem o9:dR X (binaryOp .FloorDiv) (rI (fun _ j=>0<j/\Sm j) fun i j=> .int (i/j)):=Ba fun i j _ _ _ _ _ hc q=>
 floordiv_int (by omega) (by rw[Int.fdiv_eq_ediv_of_nonneg _ (by omega)];exact q) (.inl (SI hc.2))
def lX(K:PySem.W.Frag):List V->Hp->VK->Prop:=fun xs H Q=>∃x T t b,xs=[x, .ty T]/\jy K H x t/\PySem.W.kitOne K t (.type T)=some b/\Q (.bl b) H
theorem oJ:gn X (.builtin "isinstance") (lX X.K):=by
 intro pins s σ H xs us Q I rv h
 obtain⟨x,T,t,b,rfl,ty,e,q⟩:=h
 obtain⟨u,v,rfl,ru,rv⟩:=rv.two
 cases (show v=Value.type T from rv)
 exact Zv I ru ty e fun tk=>⟨.bl b,H,I.tok tk,rfl,q⟩
def MW:PyData->Key->Prop
 | .int i,k=>k= .inl i
 | .str x,k=>k= .inr x
 |_,_=>False
mutual
def af(nb:Addr->Prop)(H:Hp):PyData->V->Prop
 | .none,v=>v= .aI
 | .bool b,v=>v= .bl b
 | .int i,v=>v= .int i
 | .str x,v=>v= .str x
 | .list ds,v=>∃a xs,v= .ref a/\¬nb a/\H a=some (.lst xs)/\ah nb H ds xs
 | .tuple ds,v=>∃a xs,v= .ref a/\¬nb a/\H a=some (.tup xs)/\ah nb H ds xs
 | .dict kvs,v=>∃a ps,v= .ref a/\¬nb a/\Rd H a (.dK ps)/\aq nb H kvs ps
termination_by structural d=>d
def ah(nb:Addr->Prop)(H:Hp):List PyData->List V->Prop
 |[],xs=>xs=[]
 |d::ds,xs=>∃y ys,xs=y::ys/\af nb H d y/\ah nb H ds ys
termination_by structural d=>d
def aq(nb:Addr->Prop)(H:Hp):List (PyData×PyData)->List (Key×V)->Prop
 |[],xs=>xs=[]
 |d::ds,xs=>∃p ys,xs=p::ys/\c6 nb H d p/\aq nb H ds ys
termination_by structural d=>d
def c6(nb:Addr->Prop)(H:Hp):PyData×PyData->Key×V->Prop
 |(k,d),p=>MW k p.1/\af nb H d p.2
termination_by structural d=>d
end
def aZ(nb:Addr->Prop)(H H':Hp):Prop:=∀a o,¬nb a->H a=some o->H' a=some o
def Nb(b:Addr):Addr->Prop:=fun a=>a=b
section
variable{nb aC:Addr->Prop}{H H1 H2 H':Hp}{a b c p:Addr}{o:HO}{xs:List V}
theorem aZ.refl(nb:Addr->Prop)(H:Hp):aZ nb H H:=fun _ _ _ h=>h
theorem aZ.trans(x:aZ nb H H1)(y:aZ nb H1 H2):aZ nb H H2:=fun a o n h=>y a o n (x a o n h)
theorem aZ.of(x:cS H H'):aZ nb H H':=fun a o _ h=>x a o h
theorem aZ.set(h:nb p):aZ nb H (upd H p o):=fun a u n q=>by rw[aB (fun e=>n (by rw[e];exact h))];exact q
theorem aZ.rd{u:HO}(x:aZ nb H H')(n:¬nb a)(h:Rd H a u):Rd H' a u:=by
 rcases h with h|⟨o,h⟩
 ·exact .inl (x _ _ n h)
 ·exact .inr ⟨o,x _ _ n h⟩
end
mutual
theorem af.keep{nb:Addr->Prop}{H H':Hp}(x:aZ nb H H'):∀{d:PyData} {v:V},af nb H d v->af nb H' d v
 | .none,_,h=>by unfold af at h⊢;exact h
 | .bool _,_,h=>by unfold af at h⊢;exact h
 | .int _,_,h=>by unfold af at h⊢;exact h
 | .str _,_,h=>by unfold af at h⊢;exact h
 | .list ds,_,h=>by unfold af at h⊢;obtain⟨a,xs,e,n,s,r⟩:=h;exact⟨a,xs,e,n,x _ _ n s,ah.keep x r⟩
 | .tuple ds,_,h=>by unfold af at h⊢;obtain⟨a,xs,e,n,s,r⟩:=h;exact⟨a,xs,e,n,x _ _ n s,ah.keep x r⟩
 | .dict kvs,_,h=>by unfold af at h⊢;obtain⟨a,xs,e,n,s,r⟩:=h;exact⟨a,xs,e,n,x.rd n s,aq.keep x r⟩
theorem ah.keep{nb:Addr->Prop}{H H':Hp}(x:aZ nb H H'):∀{ds:List PyData} {vs:List V},ah nb H ds vs->ah nb H' ds vs
 |[],_,h=>by unfold ah at h⊢;exact h
 |d::ds,_,h=>by unfold ah at h⊢;obtain⟨y,ys,e,h1,h2⟩:=h;exact⟨y,ys,e,af.keep x h1,ah.keep x h2⟩
theorem aq.keep{nb:Addr->Prop}{H H':Hp}(x:aZ nb H H'):∀{ds:List (PyData×PyData)} {vs:List (Key×V)},aq nb H ds vs->aq nb H' ds vs
 |[],_,h=>by unfold aq at h⊢;exact h
 |d::ds,_,h=>by unfold aq at h⊢;obtain⟨y,ys,e,h1,h2⟩:=h;exact⟨y,ys,e,c6.keep x h1,aq.keep x h2⟩
theorem c6.keep{nb:Addr->Prop}{H H':Hp}(x:aZ nb H H'):∀{d:PyData×PyData} {v:Key×V},c6 nb H d v->c6 nb H' d v
 |(k,d),_,h=>by unfold c6 at h⊢;exact⟨h.1,af.keep x h.2⟩
end
mutual
theorem af.av{nb aC:Addr->Prop}{H:Hp}(x:∀a,aC a->nb a):∀{d:PyData} {v:V},af nb H d v->af aC H d v
 | .none,_,h=>by unfold af at h⊢;exact h
 | .bool _,_,h=>by unfold af at h⊢;exact h
 | .int _,_,h=>by unfold af at h⊢;exact h
 | .str _,_,h=>by unfold af at h⊢;exact h
 | .list ds,_,h=>by unfold af at h⊢;obtain⟨a,xs,e,n,s,r⟩:=h;exact⟨a,xs,e,fun z=>n (x a z),s,ah.av x r⟩
 | .tuple ds,_,h=>by unfold af at h⊢;obtain⟨a,xs,e,n,s,r⟩:=h;exact⟨a,xs,e,fun z=>n (x a z),s,ah.av x r⟩
 | .dict kvs,_,h=>by unfold af at h⊢;obtain⟨a,xs,e,n,s,r⟩:=h;exact⟨a,xs,e,fun z=>n (x a z),s,aq.av x r⟩
theorem ah.av{nb aC:Addr->Prop}{H:Hp}(x:∀a,aC a->nb a):∀{ds:List PyData} {vs:List V},ah nb H ds vs->ah aC H ds vs
 |[],_,h=>by unfold ah at h⊢;exact h
 |d::ds,_,h=>by unfold ah at h⊢;obtain⟨y,ys,e,h1,h2⟩:=h;exact⟨y,ys,e,af.av x h1,ah.av x h2⟩
theorem aq.av{nb aC:Addr->Prop}{H:Hp}(x:∀a,aC a->nb a):∀{ds:List (PyData×PyData)} {vs:List (Key×V)},aq nb H ds vs->aq aC H ds vs
 |[],_,h=>by unfold aq at h⊢;exact h
 |d::ds,_,h=>by unfold aq at h⊢;obtain⟨y,ys,e,h1,h2⟩:=h;exact⟨y,ys,e,c6.av x h1,aq.av x h2⟩
theorem c6.av{nb aC:Addr->Prop}{H:Hp}(x:∀a,aC a->nb a):∀{d:PyData×PyData} {v:Key×V},c6 nb H d v->c6 aC H d v
 |(k,d),_,h=>by unfold c6 at h⊢;exact⟨h.1,af.av x h.2⟩
end
mutual
theorem af.fresh{nb:Addr->Prop}{H:Hp}{p:Addr}(hp:H p=none):∀{d:PyData} {v:V},af nb H d v->af (fun a=>nb a\/a=p) H d v
 | .none,_,h=>by unfold af at h⊢;exact h
 | .bool _,_,h=>by unfold af at h⊢;exact h
 | .int _,_,h=>by unfold af at h⊢;exact h
 | .str _,_,h=>by unfold af at h⊢;exact h
 | .list ds,_,h=>by unfold af at h⊢;obtain⟨a,xs,e,n,s,r⟩:=h;exact⟨a,xs,e,fun z=>z.elim n (ji s hp),s,ah.fresh hp r⟩
 | .tuple ds,_,h=>by unfold af at h⊢;obtain⟨a,xs,e,n,s,r⟩:=h;exact⟨a,xs,e,fun z=>z.elim n (ji s hp),s,ah.fresh hp r⟩
 | .dict kvs,_,h=>by unfold af at h⊢;obtain⟨a,xs,e,n,s,r⟩:=h;exact⟨a,xs,e,fun z=>z.elim n (s.elim (fun s=>ji s hp) fun⟨_,s⟩=>ji s hp),s,aq.fresh hp r⟩
theorem ah.fresh{nb:Addr->Prop}{H:Hp}{p:Addr}(hp:H p=none):∀{ds:List PyData} {vs:List V},ah nb H ds vs->ah (fun a=>nb a\/a=p) H ds vs
 |[],_,h=>by unfold ah at h⊢;exact h
 |d::ds,_,h=>by unfold ah at h⊢;obtain⟨y,ys,e,h1,h2⟩:=h;exact⟨y,ys,e,af.fresh hp h1,ah.fresh hp h2⟩
theorem aq.fresh{nb:Addr->Prop}{H:Hp}{p:Addr}(hp:H p=none):∀{ds:List (PyData×PyData)} {vs:List (Key×V)},aq nb H ds vs->aq (fun a=>nb a\/a=p) H ds vs
 |[],_,h=>by unfold aq at h⊢;exact h
 |d::ds,_,h=>by unfold aq at h⊢;obtain⟨y,ys,e,h1,h2⟩:=h;exact⟨y,ys,e,c6.fresh hp h1,aq.fresh hp h2⟩
theorem c6.fresh{nb:Addr->Prop}{H:Hp}{p:Addr}(hp:H p=none):∀{d:PyData×PyData} {v:Key×V},c6 nb H d v->c6 (fun a=>nb a\/a=p) H d v
 |(k,d),_,h=>by unfold c6 at h⊢;exact⟨h.1,af.fresh hp h.2⟩
end
mutual
theorem af.reads{pins:List (Addr×Obj)}{σ:St}{H:Hp}{s:Shared}{nb:Addr->Prop}(I:Inv X pins σ H s):∀{d:PyData} {v:V} {u:Value},af nb H d v->RelV v u->d.canLay0=true->∃as,Reads s.heap u d as
  | .none,_,_,h,r,_=>by unfold af at h;subst h;cases r;exact⟨_, .none⟩
  | .bool _,_,_,h,r,_=>by unfold af at h;subst h;cases r;exact⟨_, .bool _⟩
  | .int _,_,_,h,r,_=>by unfold af at h;subst h;obtain⟨t,rfl⟩:=r;exact⟨_, .int _ _⟩
  | .str _,_,_,h,r,_=>by unfold af at h;subst h;obtain⟨t,rfl⟩:=r;exact⟨_, .str _ _⟩
  | .list ds, _, _, h, r, hc0 => by
    unfold af at h
    obtain⟨a,xs,rfl,n,s,q⟩:=h
    cases r
    obtain⟨its,rv,p,hz⟩:=I.list (bh.of s)
    obtain⟨as,ra⟩:=ah.reads I q rv (by simpa only[PyData.canLay0] using hc0)
    obtain⟨o,ho,hc,m,hd⟩:=p.isList
    exact⟨_, .list ho hc hd (by simpa using ra)⟩
  | .tuple ds, _, _, h, r, hc0 => by
    unfold af at h
    obtain⟨a,xs,rfl,n,s,q⟩:=h
    cases r
    obtain⟨its,rv,p,hz⟩:=I.tuple (gY.of s)
    obtain⟨as,ra⟩:=ah.reads I q rv (by simpa only[PyData.canLay0] using hc0)
    obtain⟨o,ho,hc,m,hd⟩:=p
    exact⟨_, .tuple ho hc hd (by simpa using ra)⟩
  | .dict _,_,_,h,r,hc0=>by simp[PyData.canLay0] at hc0
theorem ah.reads{pins:List (Addr×Obj)}{σ:St}{H:Hp}{s:Shared}{nb:Addr->Prop}(I:Inv X pins σ H s):∀{ds:List PyData} {vs:List V} {us:List Value},ah nb H ds vs->Vals vs us->PyData.canLayAll0 ds=true->∃as,ReadsAll s.heap us ds as
  |[],_,_,h,r,_=>by unfold ah at h;subst h;cases r;exact⟨_, .nil⟩
  | d :: ds, _, _, h, r, hc0 => by
    rw[PyData.canLayAll0,fU] at hc0
    unfold ah at h
    obtain⟨y,ys,rfl,h1,h2⟩:=h
    cases r with
    | cons r1 r2 =>
      obtain⟨as,q1⟩:=af.reads I h1 r1 hc0.1
      obtain⟨bs,q2⟩:=ah.reads I h2 r2 hc0.2
      exact⟨_, .cons q1 q2⟩
end
def zy(neg:Bool):R2:=fun x y H Q=>∃nb d e,af nb H d x/\af nb H e y/\SeqAt.shaped d=true/\SeqAt.shaped e=true/\Q (.bl (PyData.eqv d e !=neg)) H
theorem EH(hu:X.A.units+64<cLine):dR X (compareOp .Eq) (zy false):=by
 intro pins s σ H x y v u Q I rx ry h
 obtain⟨nb,d,e,h1,h2,h3,h4,q⟩:=h
 obtain⟨as,r1⟩:=h1.reads I rx (xX h3)
 obtain⟨bs,r2⟩:=h2.reads I ry (xX h4)
 exact eq_dataH r1 r2 h3 h4 hu ⟨.bl _,H,I,rfl,by simpa using q⟩
theorem Oh(hu:X.A.units+64<cLine):dR X (compareOp .NotEq) (zy true):=by
 intro pins s σ H x y v u Q I rx ry h
 obtain⟨nb,d,e,h1,h2,h3,h4,q⟩:=h
 obtain⟨as,r1⟩:=h1.reads I rx (xX h3)
 obtain⟨bs,r2⟩:=h2.reads I ry (xX h4)
 exact ne_dataH r1 r2 h3 h4 hu ⟨.bl _,H,I,rfl,by simpa using q⟩
end
structure Callee(P:Program)(w:World)(K:PySem.W.Frag)(mg:Str->Option Value)(base:Heap)(x:Str)(k:Nat)(ps:List Str)(sp:Sp):Prop where
 ex:∃f fd,bq P w K mg base bG k f fd ps sp/\Binds K fd ps []/\PySem.W.keepIn K (.ref f)=true/\mg x=some (.ref f)
theorem bw{X:Cx}{x:Str}{k:Nat}{ps:List Str}{sp:Sp}{p pos:Pos}{e:Expr}{es:List Expr}{t:TA}(c:Callee X.prog X.w X.K X.mg X.base x k ps sp)(hr:ez k X.A)(ha:PA X (e::es) t)(hg:Gl X x:=by rfl)
  (hdb:(x==("__debug__":Str))=false:=by decide) (he:starEach (e::es) X.env=(false,eval e X.env)::starEach es X.env:=by rfl) (hpl:(backTo pos (starEach es X.env)).any (·.1)=false:=by rfl):
  PE X (.Call (.Name x p) (e::es) [] pos) (iF sp [] E0 t):=by
 obtain⟨f,fd,F,b,kp,m⟩:=c.ex
 exact Ve F hr hg m kp b .nil Az ha hdb he hpl
theorem Callee.mk'{P:Program}{w:World}{K:PySem.W.Frag}{mg:Str->Option Value}{base:Heap}{x:Str}{st:Stmt}{k:Nat}{ps:List Str}{sp:Sp}{f:Addr}{fd:FuncData}(F:bM K x x st f fd)(ok:bq P w K mg base bG k f fd ps sp)(b:Binds K fd ps [])
  (m:mg x=some (.ref f)):Callee P w K mg base x k ps sp:=⟨f,fd,ok,b,F.kp,m⟩
def bu(K:PySem.W.Frag)(x q:Str)(st:Stmt)(f:Addr):Prop:=PySem.W.nsIn K mainGlobals x=some (some (.ref f))/\∃fd,bM K x q st f fd
theorem bu.mk{K:PySem.W.Frag}{x q:Str}{st:Stmt}{f:Addr}{oc:Value}{od an:Option Addr}{osl:Array (Option Value)}{kV doc pm cdv ct:Value}(a:PySem.W.nsIn K mainGlobals x=some (some (.ref f)))(l:K.lookup f=some ⟨oc,od, .func (PySem.W.fnOf x q (gQ st) (gx st) (aN st) .none kV doc pm an cdv ct),osl⟩)
  (c:PySem.W.codeIn K cdv q=true) (k:PySem.W.keepIn K (.ref f)=true):bu K x q st f:=⟨a,_,jt l c k⟩
end L2
set_option maxRecDepth 100000
set_option maxHeartbeats 1000000
namespace L2
open PySem PySem.Spec PyProof.Rows
section
variable{X:Cx}
theorem jn:dR X (binaryOp .Mult) (rI (fun i j=>BA i j\/(Sm i/\Sm j)) fun i j=> .int (i*j)):=Ba fun _ _ _ _ _ _ _ hc q=>mul_int q (by
 rcases hc with hc|hc
 ·exact hc.ok
 ·exact IntMulOk.of_bits (HE hc.1) (HE hc.2))
end
def eg(H:Hp)(b l:Addr):Prop:=∃(ns:List Int) (i c st n:Int),H b=some (.lst [.ref l, .int i, .int c, .int st, .int n])/\H l=some (.lst (ns.map V.int))/\
 (∀x∈ns,0<=x/\x<10^60)/\ns.length<=63/\0<=i/\0<=c/\c<10^60/\0<=st/\st<2147483647
theorem aaN{H:Hp}{b l:Addr}{ns:List Int}{i c st n:V}(h:H b=some (.lst [.ref l,i,c,st,n]))(h':H l=some (.lst (ns.map V.int))):l≠b:=by
 intro e
 subst e
 rw[h] at h'
 have e:=HO.lst.inj (gf h')
 cases ns with
 |nil=>cases e
 |cons x r=>rw[bL] at e;cases (List.cons.inj e).1
theorem eg.put{H:Hp}{b l:Addr}{ns:List Int}{i c st n:Int}(hl:l≠b)(h':H l=some (.lst (ns.map V.int)))(h1:∀x∈ns,0<=x/\x<10^60)(h2:ns.length<=63)
  (h3:0<=i) (h4:0<=c) (h5:c<10^60) (h6:0<=st) (h7:st<2147483647):eg (upd H b (.lst [.ref l, .int i, .int c, .int st, .int n])) b l:=
 ⟨ns,i,c,st,n,aQ,by rw[aB hl];exact h',h1,h2,h3,h4,h5,h6,h7⟩
theorem eg.put2{H:Hp}{b l p:Addr}{o:HO}(h:eg H b l)(hp:p≠b/\p≠l):eg (upd H p o) b l:=by
 obtain⟨ns,i,c,st,n,h1,h2,r⟩:=h
 exact⟨ns,i,c,st,n,by rw[aB (cX hp.1)];exact h1,by rw[aB (cX hp.2)];exact h2,r⟩
theorem eg.same{H H':Hp}{b l:Addr}(h:eg H b l)(s:cS H H'):eg H' b l:=by
 obtain⟨ns,i,c,st,n,h1,h2,r⟩:=h
 exact⟨ns,i,c,st,n,s _ _ h1,s _ _ h2,r⟩
def kG:Sp:=fun vs H Q _=>∃(b l:Addr) (many:Int),vs=[.ref b, .int many]/\eg H b l/\0<many/\Sm many/\∀(r:Int) (H':Hp),0<=r->r<many->aZ (Nb b) H H'->eg H' b l->Q (.int r) H'
def P7(K:PySem.W.Frag):Sp:=fun vs H Q _=>∃(a:Addr) (ns:List Int),vs=[.ref a]/\bh K H a (ns.map V.int)/\ns.length<=63/\∀(b l:Addr) (H':Hp),cS H H'->H b=none->eg H' b l->Q (.ref b) H'
theorem lD{α:Type}{xs:List α}{i:Int}{v:α}(h0:0<=i)(h:xs[i.toNat]?=some v):cO xs i=some v:=by
 have e:i=((i.toNat:Nat):Int):=by omega
 rw[e]
 exact Rz h
theorem dD{H:Hp}{p:Addr}{o:HO}(h:H p=none):cS H (upd H p o):=fun b u q=>by rw[aB (ji q h)];exact q
section
variable{nb:Addr->Prop}{H H':Hp}
theorem ah.length:∀{ds:List PyData} {xs:List V},ah nb H ds xs->xs.length=ds.length
 |[],_,h=>by unfold ah at h;subst h;rfl
 |d::ds,_,h=>by unfold ah at h;obtain⟨y,ys,rfl,_,h2⟩:=h;simp[ah.length h2]
theorem ah.get:∀{ds:List PyData} {xs:List V} {i:Nat} {d:PyData},ah nb H ds xs->ds[i]?=some d->∃x,xs[i]?=some x/\af nb H d x
 |[],_,_,_,_,e=>by simp at e
 |d::ds,_,0,_,h,e=>by unfold ah at h;obtain⟨y,ys,rfl,h1,h2⟩:=h;simp at e;subst e;exact⟨y,rfl,h1⟩
 |d::ds,_,i+1,_,h,e=>by unfold ah at h;obtain⟨y,ys,rfl,h1,h2⟩:=h;simpa using ah.get (i:=i) h2 (by simpa using e)
theorem ah.snoc{d:PyData}{x:V}(hd:af nb H d x):∀{ds:List PyData} {xs:List V},ah nb H ds xs->ah nb H (ds++[d]) (xs++[x])
 |[],_,h=>by unfold ah at h;subst h;unfold ah;exact⟨x,[],rfl,hd,by unfold ah;rfl⟩
 |e::ds,_,h=>by unfold ah at h;obtain⟨y,ys,rfl,h1,h2⟩:=h;show ah nb H (e::(ds++[d])) _;unfold ah;exact⟨y,ys++[x],rfl,h1,ah.snoc hd h2⟩
theorem ah.append:∀{ds es:List PyData} {xs ys:List V},ah nb H ds xs->ah nb H es ys->ah nb H (ds++es) (xs++ys)
 |[],_,_,_,h,h'=>by unfold ah at h;subst h;exact h'
 |e::ds,es,_,zs,h,h'=>by unfold ah at h;obtain⟨y,ys,rfl,h1,h2⟩:=h;show ah nb H (e::(ds++es)) _;unfold ah;exact⟨y,ys++zs,rfl,h1,ah.append h2 h'⟩
theorem ah.take:∀{ds:List PyData} {xs:List V} (n:Nat),ah nb H ds xs->ah nb H (ds.take n) (xs.take n)
 |_,_,0,_=>by simp only[uW];unfold ah;rfl
 |[],_,n+1,h=>by unfold ah at h;subst h;simp only[List.take_nil];unfold ah;rfl
 |d::ds,_,n+1,h=>by unfold ah at h;obtain⟨y,ys,rfl,h1,h2⟩:=h;simp only[List.take_succ_cons];unfold ah;exact⟨y,_,rfl,h1,ah.take n h2⟩
theorem ah.drop:∀{ds:List PyData} {xs:List V} (n:Nat),ah nb H ds xs->ah nb H (ds.drop n) (xs.drop n)
 |_,_,0,h=>h
 |[],_,n+1,h=>by unfold ah at h;subst h;simp only[List.drop_nil];unfold ah;rfl
 |d::ds,_,n+1,h=>by unfold ah at h;obtain⟨y,ys,rfl,h1,h2⟩:=h;simp only[List.drop_succ_cons];exact ah.drop n h2
theorem ah.nil:ah nb H [] []:=by unfold ah;rfl
theorem ah.cons{d:PyData}{x:V}{ds:List PyData}{xs:List V}(h1:af nb H d x)(h2:ah nb H ds xs):ah nb H (d::ds) (x::xs):=by unfold ah;exact⟨x,xs,rfl,h1,h2⟩
theorem af.int(i:Int):af nb H (.int i) (.int i):=by unfold af;rfl
theorem af.aI:af nb H .none .aI:=by unfold af;rfl
theorem af.bl(b:Bool):af nb H (.bool b) (.bl b):=by unfold af;rfl
theorem af.lst{a:Addr}{ds:List PyData}{xs:List V}(n:¬nb a)(h:H a=some (.lst xs))(hd:ah nb H ds xs):af nb H (.list ds) (.ref a):=by unfold af;exact⟨a,xs,rfl,n,h,hd⟩
theorem af.tup{a:Addr}{ds:List PyData}{xs:List V}(n:¬nb a)(h:H a=some (.tup xs))(hd:ah nb H ds xs):af nb H (.tuple ds) (.ref a):=by unfold af;exact⟨a,xs,rfl,n,h,hd⟩
theorem af.gy{v:V}{ds:List PyData}(h:af nb H (.list ds) v):∃a xs,v= .ref a/\¬nb a/\H a=some (.lst xs)/\ah nb H ds xs:=by unfold af at h;exact h
theorem af.ofT{v:V}{ds:List PyData}(h:af nb H (.tuple ds) v):∃a xs,v= .ref a/\¬nb a/\H a=some (.tup xs)/\ah nb H ds xs:=by unfold af at h;exact h
theorem af.bD{v:V}{i:Int}(h:af nb H (.int i) v):v= .int i:=by unfold af at h;exact h
theorem af.yJ{v:V}(h:af nb H .none v):v= .aI:=by unfold af at h;exact h
end
def Zr:Sp:=fun vs H Q _=>∃i:Int,vs=[.int i]/\Q (.bl true) H
def we(K:PySem.W.Frag):Sp:=fun vs H Q _=>∃(a:Addr) (ns:List Int),vs=[.ref a]/\bh K H a (ns.map V.int)/\ns.length<=63/\∀H',Q (.bl true) H'
end L2
set_option maxRecDepth 100000
set_option maxHeartbeats 1000000
namespace L2
open PySem PySem.Spec PyProof.Rows
def Cm(Q:VK):List V->Hp->Prop:=fun xs H1=>xs.length<=sizeLine/\∀p,H1 p=none->Q (.ref p) (upd H1 p (.lst xs))
def l8(K:PySem.W.Frag):List V->Hp->VK->Prop:=fun xs H Q=>∃p ys,xs=[.ref p]/\(bh K H p ys\/gY K H p ys)/\∀l,H l=none->Q (.ref l) (upd H l (.lst ys))
theorem xZ{X:Cx}:gn X (.type "list") (l8 X.K):=abp
def HG:R2:=fun x y H Q=>y= .aI/\Q (.bl (decide (x= .aI))) H
def Bu:R2:=fun x y H Q=>y= .aI/\Q (.bl (!decide (x= .aI))) H
theorem oU{X:Cx}:dR X (compareOp .Is) HG:=aaf
theorem NT{X:Cx}:dR X (compareOp .IsNot) Bu:=SJ
def intOf:Expr->Option Int
 | .Constant (.int i) _ _=>some i
 |_=>none
theorem aai{e:Expr}{i:Int}(h:intOf e=some i):∃k p,e= .Constant (.int i) k p:=by
 unfold intOf at h
 split at h
 ·cases h;exact⟨_,_,rfl⟩
 ·cases h
def qH:List Expr->Option (List Int)
 |[]=>some []
 |e::r=>(intOf e).bind fun i=>(qH r).map (i:: ·)
def xK(is:List Int):TA:=fun _ H Q=>Q (is.map V.int) H
theorem Mp{X:Cx}:∀{es:List Expr} {is:List Int},qH es=some is->PA X es (xK is):=by
  intro es
  induction es with
  | nil =>
    intro is h
    have e:is=[]:=by simpa[qH] using h.symm
    subst e
    exact aj
  | cons e r ih =>
    intro is h
    unfold qH at h
    cases hi:intOf e with
    |none=>rw[hi] at h;cases h
    | some i =>
      rw[hi] at h
      obtain⟨k,p,rfl⟩:=aai hi
      obtain⟨js,hj,rfl⟩:=jo.mp (show(qH r).map (i:: ·)=some is from h)
      exact aa (te:=tC (.int i)) (t:=xK js) ai (ih hj)
theorem QN{X:Cx}{i:Nat}{x:Str}{es:List Expr}{is:List Int}{p1 p2 p3:Pos}(hN:X.N.Nodup)(hi:X.N[i]?=some x)(hx:Loc X.env.scope x)(h:qH es=some is)(hf:X.fn x=true\/X.env.scope.names.lookup x=some .local):
  PS X (.Assign [.Name x p1] (.List es p2) p3) (fZ (mw (xK is)) (iK i)):=aV hN hi hx (iw (Mp h)) rfl hf
namespace R
section
variable{σ:St}{H:Hp}{Q:VK}{D:Ends}{ta tb te:TE}{K:PySem.W.Frag}
theorem seq{t u:TS}(h:t {D with nx:=u D} σ H):mP t u D σ H:=h
theorem asg{g:TG}(h:te σ H fun x H1=>g x σ H1 D.nx):fZ te g D σ H:=h
theorem jE{c:TT}{t u:TS}(h:c σ H fun b H1=>if b=true then t D σ H1 else u D σ H1):yr c t u D σ H:=h
theorem ret(h:te σ H D.rt):mW te D σ H:=h
theorem next(h:D.nx σ H):EB D σ H:=h
theorem var{i:Nat}{v:V}(e:σ[i]?=some (some v))(h:Q v H):bf i σ H Q:=⟨v,e,h⟩
theorem c{v:V}(h:Q v H):tC v σ H Q:=h
theorem op{r:R2}(h:ta σ H fun x H1=>tb σ H1 fun y H2=>r x y H2 Q):cP r ta tb σ H Q:=h
theorem test{q:Bool->Hp->Prop}(h:te σ H fun x H'=>∃k,x= .bl k/\q k H'):uK te σ H q:=h
theorem bl{P:Bool->Prop}{b:Bool}(h:P b):∃k,V.bl b= .bl k/\P k:=⟨b,rfl,h⟩
theorem and{t u:TT}{q:Bool->Hp->Prop}(h:t σ H fun c H1=>if c=true then u σ H1 q else q false H1):Br t u σ H q:=h
theorem cb{r:List V->Hp->VK->Prop}{t:TA}(h:t σ H fun vs H1=>r vs H1 Q):fc r t σ H Q:=h
theorem call{sp:Sp}{t:TA}(h:t σ H fun vs H1=>sp (vs++[]) H1 Q E0):iF sp [] E0 t σ H Q:=h
theorem nil{q:List V->Hp->Prop}(h:q [] H):bE σ H q:=h
theorem cons{t:TA}{q:List V->Hp->Prop}(h:ta σ H fun x H1=>t σ H1 fun xs H2=>q (x::xs) H2):aX ta t σ H q:=h
theorem lst{t:TA}(h:t σ H (Cm Q)):mw t σ H Q:=h
theorem sl{r:V->Option Int->Option Int->Hp->VK->Prop}{tl th:TO}(h:te σ H fun x H1=>tl σ H1 fun l H2=>th σ H2 fun u H3=>r x l u H3 Q):GG r te tl th σ H Q:=h
theorem UX{q:Option Int->Hp->Prop}(h:q none H):GQ σ H q:=h
theorem part{q:Option Int->Hp->Prop}(h:te σ H fun x H1=>∃i,x= .int i/\q (some i) H1):BW te σ H q:=h
theorem Wl{P:Int->Prop}{i:Int}(h:P i):∃j,V.int i= .int j/\P j:=⟨i,rfl,h⟩
theorem bm0{T:String}{r:V->List V->Hp->VK->Prop}(h:te σ H fun x H1=>vD K T x H1/\r x [] H1 Q):YS K T r te σ H Q:=h
theorem bm{T:String}{r:V->List V->Hp->VK->Prop}{t:TA}(h:te σ H fun x H1=>vD K T x H1/\t σ H1 fun xs H2=>r x xs H2 Q):pA K T r te t σ H Q:=h
theorem Ko{i:Nat}{v:V}{q:St->Hp->Prop}(h:q (σ.set i (some v)) H):iK i v σ H q:=h
theorem Th{to ti:TE}{t:qN}{v:V}{q:St->Hp->Prop}(h:to σ H fun o H1=>ti σ H1 fun i H2=>t o i v H2 fun H3=>q σ H3):mJ to ti t v σ H q:=h
theorem UU{t:TG}{u:jv}{v:V}{r:List V}{q:St->Hp->Prop}(h:t v σ H fun σ' H'=>u r σ' H' q):FF t u (v::r) σ H q:=⟨v,r,rfl,h⟩
theorem UD{q:St->Hp->Prop}(h:q σ H):D3 [] σ H q:=⟨rfl,h⟩
theorem ab9{n:Nat}{t:jv}{a:Addr}{xs:List V}{q:St->Hp->Prop}(hq:gY K H a xs)(hl:xs.length=n)(h:t xs σ H q):yh K n t (.ref a) σ H q:=⟨a,xs,rfl,hq,hl,h⟩
theorem vf{q:Bool->Hp->Prop}(h:q true H):qi σ H q:=h
theorem ie{g:Int->Int->V}{i j:Int}(h:Q (g i j) H):L2.ie g (.int i) (.int j) H Q:=⟨i,j,rfl,rfl,h⟩
theorem rI{C:Int->Int->Prop}{g:Int->Int->V}{i j:Int}(hc:C i j)(h:Q (g i j) H):L2.rI C g (.int i) (.int j) H Q:=⟨i,j,rfl,rfl,hc,h⟩
theorem Ez{i j:Int}:decide (V.int i=V.int j)=decide (i=j):=by rw[m7];simp
theorem eqI{i j:Int}(h:Q (.bl (decide (i=j))) H):yz (.int i) (.int j) H Q:=⟨rfl,by rw[Ez];exact h⟩
theorem RZ{i j:Int}(h:Q (.bl (decide (i≠j))) H):Ej (.int i) (.int j) H Q:=⟨rfl,by rw[Ez,<-decide_not];exact h⟩
theorem O0{i:Int}(h:Q (.bl true) H):Bu (.int i) .aI H Q:=⟨rfl,by rw[decide_eq_false (fun e=>V.noConfusion e)];exact h⟩
theorem PY(h:Q (.bl false) H):Bu .aI .aI H Q:=⟨rfl,by rw[decide_eq_true rfl];exact h⟩
theorem wj{p:Addr}{xs:List V}{i:Int}{v:V}(hp:H p=some (.lst xs))(e:cO xs i=some v)(h:Q v H):dS K (.ref p) (.int i) H Q:=⟨p,xs,i,v,rfl,rfl,bh.of hp,e,h⟩
theorem Dm{p:Addr}{o:HO}{xs:List V}{i:Int}{v:V}(e:cO xs i=some v)(h:Q v (upd H p (.lst xs))):dS K (.ref p) (.int i) (upd H p (.lst xs)) Q:=⟨p,xs,i,v,rfl,rfl,bh.of aQ,e,h⟩
theorem setM{p:Addr}{xs:List V}{k:Int}{j:Nat}{v:V}{q:Hp->Prop}(hp:H p=some (.lst xs))(e:gV xs.length k=some j)(h:q (upd H p (.lst (xs.set j v)))):tZ (.ref p) (.int k) v H q:=⟨p,xs,k,j,rfl,rfl,hp,e,h⟩
theorem Sg{p:Addr}{xs:List V}{k:Int}{j:Nat}{v:V}{q:Hp->Prop}(e:gV xs.length k=some j)(h:q (upd H p (.lst (xs.set j v)))):tZ (.ref p) (.int k) v (upd H p (.lst xs)) q:=
 ⟨p,xs,k,j,rfl,rfl,aQ,e,by rw[E7];exact h⟩
theorem VB{p:Addr}{xs:List V}{P:List V->Prop}(hp:H p=some (.lst xs))(h:P xs):∃a ys,[V.ref p]=[.ref a]/\(bh K H a ys\/gY K H a ys)/\P ys:=⟨p,xs,rfl, .inl (bh.of hp),h⟩
theorem KA{p:Addr}{xs:List V}{lo hi:Option Int}(hp:bh K H p xs)(h:∀a,H a=none->Q (.ref a) (upd H a (.lst (lY xs lo hi)))):Du K (.ref p) lo hi H Q:=⟨p,xs,rfl,hp,h⟩
theorem abu{a:Int}{P:Int->Prop}(h:P a):∃i,[V.int a]=[.int i]/\P i:=⟨a,rfl,h⟩
theorem acG{xs:List V}(h:xs.length<=10000)(q:∀p H',cS H H'->H p=none->H' p=some (.lst xs)->Q (.ref p) H'):Cm Q xs H:=
 ⟨cG h (by decide),fun p hp=>q p _ (dD hp) hp aQ⟩
theorem slA{p:Addr}{xs:List V}{lo hi:Option Int}(hp:bh K H p xs)(q:∀a H',cS H H'->H a=none->H' a=some (.lst (lY xs lo hi))->Q (.ref a) H'):Du K (.ref p) lo hi H Q:=⟨p,xs,rfl,hp,fun a ha=>q a _ (dD ha) ha aQ⟩
theorem Qi{c A B:Prop}[Decidable c](h:c)(q:A):if c then A else B:=by rw[if_pos h];exact q
theorem Lk{c A B:Prop}[Decidable c](h:¬c)(q:B):if c then A else B:=by rw[if_neg h];exact q
theorem dT{c:Prop}[Decidable c](h:c):decide c=true:=decide_eq_true h
theorem dF{c:Prop}[Decidable c](h:¬c):¬decide c=true:=by rw[decide_eq_false h];exact bV
theorem Pf{c:Prop}[Decidable c](h:¬c):(!decide c)=true:=by rw[decide_eq_false h];rfl
theorem KI{c:Prop}[Decidable c](h:c):¬(!decide c)=true:=by rw[decide_eq_true h];decide
theorem XD{t:TA}{R:It->Hp->Prop}(h:t σ H fun vs H1=>∃i j:Int,vs=[.int i, .int j]/\(-(2^62)<=i/\i<2^62/\ -(2^62)<=j/\j<2^62)/\R (j9 i (j-i).toNat) H1):ES t σ H R:=h
theorem Sh{P:Int->Int->Prop}{a b:Int}(h1: -(2^62)<=a/\a<2^62/\ -(2^62)<=b/\b<2^62)(h:P a b):∃i j:Int,[V.int a,V.int b]=[.int i, .int j]/\(-(2^62)<=i/\i<2^62/\ -(2^62)<=j/\j<2^62)/\P i j:=⟨a,b,rfl,h1,h⟩
theorem iL{tl:TE}{R:It->Hp->Prop}(h:tl σ H fun x H1=>∃a,x= .ref a/\(∃xs,bh K H1 a xs)/\R (pC K a) H1):qf K tl σ H R:=h
theorem AS{P:Addr->Prop}{p:Addr}{xs:List V}(hp:bh K H p xs)(h:P p):∃a,V.ref p= .ref a/\(∃xs,bh K H a xs)/\P a:=⟨p,rfl,⟨xs,hp⟩,h⟩
theorem abB{wi:TI}{g:TG}{tb:TS}(h:wi σ H fun J H1=>∃W:Nat->Nat->St->Hp->Prop,(∃m,W 0 m σ H1)/\∀i m σ H,W i m σ H->
 (J.stop i H/\D.nx σ H)\/(J.go i H/\∃N:St->Hp->Prop,(∀σ' H',N σ' H'->∃m',m'<m/\W (i+1) m' σ' H')/\∀x H',J.lI i H x H'->g x σ H' fun σ2 H2=>tb {D with nx:=N,ct:=N,bk:=D.nx} σ2 H2)):pQ wi g tb D σ H:=h
theorem comp{wi:TI}{g:TG}{tc:TT}{mp:List (Option Nat)}(h:wi σ H fun J H1=>∀acc,H1 acc=none->rW J g tc te acc (fun H'=>Q (.ref acc) H') (gW mp σ) (upd H1 acc (.lst []))):kY wi g tc te mp σ H Q:=h
end
theorem EI{lo:Int}{n:Nat}{g:TG}{tc:TT}{te:TE}{acc:Addr}{Qe:Hp->Prop}{σ:St}{H:Hp}(Pv:Nat->St->Hp->Prop)(h0:Pv 0 σ H)
  (hs:∀i σ H,i<n->Pv i σ H->g (.int (lo+i)) σ H fun σ2 H2=>tc σ2 H2 fun b H3=>if b=true then te σ2 H3 fun v H4=>∃ys,H4 acc=some (.lst ys)/\ys.length<sizeLine/\Pv (i+1) σ2 (upd H4 acc (.lst (ys++[v]))) else Pv (i+1) σ2 H3)
  (hd:∀σ H,Pv n σ H->Qe H):rW (j9 lo n) g tc te acc Qe σ H:=by
 refine⟨fun i m σ H=>m=n-i/\i<=n/\Pv i σ H,⟨n,by simp,g8 _,h0⟩,?_⟩
 rintro i m σ H ⟨rfl,hi,p⟩
 by_cases hlt:i<n
 ·refine .inr ⟨hlt,Pv (i+1),fun σ' H' p'=>⟨n-(i+1),by omega,rfl,hlt,p'⟩,fun x H' y=>?_⟩
  obtain⟨e,y⟩:=y
  subst e y
  exact hs i σ _ hlt p
 ·have e:i=n:=by omega
  subst e
  exact .inl ⟨aU _,hd σ H p⟩
theorem DW{K:PySem.W.Frag}{a:Addr}{xs:List V}{g:TG}{tc:TT}{te:TE}{acc:Addr}{Qe:Hp->Prop}{σ:St}{H:Hp}(Pv:Nat->St->Hp->Prop)(h0:Pv 0 σ H)(hl:∀i σ H,i<=xs.length->Pv i σ H->bh K H a xs)
  (hs:∀i x σ H,xs[i]?=some x->Pv i σ H->g x σ H fun σ2 H2=>tc σ2 H2 fun b H3=>if b=true then te σ2 H3 fun v H4=>∃ys,H4 acc=some (.lst ys)/\ys.length<sizeLine/\Pv (i+1) σ2 (upd H4 acc (.lst (ys++[v]))) else Pv (i+1) σ2 H3)
  (hd:∀σ H,Pv xs.length σ H->Qe H):rW (pC K a) g tc te acc Qe σ H:=by
 refine⟨fun i m σ H=>m=xs.length-i/\i<=xs.length/\Pv i σ H,⟨xs.length,by simp,g8 _,h0⟩,?_⟩
 rintro i m σ H ⟨rfl,hi,p⟩
 have q:=hl i σ H hi p
 by_cases hlt:i<xs.length
 ·refine .inr ⟨⟨xs,xs[i],q,by simp[hlt]⟩,Pv (i+1),fun σ' H' p'=>⟨xs.length-(i+1),by omega,rfl,hlt,p'⟩,fun x H' y=>?_⟩
  obtain⟨e,y⟩:=y
  subst e
  exact hs i x σ _ (y xs q) p
 ·have e:i=xs.length:=by omega
  subst e
  exact .inl ⟨⟨xs,q,aU _⟩,hd σ H p⟩
end R
end L2
set_option maxRecDepth 100000
set_option maxHeartbeats 1000000
namespace L2
open PySem PySem.Spec PyProof.Rows
@[reducible] def pairD(pr:Int×Int):PyData:= .tuple [.int pr.1, .int pr.2]
def bF:Option Int->PyData
 |none=> .none
 |some i=> .int i
def kF:Option Int->V
 |none=> .aI
 |some i=> .int i
def sH(wd:List (Option Int))(pr:Int×Int):Int:=match wd[pr.1.toNat]? with
 |some (some x)=>pr.2*x
 |_=>0
def dP(prs:List (Int×Int))(wd:List (Option Int)):Int:=(prs.map (sH wd)).sum
theorem QI{prs:List (Int×Int)}{wd:List (Option Int)}{i:Nat}(h:i<prs.length):dP (prs.take (i+1)) wd=dP (prs.take i) wd+sH wd prs[i]:=by
 unfold dP
 rw[Fv,bP h,fF,List.sum_append]
 simp
theorem abH{nb:Addr->Prop}{H:Hp}{o:Option Int}{v:V}(h:af nb H (bF o) v):v=kF o:=by
 cases o with
 |none=>exact h.yJ
 |some i=>exact h.bD
theorem Ek{nb:Addr->Prop}{H:Hp}:∀{wd:List (Option Int)} {xs:List V},ah nb H (wd.map bF) xs->xs=wd.map kF
  |[],_,h=>by unfold List.map ah at h;exact h
  | o :: wd, _, h => by
    rw[bL] at h
    unfold ah at h
    obtain⟨y,ys,rfl,h1,h2⟩:=h
    rw[bL,abH h1,Ek h2]
theorem QS{nb:Addr->Prop}{H:Hp}{pr:Int×Int}{v:V}(h:af nb H (pairD pr) v):∃t,v= .ref t/\¬nb t/\H t=some (.tup [.int pr.1, .int pr.2]):=by
 obtain⟨t,xs,rfl,n,ht,hd⟩:=h.ofT
 unfold ah at hd
 obtain⟨y,ys,rfl,h1,h2⟩:=hd
 unfold ah at h2
 obtain⟨z,zs,rfl,h3,h4⟩:=h2
 unfold ah at h4
 subst h4
 rw[h1.bD,h3.bD] at ht
 exact⟨t,rfl,n,ht⟩
def xo:Sp:=fun vs H Q _=>∃(nb:Addr->Prop) (p:Int) (va vc:V) (prs:List (Int×Int)) (wd:List (Option Int)),vs=[.int p,va,vc]/\af nb H (.list (prs.map pairD)) va/\af nb H (.list (wd.map bF)) vc/\0<p/\
 (∀pr∈prs,0<=pr.1/\pr.1<wd.length/\Sm pr.2)/\(∀x,some x∈wd->Sm x)/\Q (.int (dP prs wd%p)) H
theorem Yg(prs:List (Int×Int)):SeqAt.shaped (.list (prs.map pairD))=true/\PyData.depthAll (prs.map pairD)<=1/\PyData.canLayAll0 (prs.map pairD)=true:=by
 have h:PyData.depthAll (prs.map pairD)<=1/\PyData.canLayAll0 (prs.map pairD)=true:=by
  induction prs with
  |nil=>simp[PyData.depthAll,PyData.canLayAll0]
  |cons a r ih=>simp[pairD,PyData.depthAll,PyData.depth,PyData.canLayAll0,PyData.canLay0,ih.2];have:=ih.1;omega
 refine⟨?_,h⟩
 unfold SeqAt.shaped
 simp[PyData.canLay0,PyData.depth,h.2]
 omega
theorem NJ(wd:List (Option Int)):PyData.depthAll (wd.map bF)=0/\PyData.canLayAll0 (wd.map bF)=true:=by
 induction wd with
 |nil=>simp[PyData.depthAll,PyData.canLayAll0]
 |cons a r ih=>cases a<;>simp[bF,PyData.depthAll,PyData.depth,PyData.canLayAll0,PyData.canLay0,ih.2,ih.1]
def As(r:Int):Prop:=∀d:Int,2<=d->d*d<=r->r%d≠0
def yd:List Int:=[2,3,5,7,2,11,101,10007,65537,1000003,998244353,1000000007,2147483647,1000000000039,1000000000000000003,18446744073709551557,2305843009213693951,618970019642690137449562111,162259276829213363391578010288127,170141183460469231731687303715884105727,1000000000000000000000000000000000000003,9999999999999999999999999999999999999983]
def Pn(p:Int):Prop:=2<=p/\p<10^40/\(p∈yd\/As p)
def Gz:Sp:=fun vs H Q _=>∃n:Int,vs=[.int n]/\2<=n/\n<=10002/\∀(r:Int) (H':Hp),cS H H'->2<=r->r<=10100->As r->Q (.int r) H'
def acf:Sp:=fun vs H Q _=>∃(b l:Addr),vs=[.ref b]/\eg H b l/\∀(p:Int) (H':Hp),Pn p->aZ (Nb b) H H'->eg H' b l->Q (.int p) H'
theorem tG{nb:Addr->Prop}{H:Hp}:∀is:List Int,ah nb H (is.map PyData.int) (is.map V.int)
 |[]=>ah.nil
 |i::is=>ah.cons (.int i) (tG is)
theorem qh{nb:Addr->Prop}{H:Hp}:∀{is:List Int} {xs:List V},ah nb H (is.map PyData.int) xs->xs=is.map V.int
  |[],_,h=>by unfold List.map ah at h;exact h
  | i :: is, _, h => by
    rw[bL] at h
    unfold ah at h
    obtain⟨y,ys,rfl,h1,h2⟩:=h
    rw[bL,h1.bD,qh h2]
end L2
set_option maxRecDepth 100000
set_option maxHeartbeats 1000000
namespace L2
open PySem PySem.Spec PyProof.Rows
abbrev Bg:=Option (Addr×Addr)
def NB(B:Bg)(a:Addr):Prop:=∀b l,B=some (b,l)->a≠b
def kO(B:Bg)(H:Hp):Prop:=∀b l,B=some (b,l)->eg H b l
def iE(nb:Addr->Prop)(H:Hp):Prop:=∀a,nb a->H a≠none
structure Kp(S:Addr->Prop)(F:List Addr)(H H':Hp):Prop where
 own:∀a∈F,∀o,H a=some o->H' a=some o
 lst:∀a xs,¬S a->H a=some (.lst xs)->H' a=some (.lst xs)
 tup:∀a xs,¬S a->H a=some (.tup xs)->H' a=some (.tup xs)
 bN:∀a ps,¬S a->Rd H a (.dK ps)->Rd H' a (.dK ps)
theorem Kp.of{S:Addr->Prop}{F:List Addr}{H H':Hp}(h:∀a o,(¬S a\/a∈F)->H a=some o->H' a=some o):Kp S F H H':=
 ⟨fun a ha o e=>h a o (.inr ha) e,fun a xs n e=>h a _ (.inl n) e,fun a xs n e=>h a _ (.inl n) e,fun a ps n e=>e.elim (fun e=> .inl (h a _ (.inl n) e)) fun⟨o,e⟩=> .inr ⟨o,h a _ (.inl n) e⟩⟩
mutual
theorem af.kp{S:Addr->Prop}{F:List Addr}{H H':Hp}(m:Kp S F H H'):∀{d:PyData} {v:V},af S H d v->af S H' d v
 | .none,_,h=>by unfold af at h⊢;exact h
 | .bool _,_,h=>by unfold af at h⊢;exact h
 | .int _,_,h=>by unfold af at h⊢;exact h
 | .str _,_,h=>by unfold af at h⊢;exact h
 | .list ds,_,h=>by unfold af at h⊢;obtain⟨a,xs,e,n,s,r⟩:=h;exact⟨a,xs,e,n,m.lst _ _ n s,ah.kp m r⟩
 | .tuple ds,_,h=>by unfold af at h⊢;obtain⟨a,xs,e,n,s,r⟩:=h;exact⟨a,xs,e,n,m.tup _ _ n s,ah.kp m r⟩
 | .dict kvs,_,h=>by unfold af at h⊢;obtain⟨a,xs,e,n,s,r⟩:=h;exact⟨a,xs,e,n,m.bN _ _ n s,aq.kp m r⟩
theorem ah.kp{S:Addr->Prop}{F:List Addr}{H H':Hp}(m:Kp S F H H'):∀{ds:List PyData} {vs:List V},ah S H ds vs->ah S H' ds vs
 |[],_,h=>by unfold ah at h⊢;exact h
 |d::ds,_,h=>by unfold ah at h⊢;obtain⟨y,ys,e,h1,h2⟩:=h;exact⟨y,ys,e,af.kp m h1,ah.kp m h2⟩
theorem aq.kp{S:Addr->Prop}{F:List Addr}{H H':Hp}(m:Kp S F H H'):∀{ds:List (PyData×PyData)} {vs:List (Key×V)},aq S H ds vs->aq S H' ds vs
 |[],_,h=>by unfold aq at h⊢;exact h
 |d::ds,_,h=>by unfold aq at h⊢;obtain⟨y,ys,e,h1,h2⟩:=h;exact⟨y,ys,e,c6.kp m h1,aq.kp m h2⟩
theorem c6.kp{S:Addr->Prop}{F:List Addr}{H H':Hp}(m:Kp S F H H'):∀{d:PyData×PyData} {v:Key×V},c6 S H d v->c6 S H' d v
 |(k,d),_,h=>by unfold c6 at h⊢;exact⟨h.1,af.kp m h.2⟩
end
structure Cu where
 v:V
 F:List Addr
 f:Bool
 P:(Addr->Prop)->Hp->Prop
 keep:∀{S:Addr->Prop} {H H':Hp},Kp S F H H'->P S H->P S H'
 av:∀{S S':Addr->Prop} {H:Hp},(∀a,S' a->S a)->P S H->P S' H
 fresh:∀{S:Addr->Prop} {H:Hp} {p:Addr},H p=none->P S H->P (fun a=>S a\/a=p) H
inductive HD where
 |d (x:PyData)|fz (o:Obj) (ps:List (Key×V))|th (c:Cu)
def fk(S:Addr->Prop)(H:Hp):HD->V->Prop
 | .d x,v=>af S H x v
 | .fz o ps,v=>∃a,v= .ref a/\¬S a/\H a=some (.bQ o (.dK ps))
 | .th c,v=>v=c.v/\(∀a∈c.F,¬S a/\H a≠none)/\c.P S H
theorem fk.keep{S:Addr->Prop}{H H':Hp}{x:HD}{v:V}(h:fk S H x v)(b:aZ S H H'):fk S H' x v:=by
  cases x with
  |d x=>exact af.keep b h
  |fz o ps=>obtain⟨a,e,n,q⟩:=h;exact⟨a,e,n,b _ _ n q⟩
  | th c =>
    obtain⟨e,n,q⟩:=h
    refine⟨e,fun a m=>⟨(n a m).1,?_⟩,c.keep (.of fun a o m q=>b a o (m.elim id fun m=>(n a m).1) q) q⟩
    cases z:H a with
    |none=>exact absurd z (n a m).2
    |some o=>rw[b a o (n a m).1 z];exact eO _
theorem fk.av{S S':Addr->Prop}{H:Hp}{x:HD}{v:V}(h:fk S H x v)(b:∀a,S' a->S a):fk S' H x v:=by
 cases x with
 |d x=>exact af.av b h
 |fz o ps=>obtain⟨a,e,n,q⟩:=h;exact⟨a,e,fun z=>n (b a z),q⟩
 |th c=>obtain⟨e,n,q⟩:=h;exact⟨e,fun a m=>⟨fun z=>(n a m).1 (b a z),(n a m).2⟩,c.av b q⟩
theorem fk.fresh{S:Addr->Prop}{H:Hp}{x:HD}{v:V}{p:Addr}(h:fk S H x v)(hp:H p=none):fk (fun a=>S a\/a=p) H x v:=by
 cases x with
 |d x=>exact af.fresh hp h
 |fz o ps=>obtain⟨a,e,n,q⟩:=h;exact⟨a,e,fun z=>z.elim n (ji q hp),q⟩
 |th c=>obtain⟨e,n,q⟩:=h;exact⟨e,fun a m=>⟨fun z=>z.elim (n a m).1 fun y=>(n a m).2 (by rw[y];exact hp),(n a m).2⟩,c.fresh hp q⟩
structure Gx where
 B:Bg
 H0:Hp
 A:Addr->Prop
 hold:List (Bool×HD×V):=[]
inductive Sl where
 |no|d (f:Bool) (d:PyData)|own (a:Addr) (f:Bool) (ds:List PyData)|au|raw (v:V)|bN (a:Addr) (f:Bool) (ks:List (Int×PyData))|cu (c:Cu)
def Sl.adr:Sl->List Addr
 | .own a _ _=>[a]
 | .bN a _ _=>[a]
 | .cu c=>c.F
 |_=>[]
@[reducible] def aG(p:Int×PyData):PyData×PyData:=(.int p.1,p.2)
abbrev Rh:=List Sl
def Gx.S(G:Gx)(nb:Addr->Prop)(f:Bool):Addr->Prop:=fun a=>nb a\/G.A a\/¬NB G.B a\/(f=true/\G.H0 a≠none)
def pK(G:Gx)(nb:Addr->Prop)(H:Hp)(x:Option V):Sl->Prop
 | .no=>True
 | .d f d=>∃v,x=some v/\af (G.S nb f) H d v
 | .own a f ds=>x=some (.ref a)/\nb a/\NB G.B a/\∃xs,H a=some (.lst xs)/\ah (G.S nb f) H ds xs
 | .au=>∃b l,G.B=some (b,l)/\x=some (.ref b)
 | .raw v=>x=some v
 | .bN a f ks=>x=some (.ref a)/\nb a/\NB G.B a/\∃ps,H a=some (.dK ps)/\aq (G.S nb f) H (ks.map aG) ps
 | .cu c=>x=some c.v/\(∀a∈c.F,nb a/\NB G.B a)/\c.P (G.S nb c.f) H
structure Wd(G:Gx)(nb:Addr->Prop)(ρ:Rh)(σ:St)(H:Hp):Prop where
 au:kO G.B H
 live:iE nb H
 old:∀a o,NB G.B a->G.H0 a=some o->H a=some o
 cY:∀a,nb a->NB G.B a->G.H0 a=none
 gA:iE G.A G.H0
 len:σ.length=ρ.length
 gB:kO G.B G.H0
 eE:∀h∈G.hold,fk (G.S nb h.1) H h.2.1 h.2.2
 ok:∀(i:Nat) (s:Sl),ρ[i]?=some s->∃x,σ[i]?=some x/\pK G nb H x s
 apart:∀(i j:Nat) a f as c g cs,i≠j->ρ[i]?=some (.own a f as)->ρ[j]?=some (.own c g cs)->a≠c
 fM:∀(i j:Nat) a f as c g cs,i≠j->ρ[i]?=some (.bN a f as)->ρ[j]?=some (.bN c g cs)->a≠c
 dU:∀(i j:Nat) c s,i≠j->ρ[i]?=some (.cu c)->ρ[j]?=some s->∀a∈c.F,a∉s.adr
def Step(B:Bg)(H H':Hp):Prop:=(∀a o,NB B a->H a=some o->H' a=some o)/\kO B H'
section
variable{G:Gx}{B:Bg}{nb:Addr->Prop}{ρ:Rh}{σ:St}{H H1 H2 H':Hp}{f g:Bool}{d:PyData}{ds:List PyData}{v:V}{xs:List V}{a p:Addr}
theorem Step.refl(h:kO B H):Step B H H:=⟨fun _ _ _ e=>e,h⟩
theorem Step.trans(x:Step B H H1)(y:Step B H1 H2):Step B H H2:=⟨fun a o n e=>y.1 a o n (x.1 a o n e),y.2⟩
theorem kO.same(h:kO B H)(s:cS H H'):kO B H':=fun b l e=>(h b l e).same s
theorem Step.same(h:kO B H)(s:cS H H'):Step B H H':=⟨fun a o _ e=>s a o e,h.same s⟩
theorem Step.but{aC:Addr->Prop}(s:Step B H H')(h:∀a,¬NB B a->aC a):aZ aC H H':=fun a o n e=>s.1 a o (jJ fun z=>n (h a z)) e
theorem Step.dz(s:Step G.B H H'):aZ (G.S nb f) H H':=s.but fun a h=> .inr (.inr (.inl h))
theorem cL(h:g=true->f=true){aC:Addr->Prop}(hn:∀a,nb a->aC a):∀a,G.S nb g a->G.S aC f a:=by
 intro a z
 rcases z with z|z|z|⟨z,q⟩
 ·exact .inl (hn a z)
 ·exact .inr (.inl z)
 ·exact .inr (.inr (.inl z))
 ·exact .inr (.inr (.inr ⟨h z,q⟩))
theorem NB.kB(h:kO B H)(n:¬NB B a):H a≠none:=by
 intro e
 apply n
 intro b l hb z
 subst z
 obtain⟨_,_,_,_,_,h1,_⟩:=h _ _ hb
 rw[h1] at e;cases e
theorem Wd.iR(W:Wd G nb ρ σ H):iE (G.S nb f) H:=by
 intro a z
 rcases z with z|z|z|⟨_,z⟩
 ·exact W.live a z
 ·by_cases n:NB G.B a
  ·cases e:G.H0 a with
   |none=>exact absurd e (W.gA a z)
   |some o=>rw[W.old a o n e];exact eO _
  ·exact NB.kB W.au n
 ·exact NB.kB W.au z
 ·by_cases n:NB G.B a
  ·cases e:G.H0 a with
   |none=>exact absurd e z
   |some o=>rw[W.old a o n e];exact eO _
  ·exact NB.kB W.au n
theorem Wd.fresh(W:Wd G nb ρ σ H)(hp:H p=none):¬G.S nb f p:=fun z=>W.iR p z hp
theorem pK.step{x:Option V}{s:Sl}(st:Step G.B H H')(h:pK G nb H x s):pK G nb H' x s:=by
  cases s with
  |no=>trivial
  |d f d=>obtain⟨v,e,h⟩:=h;exact⟨v,e,h.keep st.dz⟩
  |own a f ds=>obtain⟨e,n,q,xs,hx,hd⟩:=h;exact⟨e,n,q,xs,st.1 _ _ q hx,hd.keep st.dz⟩
  |au=>exact h
  |raw v=>exact h
  |bN a f ks=>obtain⟨e,n,q,xs,hx,hd⟩:=h;exact⟨e,n,q,xs,st.1 _ _ q hx,hd.keep st.dz⟩
  | cu c =>
    obtain⟨e,n,p⟩:=h
    refine⟨e,n,c.keep (.of fun a o ha e=>st.1 a o ?_ e) p⟩
    rcases ha with ha|ha
    · exact jJ fun z=>ha (.inr (.inr (.inl z)))
    · exact(n a ha).2
theorem IZ(n:NB B a)(st:Step B H H')(h:H a≠none):H' a≠none:=by
 cases e:H a with
 |none=>exact absurd e h
 |some o=>rw[st.1 a o n e];exact eO _
theorem Wd.step(W:Wd G nb ρ σ H)(st:Step G.B H H'):Wd G nb ρ σ H' where
 au:=st.2
 live:=fun a n=>by
  by_cases q:NB G.B a
  ·exact IZ q st (W.live a n)
  ·exact NB.kB st.2 q
 old:=fun a o n e=>st.1 a o n (W.old a o n e)
 cY:=W.cY
 gA:=W.gA
 len:=W.len
 gB:=W.gB
 eE:=fun h m=>(W.eE h m).keep st.dz
 ok:=fun i s e=>by
  obtain⟨x,e1,h⟩:=W.ok i s e
  exact⟨x,e1,h.step st⟩
 apart:=W.apart
 fM:=W.fM
 dU:=W.dU
theorem Wd.set{i:Nat}{s:Sl}{x:Option V}(W:Wd G nb ρ σ H)(h:pK G nb H x s)(hs:∀a f ds,s= .own a f ds->∀j c g cs,j≠i->ρ[j]?=some (.own c g cs)->a≠c)(hd:∀a f ds,s= .bN a f ds->∀j c g cs,j≠i->ρ[j]?=some (.bN c g cs)->a≠c:=by intro _ _ _ z;cases z)(hcu:∀a∈s.adr,∀j t,j≠i->ρ[j]?=some t->(∃c,s= .cu c)\/(∃c,t= .cu c)->a∉t.adr:=by intro _ z;cases z):Wd G nb (ρ.set i s) (σ.set i x) H where
 au:=W.au
 live:=W.live
 old:=W.old
 cY:=W.cY
 gA:=W.gA
 len:=by rw[jg,jg];exact W.len
 gB:=W.gB
 eE:=W.eE
 ok:=fun j t e=>by
  by_cases hij:i=j
  ·subst hij
   have hl:i<ρ.length:=by have:=(bT.mp e).1;rwa[jg] at this
   rw[cU hl] at e
   cases e
   exact⟨x,cU (by rw[W.len];exact hl),h⟩
  ·rw[bO hij] at e⊢
   exact W.ok j t e
 apart:=fun j k a f as c g cs hjk e1 e2=>by
  by_cases hj:i=j
  ·subst hj
   have hl:i<ρ.length:=by have:=(bT.mp e1).1;rwa[jg] at this
   rw[cU hl] at e1
   cases e1
   rw[bO hjk] at e2
   exact hs a f as rfl k c g cs (cX hjk) e2
  ·by_cases hk:i=k
   ·subst hk
    have hl:i<ρ.length:=by have:=(bT.mp e2).1;rwa[jg] at this
    rw[cU hl] at e2
    cases e2
    rw[bO hj] at e1
    exact(hs c g cs rfl j a f as hjk e1).symm
   ·rw[bO hj] at e1
    rw[bO hk] at e2
    exact W.apart j k a f as c g cs hjk e1 e2
 fM:=fun j k a f as c g cs hjk e1 e2=>by
  by_cases hj:i=j
  ·subst hj
   have hl:i<ρ.length:=by have:=(bT.mp e1).1;rwa[jg] at this
   rw[cU hl] at e1
   cases e1
   rw[bO hjk] at e2
   exact hd a f as rfl k c g cs (cX hjk) e2
  ·by_cases hk:i=k
   ·subst hk
    have hl:i<ρ.length:=by have:=(bT.mp e2).1;rwa[jg] at this
    rw[cU hl] at e2
    cases e2
    rw[bO hj] at e1
    exact(hd c g cs rfl j a f as hjk e1).symm
   ·rw[bO hj] at e1
    rw[bO hk] at e2
    exact W.fM j k a f as c g cs hjk e1 e2
 dU:=fun j k c t hjk e1 e2 a ha=>by
  by_cases hj:i=j
  ·subst hj
   have hl:i<ρ.length:=by have:=(bT.mp e1).1;rwa[jg] at this
   rw[cU hl] at e1
   cases e1
   rw[bO hjk] at e2
   exact hcu a ha k t (cX hjk) e2 (.inl ⟨c,rfl⟩)
  ·by_cases hk:i=k
   ·subst hk
    have hl:i<ρ.length:=by have:=(bT.mp e2).1;rwa[jg] at this
    rw[cU hl] at e2
    cases e2
    rw[bO hj] at e1
    exact fun z=>hcu a z j (.cu c) hjk e1 (.inr ⟨c,rfl⟩) ha
   ·rw[bO hj] at e1
    rw[bO hk] at e2
    exact W.dU j k c t hjk e1 e2 a ha
theorem Wd.qS{i:Nat}(W:Wd G nb ρ σ H)(h:af (G.S nb f) H d v):Wd G nb (ρ.set i (.d f d)) (σ.set i (some v)) H:=W.set ⟨v,rfl,h⟩ fun _ _ _ e=>by cases e
inductive Wk:Rh->Rh->Prop
 |nil:Wk [] []
 |no {s:Sl} {r r':Rh} (h:Wk r r'):Wk (.no::r) (s::r')
 |eq {s:Sl} {r r':Rh} (h:Wk r r'):Wk (s::r) (s::r')
theorem Wk.at:∀{r r':Rh} {i:Nat} {s:Sl},Wk r r'->r[i]?=some s->s= .no/\(∃t,r'[i]?=some t)\/r'[i]?=some s
 |_,_,_,_, .nil,e=>by simp at e
 |_,_,0,_, .no h,e=>by simp at e;subst e;exact .inl ⟨rfl,_,rfl⟩
 |_,_,0,_, .eq h,e=>by simp at e;subst e;exact .inr rfl
 |_,_,i+1,_, .no h,e=>by simpa using Wk.at (i:=i) h (by simpa using e)
 |_,_,i+1,_, .eq h,e=>by simpa using Wk.at (i:=i) h (by simpa using e)
theorem Wk.len{r r':Rh}(h:Wk r r'):r.length=r'.length:=by
 induction h with
 |nil=>rfl
 |no _ ih=>simp[ih]
 |eq _ ih=>simp[ih]
theorem Wd.wk{ρ':Rh}(W:Wd G nb ρ' σ H)(h:Wk ρ ρ'):Wd G nb ρ σ H where
 au:=W.au
 live:=W.live
 old:=W.old
 cY:=W.cY
 gA:=W.gA
 len:=by rw[h.len];exact W.len
 gB:=W.gB
 eE:=W.eE
 ok:=fun i s e=>by
  rcases h.at e with ⟨rfl,t,e'⟩|e'
  ·obtain⟨x,e1,_⟩:=W.ok i t e';exact⟨x,e1,trivial⟩
  ·exact W.ok i s e'
 apart:=fun i j a f as c g cs hij e1 e2=>by
  rcases h.at e1 with ⟨z,_⟩|ny
  ·cases z
  rcases h.at e2 with ⟨z,_⟩|e2'
  ·cases z
  exact W.apart i j a f as c g cs hij ny e2'
 fM:=fun i j a f as c g cs hij e1 e2=>by
  rcases h.at e1 with ⟨z,_⟩|ny
  ·cases z
  rcases h.at e2 with ⟨z,_⟩|e2'
  ·cases z
  exact W.fM i j a f as c g cs hij ny e2'
 dU:=fun i j c s hij e1 e2 a ha=>by
  rcases h.at e1 with ⟨z,_⟩|ny
  ·cases z
  rcases h.at e2 with ⟨z,_⟩|e2'
  ·subst z;exact fun z=>by cases z
  exact W.dU i j c s hij ny e2' a ha
theorem Wd.more(W:Wd G nb ρ σ H)(hp:H p=none){o:HO}:Wd G (fun a=>nb a\/a=p) ρ σ (upd H p o):=by
 have hS:cS H (upd H p o):=dD hp
 have hN:NB G.B p:=fun b l e z=>by
  subst z
  obtain⟨_,_,_,_,_,h1,_⟩:=W.au _ _ e
  rw[h1] at hp;cases hp
 have W':=W.step (Step.same W.au hS)
 have hA:∀f a,G.S (fun a=>nb a\/a=p) f a->(G.S nb f a\/a=p):=fun f a z=>by
  rcases z with (z|z)|z|z|z
  ·exact .inl (.inl z)
  ·exact .inr z
  ·exact .inl (.inr (.inl z))
  ·exact .inl (.inr (.inr (.inl z)))
  ·exact .inl (.inr (.inr (.inr z)))
 refine⟨W'.au,fun a n=>?_,W'.old,fun a n q=>?_,W.gA,W.len,W.gB,fun h m=>(((W.eE h m).fresh hp).av (hA h.1)).keep (aZ.of hS),fun i s e=>?_,W.apart,W.fM,W.dU⟩
 ·rcases n with n|n
  ·exact W'.live a n
  ·subst n;rw[aQ];exact eO _
 ·rcases n with n|n
  ·exact W.cY a n q
  ·subst n
   cases e:G.H0 a with
   |none=>rfl
   |some o=>rw[W.old a o q e] at hp;cases hp
 ·obtain⟨x,e1,h⟩:=W.ok i s e
  refine⟨x,e1,?_⟩
  cases s with
  |no=>trivial
  |d f d=>obtain⟨v,e,h⟩:=h;exact⟨v,e,((h.fresh hp).av (hA f)).keep (aZ.of hS)⟩
  |own a f ds=>obtain⟨e,n,q,xs,hx,hd⟩:=h;exact⟨e, .inl n,q,xs,hS _ _ hx,((hd.fresh hp).av (hA f)).keep (aZ.of hS)⟩
  |au=>exact h
  |raw v=>exact h
  |bN a f ds=>obtain⟨e,n,q,xs,hx,hd⟩:=h;exact⟨e, .inl n,q,xs,hS _ _ hx,((hd.fresh hp).av (hA f)).keep (aZ.of hS)⟩
  |cu c=>obtain⟨e,n,q⟩:=h;exact⟨e,fun a ha=>⟨.inl (n a ha).1,(n a ha).2⟩,c.keep (.of fun a o _ e=>hS a o e) (c.av (hA c.f) (c.fresh hp q))⟩
theorem Wd.write(W:Wd G nb ρ σ H){o:HO}(hp:nb p)(hN:NB G.B p)(ho:∀(i:Nat) a f ds,ρ[i]?=some (.own a f ds)->a≠p)(hod:∀(i:Nat) a f ds,ρ[i]?=some (.bN a f ds)->a≠p)(hoc:∀(i:Nat) c,ρ[i]?=some (.cu c)->p∉c.F):Wd G nb ρ σ (upd H p o):=by
  have hl:∀b l,G.B=some (b,l)->p≠l:=fun b l e z=>by
    obtain⟨_,_,_,_,_,_,h2,_⟩:=W.gB b l e
    rw[<-z,W.cY p hp hN] at h2;cases h2
  have hB:kO G.B (upd H p o):=fun b l e=>(W.au b l e).put2 ⟨hN b l e,hl b l e⟩
  have bt:∀f,aZ (G.S nb f) H (upd H p o):=fun f=>aZ.set (.inl hp)
  refine⟨hB,fun a n=>?_,fun a o' n e=>?_,W.cY,W.gA,W.len,W.gB,fun h m=>(W.eE h m).keep (bt h.1),fun i s e=>?_,W.apart,W.fM,W.dU⟩
  · by_cases z:a=p
    · subst z;rw[aQ];exact eO _
    · rw[aB z];exact W.live a n
  · have z:a≠p:=fun z=>by subst z;rw[W.cY a hp n] at e;cases e
    rw[aB z];exact W.old a o' n e
  · obtain⟨x,e1,h⟩:=W.ok i s e
    refine⟨x,e1,?_⟩
    cases s with
    |no=>trivial
    |d f d=>obtain⟨v,e,h⟩:=h;exact⟨v,e,h.keep (bt f)⟩
    |own a f ds=>obtain⟨e',n,q,xs,hx,hd⟩:=h;exact⟨e',n,q,xs,by rw[aB (ho i a f ds e)];exact hx,hd.keep (bt f)⟩
    |au=>exact h
    |raw v=>exact h
    |bN a f ds=>obtain⟨e',n,q,xs,hx,hd⟩:=h;exact⟨e',n,q,xs,by rw[aB (hod i a f ds e)];exact hx,hd.keep (bt f)⟩
    | cu c =>
      obtain⟨e',n,q⟩:=h
      refine⟨e',n,c.keep (.of fun a o' ha e''=>?_) q⟩
      rw[aB]
      · exact e''
      · rintro rfl
        rcases ha with ha|ha
        · exact ha (.inl hp)
        · exact hoc i c e ha
end
end L2
set_option maxRecDepth 100000
set_option maxHeartbeats 1000000
namespace L2
open PySem PySem.Spec PyProof.Rows
abbrev Pd:=Bool->PyData->Prop
def Ev(G:Gx)(ρ:Rh)(te:TE)(Φ:Pd):Prop:=∀nb σ H (Q:VK),Wd G nb ρ σ H->(∀f v H' d,Φ f d->Step G.B H H'->af (G.S nb f) H' d v->Q v H')->te σ H Q
def aE(G:Gx)(ρ:Rh)(te:TE)(Φ:Bool->List PyData->Prop):Prop:=∀nb σ H (Q:VK),Wd G nb ρ σ H->
 (∀f a xs H' ds,Φ f ds->Step G.B H H'->H a=none->H' a=some (.lst xs)->ah (fun x=>G.S nb f x\/x=a) H' ds xs->Q (.ref a) H')->te σ H Q
def Tv(G:Gx)(ρ:Rh)(tt:TT)(Φ:Bool->Prop):Prop:=∀nb σ H (Q:Bool->Hp->Prop),Wd G nb ρ σ H->(∀b H',Φ b->Step G.B H H'->Q b H')->tt σ H Q
def Ov(G:Gx)(ρ:Rh)(to:TO)(Φ:Option Int->Prop):Prop:=∀nb σ H (Q:Option Int->Hp->Prop),Wd G nb ρ σ H->(∀o H',Φ o->Step G.B H H'->Q o H')->to σ H Q
abbrev Fd:=Bool×PyData
def kL(G:Gx)(nb:Addr->Prop)(H:Hp):List Fd->List V->Prop
 |[],vs=>vs=[]
 |e::es,vs=>∃v ws,vs=v::ws/\af (G.S nb e.1) H e.2 v/\kL G nb H es ws
def Av(G:Gx)(ρ:Rh)(ta:TA)(Φ:List Fd->Prop):Prop:=∀nb σ H (Q:List V->Hp->Prop),Wd G nb ρ σ H->(∀es vs H',Φ es->Step G.B H H'->kL G nb H' es vs->Q vs H')->ta σ H Q
def Gv(G:Gx)(ρ:Rh)(g:TG)(f:Bool)(d:PyData)(Φ:Rh->Prop):Prop:=∀nb σ H v (Q:St->Hp->Prop),Wd G nb ρ σ H->af (G.S nb f) H d v->(∀σ' ρ',Φ ρ'->Wd G nb ρ' σ' H->Q σ' H)->g v σ H Q
def nD(G:Gx)(ρ:Rh)(g:jv)(f:Bool)(ds:List PyData)(Φ:Rh->Prop):Prop:=∀nb σ H vs (Q:St->Hp->Prop),Wd G nb ρ σ H->ah (G.S nb f) H ds vs->(∀σ' ρ',Φ ρ'->Wd G nb ρ' σ' H->Q σ' H)->g vs σ H Q
structure DE where
 nx:Rh->Prop
 rt:Pd
 bk:Rh->Prop:=fun _=>False
 ct:Rh->Prop:=fun _=>False
 rw:(Addr->Prop)->Rh->V->Hp->Prop:=fun _ _ _ _=>False
structure xu(G:Gx)(E:DE)(D:Ends):Prop where
 nx:∀nb ρ σ H,E.nx ρ->Wd G nb ρ σ H->D.nx σ H
 bk:∀nb ρ σ H,E.bk ρ->Wd G nb ρ σ H->D.bk σ H
 ct:∀nb ρ σ H,E.ct ρ->Wd G nb ρ σ H->D.ct σ H
 rt:∀nb ρ σ f v H d,E.rt f d->Wd G nb ρ σ H->af (G.S (fun _=>False) f) H d v->D.rt v H
 rw:∀nb ρ σ v H,E.rw nb ρ v H->Wd G nb ρ σ H->D.rt v H
def Sv(G:Gx)(ρ:Rh)(ts:TS)(E:DE):Prop:=∀nb σ H D,Wd G nb ρ σ H->xu G E D->ts D σ H
def i6:PyData->Bool
 | .none=>true| .bool _=>true| .int _=>true| .str _=>true|_=>false
def toV:PyData->V
 | .bool b=> .bl b| .int i=> .int i| .str x=> .str x|_=> .aI
section
variable{nb aC:Addr->Prop}{H H':Hp}{d e:PyData}{v:V}
theorem af.sc(h:i6 d=true):af nb H d (toV d):=by
 cases d<;>first|(cases h;done)|(unfold af;rfl)
theorem af.X4(h:i6 d=true)(q:af nb H d v):v=toV d:=by
 cases d<;>first|(cases h;done)|(unfold af at q;exact q)
theorem af.jw(h:i6 d=true)(q:af nb H d v):af aC H' d v:=by
 rw[q.X4 h];exact .sc h
theorem ah.jw:∀{ds:List PyData} {xs:List V},ds.all i6=true->ah nb H ds xs->ah aC H' ds xs
  |[],_,_,q=>by unfold ah at q⊢;exact q
  | d :: ds, _, h, q => by
    rw[nA,fU] at h
    unfold ah at q⊢
    obtain⟨y,ys,e,h1,h2⟩:=q
    exact⟨y,ys,e,h1.jw h.1,ah.jw h.2 h2⟩
end
section
variable{G:Gx}{ρ:Rh}{Φ Ψ:Pd}{ta tb te:TE}{t:TA}{i:Nat}{f g:Bool}{d e:PyData}{ds es:List PyData}{K:PySem.W.Frag}
theorem Ev.mono(h:Ev G ρ te Ψ)(q:∀f d,Ψ f d->Φ f d):Ev G ρ te Φ:=fun nb σ H Q W z=>h nb σ H Q W fun f v H' d p=>z f v H' d (q f d p)
theorem aE.ev(h:aE G ρ te fun f ds=>Φ f (.list ds)):Ev G ρ te Φ:=fun nb σ H Q W z=>h nb σ H Q W fun f a xs H' ds p st n e hd=>
 z f _ H' _ p st (.lst (W.fresh n) e (hd.av fun _ x=> .inl x))
namespace Ev
theorem var(e:ρ[i]?=some (.d f d))(h:Φ f d):Ev G ρ (bf i) Φ:=fun nb σ H Q W z=>by
 obtain⟨x,e1,v,rfl,hd⟩:=W.ok i _ e
 exact⟨v,e1,z f v H d h (.refl W.au) hd⟩
theorem int{n:Int}(h:Φ true (.int n)):Ev G ρ (tC (.int n)) Φ:=fun nb σ H Q W z=>z true _ H _ h (.refl W.au) (.int n)
theorem bl{b:Bool}(h:Φ true (.bool b)):Ev G ρ (tC (.bl b)) Φ:=fun nb σ H Q W z=>z true _ H _ h (.refl W.au) (.bl b)
theorem aI(h:Φ true .none):Ev G ρ (tC .aI) Φ:=fun nb σ H Q W z=>z true _ H _ h (.refl W.au) .aI
theorem kR{r:R2}(h:Ev G ρ ta fun f x=>Ev G ρ tb fun g y=>∀nb σ H u v (Q:VK),Wd G nb ρ σ H->af (G.S nb f) H x u->af (G.S nb g) H y v->(∀f w H' d,Φ f d->Step G.B H H'->af (G.S nb f) H' d w->Q w H')->r u v H Q):Ev G ρ (cP r ta tb) Φ:=fun nb σ H Q W z=>
 h nb σ H _ W fun f v1 H1 d1 p1 s1 q1=>p1 nb σ H1 _ (W.step s1) fun g v2 H2 d2 p2 s2 q2=>p2 nb σ H2 _ _ _ ((W.step s1).step s2) (q1.keep s2.dz) q2 fun f w H' d p st q=>z f w H' d p (s1.trans (s2.trans st)) q
theorem rI{C:Int->Int->Prop}{k:Int->Int->Int}(h:Ev G ρ ta fun _ x=>∃i,x= .int i/\Ev G ρ tb fun _ y=>∃j,y= .int j/\C i j/\Φ true (.int (k i j))):Ev G ρ (cP (L2.rI C fun i j=> .int (k i j)) ta tb) Φ:=
 kR (h.mono fun f x ⟨i,ex,q⟩=>q.mono fun g y ⟨j,ey,hc,p⟩ nb σ H u v Q W hu hv z=>by
  subst ex ey;exact⟨i,j,hu.bD,hv.bD,hc,z true _ H _ p (.refl W.au) (.int _)⟩)
theorem ie{k:Int->Int->Int}(h:Ev G ρ ta fun _ x=>∃i,x= .int i/\Ev G ρ tb fun _ y=>∃j,y= .int j/\Φ true (.int (k i j))):Ev G ρ (cP (L2.ie fun i j=> .int (k i j)) ta tb) Φ:=
 kR (h.mono fun f x ⟨i,ex,q⟩=>q.mono fun g y ⟨j,ey,p⟩ nb σ H u v Q W hu hv z=>by
  subst ex ey;exact⟨i,j,hu.bD,hv.bD,z true _ H _ p (.refl W.au) (.int _)⟩)
theorem ZV{k:Int->Int->Bool}(h:Ev G ρ ta fun _ x=>∃i,x= .int i/\Ev G ρ tb fun _ y=>∃j,y= .int j/\Φ true (.bool (k i j))):Ev G ρ (cP (L2.ie fun i j=> .bl (k i j)) ta tb) Φ:=
 kR (h.mono fun f x ⟨i,ex,q⟩=>q.mono fun g y ⟨j,ey,p⟩ nb σ H u v Q W hu hv z=>by
  subst ex ey;exact⟨i,j,hu.bD,hv.bD,z true _ H _ p (.refl W.au) (.bl _)⟩)
theorem un{r:V->Hp->VK->Prop}(h:Ev G ρ ta fun f x=>∀nb σ H u (Q:VK),Wd G nb ρ σ H->af (G.S nb f) H x u->(∀f w H' d,Φ f d->Step G.B H H'->af (G.S nb f) H' d w->Q w H')->r u H Q):Ev G ρ (FE r ta) Φ:=fun nb σ H Q W z=>
 h nb σ H _ W fun f v1 H1 d1 p1 s1 q1=>p1 nb σ H1 _ _ (W.step s1) q1 fun f w H' d p st q=>z f w H' d p (s1.trans st) q
theorem rU{k:Int->Int}(h:Ev G ρ ta fun _ x=>∃i,x= .int i/\Φ true (.int (k i))):Ev G ρ (FE (L2.rU fun i=> .int (k i)) ta) Φ:=
 un (h.mono fun f x ⟨i,ex,p⟩ nb σ H u Q W hu z=>by subst ex;exact⟨i,hu.bD,z true _ H _ p (.refl W.au) (.int _)⟩)
end Ev
inductive iN:PyData->PyData->Bool->Prop
 |ii (i j:Int):iN (.int i) (.int j) (decide (i=j))
 |ni (i:Int):iN .none (.int i) false
 |i_n (i:Int):iN (.int i) .none false
 |nn:iN .none .none true
 |bb (a b:Bool):iN (.bool a) (.bool b) (a==b)
 |ss (x:Str):iN (.str x) (.str x) true
 |sd (x y:Str):iN (.str x) (.str y) (decide (x=y))
theorem iN.v{nb aC:Addr->Prop}{H:Hp}{x y:PyData}{b:Bool}{u v:V}(h:iN x y b)(hu:af nb H x u)(hv:af aC H y v):D9 u v=true/\decide (u=v)=b:=by
 cases h<;>(unfold af at hu hv;subst hu hv;refine⟨rfl,?_⟩)
 ·exact R.Ez
 ·rfl
 ·rfl
 ·rfl
 ·rename_i a b;cases a<;>cases b<;>rfl
 ·exact decide_eq_true rfl
 ·rename_i x y
  by_cases c:x=y
  ·subst c;rw[decide_eq_true rfl,decide_eq_true rfl]
  ·rw[decide_eq_false c,decide_eq_false (fun z=>c (V.str.inj z))]
theorem iN.self{d:PyData}(h:i6 d=true):iN d d true:=by
 cases d<;>first|(cases h;done)|skip
 ·exact .nn
 ·rename_i b;have:=iN.bb b b;rwa[beq_self_eq_true] at this
 ·rename_i i;have:=iN.ii i i;rwa[decide_eq_true rfl] at this
 ·exact .ss _
namespace Ev
theorem eq(h:Ev G ρ ta fun _ x=>Ev G ρ tb fun _ y=>∃b,iN x y b/\Φ true (.bool b)):Ev G ρ (cP yz ta tb) Φ:=
 kR (h.mono fun f x q=>q.mono fun g y ⟨b,e,p⟩ nb σ H u v Q W hu hv z=>by
  obtain⟨h1,h2⟩:=e.v hu hv
  exact⟨h1,by rw[h2];exact z true _ H _ p (.refl W.au) (.bl _)⟩)
theorem ne(h:Ev G ρ ta fun _ x=>Ev G ρ tb fun _ y=>∃b,iN x y b/\Φ true (.bool !b)):Ev G ρ (cP Ej ta tb) Φ:=
 kR (h.mono fun f x q=>q.mono fun g y ⟨b,e,p⟩ nb σ H u v Q W hu hv z=>by
  obtain⟨h1,h2⟩:=e.v hu hv
  exact⟨h1,by rw[h2];exact z true _ H _ p (.refl W.au) (.bl _)⟩)
theorem zx{ng:Bool}(h:Ev G ρ ta fun _ x=>Ev G ρ tb fun _ y=>SeqAt.shaped x=true/\SeqAt.shaped y=true/\Φ true (.bool (PyData.eqv x y !=ng))):Ev G ρ (cP (zy ng) ta tb) Φ:=
 kR (h.mono fun f x q=>q.mono fun g y ⟨h1,h2,p⟩ nb σ H u v Q W hu hv z=>
  ⟨G.S nb false,x,y,hu.av (cL (fun z=>by cases z) fun _ z=>z),hv.av (cL (fun z=>by cases z) fun _ z=>z),h1,h2,z true _ H _ p (.refl W.au) (.bl _)⟩)
end Ev
def sM:PyData->Bool
 | .none=>true
 |_=>false
theorem LB{nb:Addr->Prop}{H:Hp}{d:PyData}{v:V}(h:af nb H d v):decide (v= .aI)=sM d:=by
 cases d<;>unfold af at h
 all_goals first
  |(subst h;rfl)
  |(obtain⟨a,xs,rfl,_⟩:=h;rfl)
  |exact h.elim
namespace Ev
theorem is(h:Ev G ρ ta fun _ x=>Φ true (.bool (sM x))):Ev G ρ (cP HG ta (tC .aI)) Φ:=
 kR (h.mono fun f x p=>Ev.aI fun nb σ H u v Q W hu hv z=>⟨hv.yJ,by rw[LB hu];exact z true _ H _ p (.refl W.au) (.bl _)⟩)
theorem abf(h:Ev G ρ ta fun _ x=>Φ true (.bool !sM x)):Ev G ρ (cP Bu ta (tC .aI)) Φ:=
 kR (h.mono fun f x p=>Ev.aI fun nb σ H u v Q W hu hv z=>⟨hv.yJ,by rw[LB hu];exact z true _ H _ p (.refl W.au) (.bl _)⟩)
end Ev
theorem ah.cO{nb:Addr->Prop}{H:Hp}{ds:List PyData}{xs:List V}{k:Int}{e:PyData}(h:ah nb H ds xs)(q:L2.cO ds k=some e):∃v,L2.cO xs k=some v/\af nb H e v:=by
 unfold L2.cO at q⊢
 rw[h.length]
 cases z:gV ds.length k with
 |none=>rw[z] at q;cases q
 |some j=>rw[z] at q;exact h.get q
namespace Ev
theorem NP(h:Ev G ρ ta fun f x=>∃ds,x= .list ds/\Ev G ρ tb fun _ y=>∃k,y= .int k/\∃e,cO ds k=some e/\Φ f e):Ev G ρ (cP (dS K) ta tb) Φ:=
 kR (h.mono fun f x ⟨ds,ex,q⟩=>q.mono fun g y ⟨k,ey,e,he,p⟩ nb σ H u v Q W hu hv z=>by
  subst ex ey
  obtain⟨a,xs,rfl,n,hx,hd⟩:=hu.gy
  obtain⟨w,hw,hD⟩:=hd.cO he
  exact⟨a,xs,k,w,rfl,hv.bD, .of hx,hw,z f _ H _ p (.refl W.au) hD⟩)
theorem lC(h:Ev G ρ ta fun f x=>∃ds,x= .tuple ds/\Ev G ρ tb fun _ y=>∃k,y= .int k/\∃e,cO ds k=some e/\Φ f e):Ev G ρ (cP (bU K) ta tb) Φ:=
 kR (h.mono fun f x ⟨ds,ex,q⟩=>q.mono fun g y ⟨k,ey,e,he,p⟩ nb σ H u v Q W hu hv z=>by
  subst ex ey
  obtain⟨a,xs,rfl,n,hx,hd⟩:=hu.ofT
  obtain⟨w,hw,hD⟩:=hd.cO he
  exact⟨a,xs,k,w,rfl,hv.bD, .of hx,hw,z f _ H _ p (.refl W.au) hD⟩)
theorem Tj{a:Addr}(e:ρ[i]?=some (.own a f ds))(h:Ev G ρ tb fun _ y=>∃k,y= .int k/\∃e,cO ds k=some e/\Φ f e):Ev G ρ (cP (dS K) (bf i) tb) Φ:=fun nb σ H Q W z=>by
 obtain⟨x,e1,h1,h2,h3,xs,hx,hd⟩:=W.ok i _ e
 subst h1
 refine⟨.ref a,e1,h nb σ H _ W fun g w H1 y ⟨k,ey,e',he,p⟩ s1 hv=>?_⟩
 subst ey
 obtain⟨u,hu,hD⟩:=(hd.keep s1.dz).cO he
 exact⟨a,xs,k,u,rfl,hv.bD, .of (s1.1 _ _ h3 hx),hu,z f _ H1 _ p s1 hD⟩
theorem UH(h:Ev G ρ ta fun _ x=>∃b,x= .bool b/\if b=true then Ev G ρ tb Φ else Φ true (.bool false)):Ev G ρ (Ij ta tb) Φ:=fun nb σ H Q W z=>
 h nb σ H _ W fun f v H1 d ⟨b,e,q⟩ s1 hv=>by
  subst e
  refine⟨b,by unfold af at hv;exact hv,?_⟩
  cases b with
  |true=>rw[if_pos rfl] at q⊢;exact q nb σ H1 _ (W.step s1) fun f v H' d p st=>z f v H' d p (s1.trans st)
  |false=>rw[if_neg bV] at q⊢;exact z true _ H1 _ q s1 (.bl false)
theorem T8{c:TT}(h:Tv G ρ c fun b=>if b=true then Ev G ρ ta Φ else Ev G ρ tb Φ):Ev G ρ (M7 c ta tb) Φ:=fun nb σ H Q W z=>
 h nb σ H _ W fun b H1 q s1=>by
  cases b with
  |true=>rw[if_pos rfl] at q⊢;exact q nb σ H1 _ (W.step s1) fun f v H' d p st=>z f v H' d p (s1.trans st)
  |false=>rw[if_neg bV] at q⊢;exact q nb σ H1 _ (W.step s1) fun f v H' d p st=>z f v H' d p (s1.trans st)
end Ev
namespace Tv
variable{Θ:Bool->Prop}{t u:TT}
theorem test(h:Ev G ρ te fun _ x=>∃b,x= .bool b/\Θ b):Tv G ρ (uK te) Θ:=fun nb σ H Q W z=>
 h nb σ H _ W fun f v H1 d ⟨b,e,q⟩ s1 hv=>by subst e;exact⟨b,by unfold af at hv;exact hv,z b H1 q s1⟩
theorem and(h:Tv G ρ t fun b=>if b=true then Tv G ρ u Θ else Θ false):Tv G ρ (Br t u) Θ:=fun nb σ H Q W z=>
 h nb σ H _ W fun b H1 q s1=>by
  cases b with
  |true=>rw[if_pos rfl] at q⊢;exact q nb σ H1 _ (W.step s1) fun b H' p st=>z b H' p (s1.trans st)
  |false=>rw[if_neg bV] at q⊢;exact z false H1 q s1
theorem or(h:Tv G ρ t fun b=>if b=true then Θ true else Tv G ρ u Θ):Tv G ρ (Kn t u) Θ:=fun nb σ H Q W z=>
 h nb σ H _ W fun b H1 q s1=>by
  cases b with
  |false=>rw[if_neg bV] at q⊢;exact q nb σ H1 _ (W.step s1) fun b H' p st=>z b H' p (s1.trans st)
  |true=>rw[if_pos rfl] at q⊢;exact z true H1 q s1
theorem not(h:Tv G ρ t fun b=>Θ (!b)):Tv G ρ (xY t) Θ:=fun nb σ H Q W z=>h nb σ H _ W fun b H1 q s1=>z _ H1 q s1
theorem vf(h:Θ true):Tv G ρ qi Θ:=fun nb σ H Q W z=>z true H h (.refl W.au)
end Tv
def Bd(K:PySem.W.Frag)(ta:TE):TT:=fun σ H Q=>ta σ H fun x H1=>∃k,BR K x H1 k/\Q k H1
theorem Tv.uZ{Θ:Bool->Prop}(h:Ev G ρ te fun _ x=>∃b,x= .bool b/\Θ b):Tv G ρ (Bd K te) Θ:=fun nb σ H Q W z=>
 h nb σ H _ W fun f v H1 d ⟨b,e,q⟩ s1 hv=>by subst e;exact⟨b,by unfold af at hv;subst hv;rfl,z b H1 q s1⟩
namespace Av
variable{Θ:List Fd->Prop}
theorem nil(h:Θ []):Av G ρ bE Θ:=fun nb σ H Q W z=>z [] [] H h (.refl W.au) rfl
theorem cons(h:Ev G ρ te fun f d=>Av G ρ t fun es=>Θ ((f,d)::es)):Av G ρ (aX te t) Θ:=fun nb σ H Q W z=>
 h nb σ H _ W fun f v H1 d p1 s1 q1=>p1 nb σ H1 _ (W.step s1) fun es vs H2 p2 s2 q2=>z _ _ H2 p2 (s1.trans s2) ⟨v,vs,rfl,q1.keep s2.dz,q2⟩
theorem S9{is:List Int}(h:Θ (is.map fun i=>(true, .int i))):Av G ρ (xK is) Θ:=fun nb σ H Q W z=>z _ _ H h (.refl W.au) (by
 clear h
 induction is with
 |nil=>rfl
 |cons i r ih=>exact⟨_,_,rfl, .int i,ih⟩)
end Av
def jT(es:List Fd):Bool:=es.all (·.1)
theorem kL.all{nb:Addr->Prop}{H:Hp}:∀{es:List Fd} {vs:List V} {f:Bool},kL G nb H es vs->(f=true->jT es=true)->ah (G.S nb f) H (es.map (·.2)) vs
  |[],_,_,h,_=>by unfold kL at h;subst h;exact .nil
  | e :: es, _, f, h, hf => by
    obtain⟨v,ws,rfl,h1,h2⟩:=h
    refine .cons (h1.av (cL (fun z=>?_) fun _ z=>z)) (h2.all fun z=>?_)
    · have:=hf z;simp only[jT,nA,fU] at this;exact this.1
    · have:=hf z;simp only[jT,nA,fU] at this;exact this.2
theorem kL.len{nb:Addr->Prop}{H:Hp}{es:List Fd}{vs:List V}(h:kL G nb H es vs):vs.length=es.length:=by
 have:=(h.all (f:=false) (fun z=>by cases z)).length
 simpa using this
theorem aE.lst{Φ:Bool->List PyData->Prop}(h:Av G ρ t fun es=>es.length<=10000/\Φ (jT es) (es.map (·.2))):aE G ρ (mw t) Φ:=fun nb σ H Q W z=>
  h nb σ H _ W fun es vs H1 ⟨hl,p⟩ s1 q1=>⟨cG (by rw[q1.len];exact hl) (by decide),fun a ha=>by
    have W1:=W.step s1
    refine z _ a vs _ _ p (s1.trans (.same W1.au (dD ha))) ?_ aQ (((q1.all fun z=>z).fresh ha).keep (aZ.of (dD ha)))
    cases e:H a with
    |none=>rfl
    | some o =>
      by_cases n:NB G.B a
      · rw[s1.1 a o n e] at ha;cases ha
      · exact absurd ha (NB.kB s1.2 n)⟩
theorem Ev.lst(h:Av G ρ t fun es=>es.length<=10000/\Φ (jT es) (.list (es.map (·.2)))):Ev G ρ (mw t) Φ:=(aE.lst (Φ:=fun f ds=>Φ f (.list ds)) h).ev
end
end L2
set_option maxRecDepth 100000
set_option maxHeartbeats 1000000
namespace L2
open PySem PySem.Spec PyProof.Rows
def iB(K:PySem.W.Frag):List V->Hp->VK->Prop:=fun xs H Q=>∃p ys,xs=[.ref p]/\(bh K H p ys\/gY K H p ys)/\Q (.int ys.length) H
theorem jq{X:Cx}:gn X (.builtin "len") (iB X.K):=Ly
def Jf:List V->Hp->VK->Prop:=fun xs H Q=>∃i j,xs=[.int i, .int j]/\Q (.int (if j<i then j else i)) H
def QC:List V->Hp->VK->Prop:=fun xs H Q=>(∃i,xs=[.int i]/\Q (.int i) H)\/∃k,xs=[.bl k]/\Q (.int (if k then 1 else 0)) H
theorem Fy{X:Cx}(hc:X.calm=true):gn X (.builtin "min") Jf:=VY hc
theorem SG{X:Cx}:gn X (.type "int") QC:=WW
def Ct{α:Type}(xs:List α)(lo hi:Option Int):List α:=(xs.drop (HT.gm xs.length 0 lo)).take (HT.gm xs.length xs.length hi-HT.gm xs.length 0 lo)
theorem ah.cut{nb:Addr->Prop}{H:Hp}{ds:List PyData}{xs:List V}{lo hi:Option Int}(h:ah nb H ds xs):ah nb H (Ct ds lo hi) (lY xs lo hi):=by
 unfold Ct lY
 rw[h.length]
 exact(h.drop _).take _
def fL(ds:List PyData):Bool:=ds.all i6
section
variable{G:Gx}{ρ:Rh}{Φ Ψ:Pd}{ta tb te:TE}{t:TA}{i:Nat}{f g:Bool}{d e:PyData}{ds es:List PyData}{K:PySem.W.Frag}
theorem Wd.none_of{nb:Addr->Prop}{σ:St}{H H1:Hp}{a:Addr}(W:Wd G nb ρ σ H)(s1:Step G.B H H1)(ha:H1 a=none):H a=none:=by
  cases e:H a with
  |none=>rfl
  | some o =>
    by_cases n:NB G.B a
    · rw[s1.1 a o n e] at ha;cases ha
    · exact absurd ha (NB.kB s1.2 n)
theorem aE.fin{nb:Addr->Prop}{σ:St}{H H1:Hp}{Q:VK}{Φ:Bool->List PyData->Prop}{a:Addr}{xs:List V}(W:Wd G nb ρ σ H)(s1:Step G.B H H1)(ha:H1 a=none)(hd:ah (G.S nb f) H1 ds xs)(p:Φ (f||fL ds) ds)
  (z:∀f a xs H' ds,Φ f ds->Step G.B H H'->H a=none->H' a=some (.lst xs)->ah (fun x=>G.S nb f x\/x=a) H' ds xs->Q (.ref a) H'):Q (.ref a) (upd H1 a (.lst xs)):=by
 refine z _ a xs _ ds p (s1.trans (.same s1.2 (dD ha))) (W.none_of s1 ha) aQ ?_
 cases hs:fL ds with
 |true=>exact ah.jw hs hd
 |false=>rw[nO];exact(hd.fresh ha).keep (aZ.of (dD ha))
namespace Ov
variable{Θ:Option Int->Prop}
theorem none(h:Θ none):Ov G ρ GQ Θ:=fun nb σ H Q W z=>z _ H h (.refl W.au)
theorem some(h:Ev G ρ te fun _ x=>∃k,x= .int k/\Θ (some k)):Ov G ρ (BW te) Θ:=fun nb σ H Q W z=>
 h nb σ H _ W fun f v H1 d ⟨k,e,q⟩ s1 hv=>by subst e;exact⟨k,hv.bD,z _ H1 q s1⟩
end Ov
namespace aE
variable{Θ:Bool->List PyData->Prop}
theorem listOf(h:Ev G ρ te fun f x=>∃ds,(x= .list ds\/x= .tuple ds)/\Θ (f||fL ds) ds):aE G ρ (fc (l8 K) (aX te bE)) Θ:=fun nb σ H Q W z=>
 h nb σ H _ W fun f v H1 d ⟨ds,e,q⟩ s1 hv=>by
  rcases e with e|e
  ·subst e
   obtain⟨a,xs,rfl,n,hx,hd⟩:=hv.gy
   exact⟨a,xs,rfl, .inl (.of hx),fun p hp=>aE.fin W s1 hp hd q z⟩
  ·subst e
   obtain⟨a,xs,rfl,n,hx,hd⟩:=hv.ofT
   exact⟨a,xs,rfl, .inr (.of hx),fun p hp=>aE.fin W s1 hp hd q z⟩
theorem Fo{a:Addr}(e:ρ[i]?=some (.own a f ds))(h:Θ (f||fL ds) ds):aE G ρ (fc (l8 K) (aX (bf i) bE)) Θ:=fun nb σ H Q W z=>by
 obtain⟨x,e1,h1,h2,h3,xs,hx,hd⟩:=W.ok i _ e
 subst h1
 exact⟨.ref a,e1,a,xs,rfl, .inl (.of hx),fun p hp=>aE.fin W (.refl W.au) hp hd h z⟩
theorem cat(h:Ev G ρ ta fun f x=>∃ds,x= .list ds/\Ev G ρ tb fun g y=>∃es,y= .list es/\ds.length+es.length<=10000/\Θ ((f && g)||fL (ds++es)) (ds++es)):aE G ρ (cP GC ta tb) Θ:=fun nb σ H Q W z=>
 h nb σ H _ W fun f v H1 d ⟨ds,e,q⟩ s1 hv=>q nb σ H1 _ (W.step s1) fun g u H2 d2 ⟨es,e2,hl,p⟩ s2 hu=>by
  subst e e2
  obtain⟨a,xs,rfl,n,hx,hd⟩:=(hv.keep s2.dz).gy
  obtain⟨c,ys,rfl,m,hy,hc⟩:=hu.gy
  refine⟨a,c,xs,ys,rfl,rfl,hx,hy,cG (by rw[hd.length,hc.length];exact hl) (by decide),fun p' hp=>aE.fin (f:=f && g) W (s1.trans s2) hp ?_ p z⟩
  exact ah.append (hd.av (cL (fun z=>(fU _ _▸z).1) fun _ z=>z)) (hc.av (cL (fun z=>(fU _ _▸z).2) fun _ z=>z))
theorem rep{d:PyData}(h:Ev G ρ te fun f x=>x=d/\i6 d=true/\Ev G ρ tb fun _ y=>∃k,y= .int k/\k<=10000/\ -(10000)<=k/\Θ true (List.replicate k.toNat d)):aE G ρ (cP ER (mw (aX te bE)) tb) Θ:=fun nb σ H Q W z=>
 h nb σ H _ W fun f v H1 d' ⟨e,hs,q⟩ s1 hv=>by
  subst e
  refine⟨by show 1<=sizeLine;decide,fun p hp=>?_⟩
  have W1:=W.step s1
  have s2:Step G.B H1 (upd H1 p (.lst [v])):= .same W1.au (dD hp)
  refine q nb σ _ _ (W1.step s2) fun g u H2 d2 ⟨k,e2,h1,h2,p2⟩ s3 hu=>?_
  subst e2
  have hN:NB G.B p:=fun b l e z=>by
   subst z
   exact NB.kB (B:=G.B) (a:=p) s1.2 (fun z=>z _ _ e rfl) hp
  refine⟨p,k,[v],rfl,hu.bD,s3.1 _ _ hN aQ,by omega,by omega,?_,fun a ha=>?_⟩
  ·show 1*k.toNat<=sizeLine
   exact cG (show 1*k.toNat<=10000 by omega) (by decide)
  ·have hd:ah (G.S nb true) H2 (List.replicate k.toNat d') (List.replicate k.toNat [v]).flatten:=by
    induction k.toNat with
    |zero=>exact .nil
    |succ m ih=>rw[mU,mU,rm];exact .cons (hv.jw hs) ih
   exact aE.fin (f:=true) W (s1.trans (s2.trans s3)) ha hd p2 z
end aE
namespace Ev
theorem listOf(h:Ev G ρ te fun f x=>∃ds,(x= .list ds\/x= .tuple ds)/\Φ (f||fL ds) (.list ds)):Ev G ρ (fc (l8 K) (aX te bE)) Φ:=(aE.listOf (Θ:=fun f ds=>Φ f (.list ds)) h).ev
theorem Fo{a:Addr}(e:ρ[i]?=some (.own a f ds))(h:Φ (f||fL ds) (.list ds)):Ev G ρ (fc (l8 K) (aX (bf i) bE)) Φ:=(aE.Fo (Θ:=fun f ds=>Φ f (.list ds)) e h).ev
theorem cat(h:Ev G ρ ta fun f x=>∃ds,x= .list ds/\Ev G ρ tb fun g y=>∃es,y= .list es/\ds.length+es.length<=10000/\Φ ((f && g)||fL (ds++es)) (.list (ds++es))):Ev G ρ (cP GC ta tb) Φ:=(aE.cat (Θ:=fun f ds=>Φ f (.list ds)) h).ev
theorem abS{a:Addr}(e:ρ[i]?=some (.own a f ds))(h:Φ true (.int ds.length)):Ev G ρ (fc (iB K) (aX (bf i) bE)) Φ:=fun nb σ H Q W z=>by
 obtain⟨x,e1,h1,h2,h3,xs,hx,hd⟩:=W.ok i _ e
 subst h1
 exact⟨.ref a,e1,a,xs,rfl, .inl (.of hx),by rw[hd.length];exact z true _ H _ h (.refl W.au) (.int _)⟩
theorem min2(h:Ev G ρ ta fun _ x=>∃i,x= .int i/\Ev G ρ tb fun _ y=>∃j,y= .int j/\Φ true (.int (if j<i then j else i))):Ev G ρ (fc Jf (aX ta (aX tb bE))) Φ:=fun nb σ H Q W z=>
 h nb σ H _ W fun f v H1 d ⟨i,e,q⟩ s1 hv=>q nb σ H1 _ (W.step s1) fun g u H2 d2 ⟨j,e2,p⟩ s2 hu=>by
  subst e e2
  exact⟨i,j,by rw[hv.bD,hu.bD],z true _ H2 _ p (s1.trans s2) (.int _)⟩
theorem aae(h:Ev G ρ ta fun _ x=>∃b,x= .bool b/\Φ true (.int (if b then 1 else 0))):Ev G ρ (fc QC (aX ta bE)) Φ:=fun nb σ H Q W z=>
 h nb σ H _ W fun f v H1 d ⟨b,e,q⟩ s1 hv=>by subst e;unfold af at hv;subst hv;exact .inr ⟨b,rfl,z true _ H1 _ q s1 (.int _)⟩
end Ev
abbrev DF:=List PyData->Pd->Prop
def cK(n:Nat)(F:DF):Sp:=fun vs H Q _=>vs.length=n/\∃(nb:Addr->Prop) (ds:List PyData),iE nb H/\ah nb H ds vs/\F ds fun f d=>∀v H',cS H H'->af (fun a=>nb a\/(f=true/\H a≠none)) H' d v->Q v H'
def iG(n:Nat)(F:DF):Sp:=fun vs H Q _=>vs.length=n/\∃(b l:Addr) (ws:List V) (nb:Addr->Prop) (ds:List PyData),vs= .ref b::ws/\eg H b l/\iE nb H/\nb b/\ah nb H ds ws/\
 F ds fun f d=>∀v H',aZ (Nb b) H H'->eg H' b l->af (fun a=>nb a\/(f=true/\H a≠none)) H' d v->Q v H'
def fq(F:DF):Prop:=∀ds (Φ Ψ:Pd),F ds Φ->(∀f d,Φ f d->Ψ f d)->F ds Ψ
theorem Ev.gG{n:Nat}{F:DF}(hm:fq F)(h:Av G ρ t fun es=>es.length=n/\F (es.map (·.2)) fun f d=>Φ (f||jT es) d):Ev G ρ (iF (cK n F) [] E0 t) Φ:=fun nb σ H Q W z=>
 h nb σ H _ W fun es vs H1 ⟨hl,p⟩ s1 q1=>by
  have W1:=W.step s1
  rw[gH]
  refine⟨by rw[q1.len,hl],G.S nb (jT es),es.map (·.2),W1.iR,q1.all fun z=>z,hm _ _ _ p fun f d hp v H' sm hd=>z _ v H' d hp (s1.trans (.same W1.au sm)) (hd.av fun a q=>?_)⟩
  cases f with
  |false=>rw[se] at q;exact .inl q
  |true=>exact .inr ⟨rfl,W1.iR a q⟩
theorem Step.EC{b l:Addr}{H H':Hp}(hB:G.B=some (b,l))(bt:aZ (Nb b) H H')(B':eg H' b l):Step G.B H H':=
 ⟨fun a o n e=>bt a o (n b l hB) e,fun b' l' e=>by rw[hB] at e;cases e;exact B'⟩
theorem Wd.G7{nb:Addr->Prop}{σ:St}{H:Hp}(W:Wd G nb ρ σ H)(e:ρ[i]?=some .au):∃b l,G.B=some (b,l)/\σ[i]?=some (some (.ref b))/\eg H b l:=by
 obtain⟨x,e1,b,l,hB,rfl⟩:=W.ok i _ e
 exact⟨b,l,hB,e1,W.au b l hB⟩
theorem Ev.lJ{n:Nat}{F:DF}(hm:fq F)(e:ρ[i]?=some .au)(h:Av G ρ t fun es=>es.length+1=n/\F (es.map (·.2)) fun f d=>Φ (f||jT es) d):Ev G ρ (iF (iG n F) [] E0 (aX (bf i) t)) Φ:=fun nb σ H Q W z=>by
 obtain⟨b,l,hB,e1,B⟩:=W.G7 e
 refine⟨.ref b,e1,h nb σ H _ W fun es vs H1 ⟨hl,p⟩ s1 q1=>?_⟩
 have W1:=W.step s1
 show iG n F ((V.ref b::vs)++[]) H1 Q E0
 rw[gH]
 have hb:∀f,G.S nb f b:=fun f=> .inr (.inr (.inl fun n=>n b l hB rfl))
 refine⟨by rw[fG,q1.len,hl],b,l,vs,G.S nb (jT es),es.map (·.2),rfl,W1.au b l hB,W1.iR,hb _,q1.all fun z=>z,hm _ _ _ p fun f d hp v H' bt B' hd=>z _ v H' d hp (s1.trans (.EC hB bt B')) (hd.av fun a q=>?_)⟩
 cases f with
 |false=>rw[se] at q;exact .inl q
 |true=>exact .inr ⟨rfl,W1.iR a q⟩
theorem Ev.draw(e:ρ[i]?=some .au)(h:Ev G ρ te fun _ x=>∃m:Int,x= .int m/\0<m/\Sm m/\∀r:Int,0<=r->r<m->Φ true (.int r)):Ev G ρ (iF kG [] E0 (aX (bf i) (aX te bE))) Φ:=fun nb σ H Q W z=>by
 obtain⟨b,l,hB,e1,B⟩:=W.G7 e
 refine⟨.ref b,e1,h nb σ H _ W fun f v H1 d ⟨m,ed,h1,h2,p⟩ s1 hv=>?_⟩
 subst ed
 exact⟨b,l,m,by rw[hv.bD];rfl,s1.2 b l hB,h1,h2,fun r H' r1 r2 bt B'=>z true _ H' _ (p r r1 r2) (s1.trans (.EC hB bt B')) (.int r)⟩
theorem Ev.prime(e:ρ[i]?=some .au)(h:∀p:Int,Pn p->Φ true (.int p)):Ev G ρ (iF acf [] E0 (aX (bf i) bE)) Φ:=fun nb σ H Q W z=>by
 obtain⟨b,l,hB,e1,B⟩:=W.G7 e
 exact⟨.ref b,e1,b,l,rfl,B,fun p H' hp bt B'=>z true _ H' _ (h p hp) (.EC hB bt B') (.int p)⟩
theorem Ev.total(h:Av G ρ t fun es=>∃(p:Int) (prs:List (Int×Int)) (wd:List (Option Int)),es.map (·.2)=[.int p, .list (prs.map pairD), .list (wd.map bF)]/\0<p/\(∀pr∈prs,0<=pr.1/\pr.1<wd.length/\Sm pr.2)/\(∀x,some x∈wd->Sm x)/\Φ true (.int (dP prs wd%p))):
  Ev G ρ (iF xo [] E0 t) Φ:=fun nb σ H Q W z=>
 h nb σ H _ W fun es vs H1 ⟨p,prs,wd,e,h1,h2,h3,q⟩ s1 q1=>by
  have hd:=q1.all (f:=false) (fun z=>by cases z)
  rw[e] at hd
  unfold ah at hd
  obtain⟨y,ys,rfl,d1,hd⟩:=hd
  unfold ah at hd
  obtain⟨y2,ys,rfl,d2,hd⟩:=hd
  unfold ah at hd
  obtain⟨y3,ys,rfl,d3,hd⟩:=hd
  unfold ah at hd
  subst hd
  exact⟨G.S nb false,p,y2,y3,prs,wd,by rw[d1.bD];rfl,d2,d3,h1,h2,h3,z true _ H1 _ q s1 (.int _)⟩
theorem Ev.whole(h:Ev G ρ te fun _ x=>∃n,x= .int n/\Φ true (.bool true)):Ev G ρ (iF Zr [] E0 (aX te bE)) Φ:=fun nb σ H Q W z=>
 h nb σ H _ W fun f v H1 d ⟨n,e,q⟩ s1 hv=>by subst e;exact⟨n,by rw[hv.bD];rfl,z true _ H1 _ q s1 (.bl _)⟩
namespace Gv
variable{Θ:Rh->Prop}
theorem name(h:Θ (ρ.set i (.d f d))):Gv G ρ (iK i) f d Θ:=fun nb σ H v Q W hv z=>z _ _ h (W.qS hv)
theorem VH(h:Θ (ρ.set i (.d true d))):Gv G ρ (iK i) true d Θ:=name h
theorem vq(h:Θ (ρ.set i (.d false d))):Gv G ρ (iK i) f d Θ:=fun nb σ H v Q W hv z=>z _ _ h (W.qS (hv.av (cL (fun z=>by cases z) fun _ z=>z)))
theorem Tn(hs:i6 d=true)(h:Θ (ρ.set i (.d true d))):Gv G ρ (iK i) f d Θ:=fun nb σ H v Q W hv z=>z _ _ h (W.qS (hv.jw hs))
theorem pV{n:Int}(h:Θ (ρ.set i (.d true (.int n)))):Gv G ρ (iK i) f (.int n) Θ:=Tn rfl h
theorem tup{n:Nat}{u:jv}(hl:ds.length=n)(h:nD G ρ u f ds Θ):Gv G ρ (yh K n u) f (.tuple ds) Θ:=fun nb σ H v Q W hv z=>by
 obtain⟨a,xs,rfl,m,hx,hd⟩:=hv.ofT
 exact⟨a,xs,rfl, .of hx,by rw[hd.length];exact hl,h nb σ H xs Q W hd z⟩
theorem YR(h:Θ ρ):nD G ρ D3 f [] Θ:=fun nb σ H vs Q W hv z=>by unfold ah at hv;exact⟨hv,z _ _ h W⟩
theorem Tt{u:TG}{us:jv}(h:Gv G ρ u f d fun iO=>nD G iO us f ds Θ):nD G ρ (FF u us) f (d::ds) Θ:=fun nb σ H vs Q W hv z=>by
 unfold ah at hv
 obtain⟨y,ys,rfl,h1,h2⟩:=hv
 exact⟨y,ys,rfl,h nb σ H y _ W h1 fun σ' ρ' q W'=>q nb σ' H ys Q W' h2 z⟩
end Gv
namespace Sv
variable{E:DE}{s u:TS}
theorem seq(h:Sv G ρ s {E with nx:=fun iO=>Sv G iO u E}):Sv G ρ (mP s u) E:=fun nb σ H D W K=>h nb σ H _ W ⟨fun aC ρ' σ' H' q W'=>q aC σ' H' D W' K,K.bk,K.ct,K.rt,K.rw⟩
theorem next(h:E.nx ρ):Sv G ρ EB E:=fun nb σ H D W K=>K.nx nb ρ σ H h W
theorem brk(h:E.bk ρ):Sv G ρ abb E:=fun nb σ H D W K=>K.bk nb ρ σ H h W
theorem cont(h:E.ct ρ):Sv G ρ Vu E:=fun nb σ H D W K=>K.ct nb ρ σ H h W
theorem asg{g:TG}(h:Ev G ρ te fun f d=>Gv G ρ g f d E.nx):Sv G ρ (fZ te g) E:=fun nb σ H D W K=>h nb σ H _ W fun f v H1 d q s1 hv=>q nb σ H1 v _ (W.step s1) hv fun σ' ρ' p W'=>K.nx nb ρ' σ' H1 p W'
theorem YE(h:Ev G ρ te fun _ d=>E.nx (ρ.set i (.d false d))):Sv G ρ (Nz i te) E:=fun nb σ H D W K=>h nb σ H _ W fun f v H1 d q s1 hv=>K.nx nb _ _ H1 q ((W.step s1).qS (hv.av (cL (fun z=>by cases z) fun _ z=>z)))
theorem drop(h:Ev G ρ te fun _ _=>E.nx ρ):Sv G ρ (nB te) E:=fun nb σ H D W K=>h nb σ H _ W fun f v H1 d q s1 hv=>K.nx nb ρ σ H1 q (W.step s1)
theorem ret(h:Ev G ρ te E.rt):Sv G ρ (mW te) E:=fun nb σ H D W K=>h nb σ H _ W fun f v H1 d q s1 hv=>K.rt nb ρ σ f v H1 d q (W.step s1) (hv.av (cL (fun z=>z) fun _ z=>z.elim))
theorem Jl{a:Addr}(e:ρ[i]?=some (.own a f ds))(h:E.rt f (.list ds)):Sv G ρ (mW (bf i)) E:=fun nb σ H D W K=>by
 obtain⟨x,e1,h1,h2,h3,xs,hx,hd⟩:=W.ok i _ e
 subst h1
 refine⟨.ref a,e1,K.rt nb ρ σ f _ H _ h W (.lst (fun z=>?_) hx (hd.av (cL (fun z=>z) fun _ z=>z.elim)))⟩
 rcases z with z|z|z|z
 ·exact z
 ·exact W.gA a z (W.cY a h2 h3)
 ·exact z h3
 ·exact z.2 (W.cY a h2 h3)
theorem jE{c:TT}(h:Tv G ρ c fun b=>if b=true then Sv G ρ s E else Sv G ρ u E):Sv G ρ (yr c s u) E:=fun nb σ H D W K=>h nb σ H _ W fun b H1 q s1=>by
 cases b with
 |true=>rw[if_pos rfl] at q⊢;exact q nb σ H1 D (W.step s1) K
 |false=>rw[if_neg bV] at q⊢;exact q nb σ H1 D (W.step s1) K
theorem Nq{nb:Addr->Prop}{σ:St}{H H1:Hp}{a:Addr}{xs:List V}(W:Wd G nb ρ σ H)(s1:Step G.B H H1)(ha:H a=none)(e:H1 a=some (.lst xs))(hd:ah (fun x=>G.S nb f x\/x=a) H1 ds xs):
    Wd G (fun x=>nb x\/x=a) (ρ.set i (.own a f ds)) (σ.set i (some (.ref a))) H1:=by
  have hN:NB G.B a:=fun b l e z=>by
    subst z
    obtain⟨_,_,_,_,_,h1,_⟩:=W.au _ _ e
    rw[h1] at ha;cases ha
  have hA:∀f x,G.S (fun x=>nb x\/x=a) f x->(G.S nb f x\/x=a):=fun f x z=>by
    rcases z with (z|z)|z|z|z
    · exact .inl (.inl z)
    · exact .inr z
    · exact .inl (.inr (.inl z))
    · exact .inl (.inr (.inr (.inl z)))
    · exact .inl (.inr (.inr (.inr z)))
  have W1:=W.step s1
  have W2:Wd G (fun x=>nb x\/x=a) ρ σ H1:=by
    refine⟨W1.au,fun x n=>?_,W1.old,fun x n q=>?_,W.gA,W.len,W.gB,fun h m=>(((W.eE h m).fresh ha).keep (s1.but fun x z=> .inl (.inr (.inr (.inl z))))).av (hA h.1),fun j s e'=>?_,W.apart,W.fM,W.dU⟩
    · rcases n with n|n
      · exact W1.live x n
      · subst n;rw[e];exact eO _
    · rcases n with n|n
      · exact W.cY x n q
      · subst n
        cases z:G.H0 x with
        |none=>rfl
        |some o=>rw[W.old x o q z] at ha;cases ha
    · obtain⟨x,e1,h⟩:=W.ok j s e'
      refine⟨x,e1,?_⟩
      cases s with
      |no=>trivial
      |d f d=>obtain⟨v,e,h⟩:=h;exact⟨v,e,((h.fresh ha).keep (s1.but fun x z=> .inl (.inr (.inr (.inl z))))).av (hA f)⟩
      |own c f es=>obtain⟨e,n,q,xs,hx,hd⟩:=h;exact⟨e, .inl n,q,xs,s1.1 _ _ q hx,((hd.fresh ha).keep (s1.but fun x z=> .inl (.inr (.inr (.inl z))))).av (hA f)⟩
      |au=>exact h
      |raw v=>exact h
      |bN c f es=>obtain⟨e,n,q,xs,hx,hd⟩:=h;exact⟨e, .inl n,q,xs,s1.1 _ _ q hx,((hd.fresh ha).keep (s1.but fun x z=> .inl (.inr (.inr (.inl z))))).av (hA f)⟩
      | cu c =>
        obtain⟨e,n,q⟩:=h
        refine⟨e,fun a ha=>⟨.inl (n a ha).1,(n a ha).2⟩,c.av (hA c.f) (c.keep (.of fun x o hx e=>s1.1 x o ?_ e) (c.fresh ha q))⟩
        rcases hx with hx|hx
        · exact jJ fun z=>hx (.inl (.inr (.inr (.inl z))))
        · exact(n x hx).2
  refine W2.set ⟨rfl, .inr rfl,hN,xs,e,hd.av (hA f)⟩ ?_ (fun _ _ _ z=>by cases z) (fun x hx j t hj ht hc=>?_)
  rotate_left
  · have hx:x=a:=aK.mp hx
    subst hx
    rcases hc with ⟨c,z⟩|⟨c,rfl⟩
    · cases z
    · exact fun z=>W.live x ((W.ok j _ ht).choose_spec.2.2.1 x z).1 ha
  rintro a' f' ds' ⟨rfl,rfl,rfl⟩ j c g cs hj hc z
  subst z
  obtain⟨x,e1,h1,h2,h3,ys,hy,_⟩:=W.ok j _ hc
  rw[hy] at ha;cases ha
theorem Cb(h:aE G ρ te fun f ds=>∀a,E.nx (ρ.set i (.own a f ds))):Sv G ρ (fZ te (iK i)) E:=fun nb σ H D W K=>h nb σ H _ W fun f a xs H1 ds q s1 ha e hd=>K.nx _ _ _ H1 (q a) (Nq W s1 ha e hd)
theorem Ag{nb:Addr->Prop}{σ:St}{H:Hp}{a:Addr}{xs:List V}(W:Wd G nb ρ σ H)(e:ρ[i]?=some (.own a f ds))(hd:ah (G.S nb g) H es xs):Wd G nb (ρ.set i (.own a g es)) σ (upd H a (.lst xs)):=by
  obtain⟨x,e1,h1,h2,h3,ys,hy,_⟩:=W.ok i _ e
  subst h1
  have hil:i<ρ.length:=(bT.mp e).1
  have W0:Wd G nb (ρ.set i .no) (σ.set i (some (.ref a))) H:=W.set trivial fun _ _ _ z=>by cases z
  have W1:Wd G nb (ρ.set i .no) (σ.set i (some (.ref a))) (upd H a (.lst xs)):=W0.write h2 h3 (fun j c f' cs hc=>by
    by_cases hij:i=j
    · subst hij;rw[cU hil] at hc;cases hc
    · rw[bO hij] at hc
      exact(W.apart i j _ _ _ _ _ _ hij e hc).symm
   ) (fun j c f' cs hc z => by
      subst z
      have hij:i≠j:=fun z=>by subst z;rw[cU hil] at hc;cases hc
      rw[bO hij] at hc
      obtain⟨_,_,_,_,_,ps,hp,_⟩:=W.ok j _ hc
      rw[hy] at hp;cases hp) (fun j c hc z=>by
      have hij:i≠j:=fun z=>by subst z;rw[cU hil] at hc;cases hc
      rw[bO hij] at hc
      exact W.dU j i c _ (cX hij) hc e a z (aK.mpr rfl))
  have W2:=W1.set (i:=i) (s:= .own a g es) (x:=some (.ref a)) ⟨rfl,h2,h3,xs,aQ,hd.keep (aZ.set (.inl h2))⟩ (by
    rintro a' f' ds' ⟨rfl,rfl,rfl⟩ j c g' cs hj hc
    rw[bO (cX hj)] at hc
    exact W.apart i j _ _ _ _ _ _ (cX hj) e hc) (fun _ _ _ z=>by cases z) (fun x hx j t hj ht hc z=>by
    rw[bO (cX hj)] at ht
    have hx:x=a:=aK.mp hx
    subst hx
    rcases hc with ⟨c,q⟩|⟨c,rfl⟩
    · cases q
    · exact W.dU j i c _ hj ht e x z (aK.mpr rfl))
  rw[lV,lV] at W2
  have:σ.set i (some (.ref a))=σ:=by
    apply ja
    intro j
    by_cases hij:i=j
    · subst hij;rw[cU (by rw[W.len];exact hil),e1]
    · rw[bO hij]
  rwa[this] at W2
theorem append{a:Addr}(e:ρ[i]?=some (.own a f ds))(h:Ev G ρ te fun g d=>ds.length<10000/\E.nx (ρ.set i (.own a (f && g) (ds++[d])))):Sv G ρ (nB (pA K "list" C8 (bf i) (aX te bE))) E:=fun nb σ H D W KK=>by
 obtain⟨x,e1,h1,h2,h3,xs,hx,hd⟩:=W.ok i _ e
 subst h1
 refine⟨.ref a,e1, .inl ⟨rfl,_,bh.of hx⟩,h nb σ H _ W fun g v H1 d ⟨hl,q⟩ s1 hv=>?_⟩
 have W1:=W.step s1
 have CW:=s1.1 _ _ h3 hx
 refine⟨a,xs,v,rfl,rfl,CW,fB (by rw[hd.length];exact hl) (by decide),KK.nx nb _ _ _ q (Ag W1 e ?_)⟩
 exact ah.snoc (hv.av (cL (fun z=>(fU _ _▸z).2) fun _ z=>z)) ((hd.keep s1.dz).av (cL (fun z=>(fU _ _▸z).1) fun _ z=>z))
theorem ah.set'{nb:Addr->Prop}{H:Hp}{x:V}(hd:af nb H d x):∀{ds:List PyData} {xs:List V} (j:Nat),ah nb H ds xs->ah nb H (ds.set j d) (xs.set j x)
 |[],_,j,h=>by unfold ah at h;subst h;exact .nil
 |e::ds,_,0,h=>by unfold ah at h;obtain⟨y,ys,rfl,h1,h2⟩:=h;exact .cons hd h2
 |e::ds,_,j+1,h=>by unfold ah at h;obtain⟨y,ys,rfl,h1,h2⟩:=h;exact .cons h1 (ah.set' hd j h2)
theorem KW{a:Addr}(e:ρ[i]?=some (.own a f ds))(h:Ev G ρ te fun g d=>Ev G ρ tb fun _ y=>∃k j,y= .int k/\gV ds.length k=some j/\E.nx (ρ.set i (.own a (f && g) (ds.set j d)))):Sv G ρ (fZ te (mJ (bf i) tb tZ)) E:=fun nb σ H D W KK=>
 h nb σ H _ W fun g v H1 d q s1 hv=>by
  obtain⟨x,e1,h1,h2,h3,xs,hx,hd⟩:=(W.step s1).ok i _ e
  subst h1
  refine⟨.ref a,e1,q nb σ H1 _ (W.step s1) fun g' u H2 y ⟨k,j,ey,hj,p⟩ s2 hu=>?_⟩
  subst ey
  have W2:=(W.step s1).step s2
  refine⟨a,xs,k,j,rfl,hu.bD,s2.1 _ _ h3 hx,by rw[hd.length];exact hj,KK.nx nb _ _ _ p (Ag W2 e ?_)⟩
  exact ah.set' ((hv.keep s2.dz).av (cL (fun z=>(fU _ _▸z).2) fun _ z=>z)) j ((hd.keep s2.dz).av (cL (fun z=>(fU _ _▸z).1) fun _ z=>z))
theorem share{nb:Addr->Prop}{σ:St}{H:Hp}{a:Addr}(W:Wd G nb ρ σ H)(e:ρ[i]?=some (.own a f ds)):Wd G (fun x=>nb x/\x≠a) (ρ.set i (.d f (.list ds))) σ H:=by
  obtain⟨x,e1,h1,h2,h3,xs,hx,hd⟩:=W.ok i _ e
  subst h1
  have hil:i<ρ.length:=(bT.mp e).1
  have W0:Wd G nb (ρ.set i .no) (σ.set i (some (.ref a))) H:=W.set trivial fun _ _ _ z=>by cases z
  have W1:Wd G (fun x=>nb x/\x≠a) (ρ.set i .no) (σ.set i (some (.ref a))) H:=by
    refine⟨W0.au,fun x n=>W0.live x n.1,W0.old,fun x n=>W0.cY x n.1,W0.gA,W0.len,W0.gB,fun h m=>(W0.eE h m).av (cL (fun z=>z) fun _ z=>z.1),fun j s e'=>?_,W0.apart,W0.fM,W0.dU⟩
    obtain⟨x,ny,h⟩:=W0.ok j s e'
    refine⟨x,ny,?_⟩
    have hij:s≠ .no->i≠j:=fun n z=>by subst z;rw[cU hil] at e';cases e';exact n rfl
    cases s with
    |no=>trivial
    |d f d=>obtain⟨v,e,h⟩:=h;exact⟨v,e,h.av (cL (fun z=>z) fun _ z=>z.1)⟩
    | own c f es =>
      obtain⟨e2,n,q,xs,hx,hd⟩:=h
      have hij:=hij (by intro z;cases z)
      rw[bO hij] at e'
      exact⟨e2,⟨n,(W.apart i j _ _ _ _ _ _ hij e e').symm⟩,q,xs,hx,hd.av (cL (fun z=>z) fun _ z=>z.1)⟩
    |au=>exact h
    |raw v=>exact h
    | bN c f es =>
      obtain⟨e2,n,q,ps,hp,hd⟩:=h
      have hca:c≠a:=fun z=>by subst z;rw[hx] at hp;cases hp
      exact⟨e2,⟨n,hca⟩,q,ps,hp,hd.av (cL (fun z=>z) fun _ z=>z.1)⟩
    | cu c =>
      obtain⟨e2,n,q⟩:=h
      have hij:=hij (by intro z;cases z)
      rw[bO hij] at e'
      exact⟨e2,fun x hx=>⟨⟨(n x hx).1,fun z=>W.dU j i c _ (cX hij) e' e x hx (by rw[z];exact aK.mpr rfl)⟩,(n x hx).2⟩,c.av (cL (fun z=>z) fun _ z=>z.1) q⟩
  have W2:=W1.qS (i:=i) (f:=f) (d:= .list ds) (v:= .ref a) (.lst (fun z=>by
    rcases z with z|z|z|z
    · exact z.2 rfl
    · exact W.gA a z (W.cY a h2 h3)
    · exact z h3
    · exact z.2 (W.cY a h2 h3)) hx (hd.av (cL (fun z=>z) fun _ z=>z.1)))
  rw[lV,lV] at W2
  have:σ.set i (some (.ref a))=σ:=by
    apply ja
    intro j
    by_cases hij:i=j
    · subst hij;rw[cU (by rw[W.len];exact hil),e1]
    · rw[bO hij]
  rwa[this] at W2
theorem Ah{a:Addr}(i:Nat)(e:ρ[i]?=some (.own a f ds))(h:Sv G (ρ.set i (.d f (.list ds))) s E):Sv G ρ s E:=fun nb σ H D W K=>h _ σ H D (share W e) K
theorem wk{ρ':Rh}(w:Wk ρ' ρ)(h:Sv G ρ' s E):Sv G ρ s E:=fun nb σ H D W K=>h nb σ H D (W.wk w) K
end Sv
end
end L2
set_option maxRecDepth 100000
set_option maxHeartbeats 1000000
namespace L2
open PySem PySem.Spec PyProof.Rows
abbrev Gx.hd(G:Gx)(f:Bool)(d:PyData)(v:V):Gx:={G with hold:=(f, .d d,v)::G.hold}
section
variable{G:Gx}{ρ cH:Rh}{Φ Ψ:Pd}{ta tb te:TE}{t:TA}{i:Nat}{f g:Bool}{d e:PyData}{ds es:List PyData}{K:PySem.W.Frag}
theorem Wd.hd{nb:Addr->Prop}{σ:St}{H:Hp}{v:V}(W:Wd G nb ρ σ H)(h:af (G.S nb f) H d v):Wd (G.hd f d v) nb ρ σ H:=
 ⟨W.au,W.live,W.old,W.cY,W.gA,W.len,W.gB,fun x m=>by
  rcases aL.mp m with e|m
  ·subst e;exact h
  ·exact W.eE x m,fun i s e=>by
   obtain⟨x,e1,h⟩:=W.ok i s e
   refine⟨x,e1,?_⟩
   cases s<;>exact h,W.apart,W.fM,W.dU⟩
theorem Wd.iX{nb:Addr->Prop}{σ:St}{H:Hp}{v:V}(W:Wd (G.hd f d v) nb ρ σ H):Wd G nb ρ σ H/\af (G.S nb f) H d v:=
 ⟨⟨W.au,W.live,W.old,W.cY,W.gA,W.len,W.gB,fun x m=>W.eE x (bX _ m),fun i s e=>by
   obtain⟨x,e1,h⟩:=W.ok i s e
   refine⟨x,e1,?_⟩
   cases s<;>exact h,W.apart,W.fM,W.dU⟩,W.eE _ (cA ..)⟩
namespace Sv
variable{E:DE}{s:TS}{gt:TG}
def rK(G:Gx)(ρ:Rh)(n:Nat)(it:Nat->PyData->Prop)(fi:Bool)(gt:TG)(s:TS)(E:DE):Prop:=
 ∃I:Nat->Rh->Prop,I 0 ρ/\(∀i d ρ',it i d->I i ρ'->Gv G ρ' gt fi d fun iW=>Sv G iW s {nx:=I (i+1),rt:=E.rt,bk:=E.nx,ct:=I (i+1),rw:=E.rw})/\∀ρ',I n ρ'->E.nx ρ'
theorem Kh{lo:Int}{n:Nat}{nb:Addr->Prop}{σ:St}{H:Hp}{D:Ends}(W:Wd G nb ρ σ H)(KK:xu G E D)(h:rK G ρ n (fun i d=>i<n/\d= .int (lo+i)) true gt s E):
  ∃W:Nat->Nat->St->Hp->Prop,(∃m,W 0 m σ H)/\∀i m σ H,W i m σ H->
   ((j9 lo n).stop i H/\D.nx σ H)\/((j9 lo n).go i H/\∃N:St->Hp->Prop,(∀σ' H',N σ' H'->∃m',m'<m/\W (i+1) m' σ' H')/\∀x H',(j9 lo n).lI i H x H'->gt x σ H' fun σ2 H2=>s {D with nx:=N,ct:=N,bk:=D.nx} σ2 H2):=by
 obtain⟨I,h0,ht,he⟩:=h
 refine J7 (fun i σ H=>∃nb ρ',I i ρ'/\Wd G nb ρ' σ H) ⟨nb,ρ,h0,W⟩ ?_ ?_
 ·rintro i σ H hi ⟨nb,ρ',hI,W⟩
  refine ht i _ ρ' ⟨hi,rfl⟩ hI nb σ H _ _ W (.int _) fun σ2 iW q W2=>q nb σ2 H _ W2 ?_
  exact⟨fun nb ρ σ H q W=>⟨nb,ρ,q,W⟩,KK.nx,fun nb ρ σ H q W=>⟨nb,ρ,q,W⟩,KK.rt,KK.rw⟩
 ·rintro σ H ⟨nb,ρ',hI,W⟩
  exact KK.nx nb ρ' σ H (he ρ' hI) W
theorem RQ(h:Ev G ρ te fun _ x=>∃n:Int,x= .int n/\ -(2^62)<=n/\n<2^62/\rK G ρ n.toNat (fun i d=>i<n.toNat/\d= .int (0+i)) true gt s E):Sv G ρ (pQ (tV (aX te bE)) gt s) E:=fun nb σ H D W KK=>
 h nb σ H _ W fun f v H1 x ⟨n,ex,h1,h2,q⟩ s1 hv=>by
  subst ex
  rw[hv.bD]
  exact⟨n,rfl,h1,h2,Kh (W.step s1) KK q⟩
theorem abd(h:Ev G ρ ta fun _ x=>∃m:Int,x= .int m/\Ev G ρ tb fun _ y=>∃n:Int,y= .int n/\(-(2^62)<=m/\m<2^62/\ -(2^62)<=n/\n<2^62)/\rK G ρ (n-m).toNat (fun i d=>i<(n-m).toNat/\d= .int (m+i)) true gt s E):Sv G ρ (pQ (ES (aX ta (aX tb bE))) gt s) E:=fun nb σ H D W KK=>
 h nb σ H _ W fun f v H1 x ⟨m,ex,q⟩ s1 hv=>q nb σ H1 _ (W.step s1) fun f' u H2 y ⟨n,ey,hb,q⟩ s2 hu=>by
  subst ex ey
  rw[hv.bD,hu.bD]
  exact⟨m,n,rfl,hb,Kh ((W.step s1).step s2) KK q⟩
theorem forL(h:Ev G ρ te fun f x=>∃ds,x= .list ds/\∀v,rK (G.hd f (.list ds) v) ρ ds.length (fun i d=>ds[i]?=some d) f gt s E):Sv G ρ (pQ (qf K te) gt s) E:=fun nb σ H D W KK=>
 h nb σ H _ W fun f v H1 x ⟨ds,ex,q⟩ s1 hv=>by
  subst ex
  obtain⟨I,h0,ht,he⟩:=q v
  have W1:=(W.step s1).hd hv
  obtain⟨a,xs,rfl,n,hx,hd⟩:=hv.gy
  have key:∀{nb ρ' σ H},Wd (G.hd f (.list ds) (.ref a)) nb ρ' σ H->∃xs,H a=some (.lst xs)/\ah (G.S nb f) H ds xs:=fun W=>by
   obtain⟨a',xs',e',_,h',d'⟩:=W.iX.2.gy
   cases e'
   exact⟨xs',h',d'⟩
  refine⟨a,rfl,⟨xs, .of hx⟩,?_⟩
  refine⟨fun i m σ H=>m=ds.length-i/\i<=ds.length/\∃nb ρ',I i ρ'/\Wd (G.hd f (.list ds) (.ref a)) nb ρ' σ H,⟨ds.length,by simp,g8 _,nb,ρ,h0,W1⟩,?_⟩
  rintro i m σ H ⟨rfl,hi,nb,ρ',hI,W⟩
  obtain⟨ys,hy,hD⟩:=key W
  have hl:=hD.length
  by_cases hlt:i<ds.length
  ·refine .inr ⟨⟨ys,ys[i]'(by omega), .of hy,bP _⟩,fun σ H=>∃nb ρ',I (i+1) ρ'/\Wd (G.hd f (.list ds) (.ref a)) nb ρ' σ H,fun σ' H' q=>⟨ds.length-(i+1),by omega,rfl,hlt,q⟩,fun x H' y=>?_⟩
   obtain⟨e,y⟩:=y
   subst e
   have hx:=y ys (.of hy)
   obtain⟨x',hx',dx⟩:=hD.get (bP hlt)
   rw[hx] at hx';cases hx'
   refine ht i _ ρ' (bP hlt) hI nb σ _ _ _ W dx fun σ2 iW q W2=>q nb σ2 _ _ W2 ?_
   exact⟨fun nb ρ σ H q W=>⟨nb,ρ,q,W⟩,fun nb ρ σ H q W=>KK.nx nb ρ σ H q W.iX.1,fun nb ρ σ H q W=>⟨nb,ρ,q,W⟩,fun nb ρ σ f v H d q W hv=>KK.rt nb ρ σ f v H d q W.iX.1 hv,fun nb ρ σ v H q W=>KK.rw nb ρ σ v H q W.iX.1⟩
  ·have e:i=ds.length:=by omega
   subst e
   exact .inl ⟨⟨ys, .of hy,by omega⟩,KK.nx nb ρ' σ H (he ρ' hI) W.iX.1⟩
theorem K8{c:TT}(I:Rh->Prop)(μ:Rh->Nat)(h0:I ρ)(h:∀ρ',I ρ'->Tv G ρ' c fun b=>if b=true then Sv G ρ' s {nx:=fun iW=>I iW/\μ iW<μ ρ',rt:=E.rt,bk:=E.nx,ct:=fun iW=>I iW/\μ iW<μ ρ',rw:=E.rw} else E.nx ρ'):Sv G ρ (Cv c s) E:=fun nb σ H D W KK=>by
  refine⟨fun m σ H=>∃nb ρ',I ρ'/\Wd G nb ρ' σ H/\m=μ ρ',⟨_,nb,ρ,h0,W,rfl⟩,?_⟩
  rintro m σ H ⟨nb,ρ',hI,W,rfl⟩
  refine h ρ' hI nb σ H _ W fun b H1 q s1=>?_
  cases b with
  | true =>
    rw[if_pos rfl] at q⊢
    refine⟨fun σ' H'=>∃nb iW,(I iW/\μ iW<μ ρ')/\Wd G nb iW σ' H',fun σ' H' ⟨nb,iW,⟨q1,q2⟩,W2⟩=>⟨μ iW,q2,nb,iW,q1,W2,rfl⟩,q nb σ H1 _ (W.step s1) ?_⟩
    exact⟨fun nb ρ σ H q W=>⟨nb,ρ,q,W⟩,KK.nx,fun nb ρ σ H q W=>⟨nb,ρ,q,W⟩,KK.rt,KK.rw⟩
  |false=>rw[if_neg bV] at q⊢;exact KK.nx nb ρ' σ H1 q (W.step s1)
end Sv
def mR(mp:List (Option Nat))(ρ:Rh):Rh:=mp.map fun o=>match o with|none=> .no|some j=>match ρ[j]? with|some s=>s|none=> .no
theorem Dk{mp:List (Option Nat)}(h:(mp.filterMap id).Nodup):∀{i j k:Nat},mp[i]?=some (some k)->mp[j]?=some (some k)->i=j:=by
  induction mp with
  |nil=>intro i j k e;simp at e
  | cons o r ih =>
    intro i j k e1 e2
    have hr:(r.filterMap id).Nodup:=by
      cases o with
      |none=>simpa using h
      |some x=>rw[yI (by rfl)] at h;exact(gR.mp h).2
    have hn:∀{m:Nat},r[m]?=some (some k)->o≠some k:=fun{m} hm e=>by
      subst e
      rw[yI (by rfl)] at h
      exact(gR.mp h).1 (p8.mpr ⟨some k,dg hm,rfl⟩)
    cases i with
    | zero =>
      cases j with
      |zero=>rfl
      |succ j=>simp at e1 e2;exact absurd e1 (hn e2)
    | succ i =>
      cases j with
      |zero=>simp at e1 e2;exact absurd e2 (hn e1)
      |succ j=>simp at e1 e2;rw[ih hr e1 e2]
theorem Wd.gW{nb:Addr->Prop}{σ:St}{H:Hp}{mp:List (Option Nat)}(W:Wd G nb ρ σ H)(hm:(mp.filterMap id).Nodup):Wd G nb (mR mp ρ) (gW mp σ) H:=by
  have hat:∀{i:Nat} {s:Sl},(mR mp ρ)[i]?=some s->s= .no\/∃k,mp[i]?=some (some k)/\ρ[k]?=some s:=fun{i s} e=>by
    unfold mR at e
    rw[bI] at e
    obtain⟨o,ho,e⟩:=jo.mp e
    cases o with
    |none=>exact .inl e.symm
    | some k =>
      cases hk:ρ[k]? with
      |none=>simp only[hk] at e;exact .inl e.symm
      |some s'=>simp only[hk] at e;subst e;exact .inr ⟨k,ho,hk⟩
  refine⟨W.au,W.live,W.old,W.cY,W.gA,by unfold L2.gW mR;rw[ao,ao],W.gB,W.eE,fun i s e=>?_,fun i j a f as c g cs hij e1 e2=>?_,fun i j a f as c g cs hij e1 e2=>?_,fun i j c t hij e1 e2 a ha=>?_⟩
  · have hi:i<mp.length:=by have:=(bT.mp e).1;unfold mR at this;rwa[ao] at this
    rcases hat e with rfl|⟨k,hk,hs⟩
    · exact⟨_,by unfold L2.gW;rw[bI,bP hi];rfl,trivial⟩
    · obtain⟨x,e1,h⟩:=W.ok k s hs
      refine⟨x,?_,h⟩
      unfold L2.gW
      rw[bI,hk]
      simp only[sV,e1]
  · rcases hat e1 with z|⟨k,hk,hs⟩
    · cases z
    rcases hat e2 with z|⟨k',hk',hs'⟩
    · cases z
    exact W.apart k k' a f as c g cs (fun z=>by subst z;exact hij (Dk hm hk hk')) hs hs'
  · rcases hat e1 with z|⟨k,hk,hs⟩
    · cases z
    rcases hat e2 with z|⟨k',hk',hs'⟩
    · cases z
    exact W.fM k k' a f as c g cs (fun z=>by subst z;exact hij (Dk hm hk hk')) hs hs'
  · rcases hat e1 with z|⟨k,hk,hs⟩
    · cases z
    rcases hat e2 with z|⟨k',hk',hs'⟩
    · subst z;exact fun z=>by cases z
    exact W.dU k k' c t (fun z=>by subst z;exact hij (Dk hm hk hk')) hs hs' a ha
def PM(ρ:Rh)(acc:Addr):Prop:=(∀(j:Nat) a f ds,ρ[j]?=some (.own a f ds)->a≠acc)/\∀(j:Nat) c,ρ[j]?=some (.cu c)->acc∉c.F
def jD(G:Gx)(cH:Rh)(n:Nat)(it:Nat->PyData->Prop)(fi:Bool)(gt:TG)(tc:TT)(te:TE)(Θ:Bool->List PyData->Prop):Prop:=
 ∃(fl:Bool) (I:Nat->List PyData->Prop),I 0 []/\(∀i d ds,it i d->ds.length<=i->I i ds->Gv G cH gt fi d fun iO=>Wk cH iO/\Tv G iO tc fun b=>if b=true then Ev G iO te fun f e=>(fl=true->f=true)/\I (i+1) (ds++[e]) else I (i+1) ds)/\
  ∀ds,ds.length<=n->I n ds->Θ (fl||fL ds) ds
theorem Hg{gt:TG}{tc:TT}{nb:Addr->Prop}{acc:Addr}{σ:St}{H H1:Hp}{x:V}{fi fl:Bool}{I:Nat->List PyData->Prop}{xs:List V}{N:St->Hp->Prop}{ds:List PyData}{n:Nat}(hn:n<=10000)(hi:i<n)
    (W:Wd G nb cH σ H) (ha:nb acc) (hN:NB G.B acc) (hno:PM cH acc) (st:Step G.B H1 H) (hacc:H1 acc=none) (hx:H acc=some (.lst xs)) (hd:ah (G.S nb fl) H ds xs) (hl:ds.length<=i) (hxd:af (G.S nb fi) H d x)
    (h:Gv G cH gt fi d fun iO=>Wk cH iO/\Tv G iO tc fun b=>if b=true then Ev G iO te fun f e=>(fl=true->f=true)/\I (i+1) (ds++[e]) else I (i+1) ds)
    (z:∀σ' H' ds' xs',Wd G nb cH σ' H'->Step G.B H1 H'->H' acc=some (.lst xs')->ah (G.S nb fl) H' ds' xs'->ds'.length<=i+1->I (i+1) ds'->N σ' H'):
    gt x σ H fun σ2 H2=>tc σ2 H2 fun b H3=>if b=true then te σ2 H3 fun v H4=>∃ys,H4 acc=some (.lst ys)/\ys.length<sizeLine/\N σ2 (upd H4 acc (.lst (ys++[v]))) else N σ2 H3:=by
  refine h nb σ H x _ W hxd fun σ2 iO ⟨wk,q⟩ W2=>q nb σ2 H _ W2 fun b H3 q3 s3=>?_
  have Py:=s3.1 _ _ hN hx
  have O9:=hd.keep (s3.dz (nb:=nb) (f:=fl))
  cases b with
  | false =>
    rw[if_neg bV] at q3⊢
    exact z σ2 H3 ds xs ((W2.step s3).wk wk) (st.trans s3) Py O9 (by omega) q3
  | true =>
    rw[if_pos rfl] at q3⊢
    refine q3 nb σ2 H3 _ (W2.step s3) fun f v H4 e ⟨hf,hI⟩ s4 hv=>?_
    have M5:=s4.1 _ _ hN Py
    have Xz:=O9.keep (s4.dz (nb:=nb) (f:=fl))
    have hlen:=hd.length
    refine⟨xs,M5,fB (show xs.length<10001 by omega) (by decide),?_⟩
    have W4:Wd G nb cH σ2 H4:=((W2.step s3).step s4).wk wk
    have bt:aZ (G.S nb fl) H4 (upd H4 acc (.lst (xs++[v]))):=aZ.set (.inl ha)
    have W5:Wd G nb cH σ2 (upd H4 acc (.lst (xs++[v]))):=W4.write ha hN hno.1 (fun j a f ds e z=>by
      subst z
      obtain⟨_,_,_,_,_,ps,hp,_⟩:=W4.ok j _ e
      rw[M5] at hp;cases hp) hno.2
    refine z σ2 _ (ds++[e]) (xs++[v]) W5 ⟨fun a o n q=>?_,W5.au⟩ aQ (ah.snoc ((hv.av (cL hf fun _ z=>z)).keep bt) (Xz.keep bt)) (by rw[dW,kT];omega) hI
    have hne:a≠acc:=fun z=>by subst z;rw[hacc] at q;cases q
    rw[aB hne]
    exact(st.trans (s3.trans s4)).1 a o n q
theorem Gh{nb:Addr->Prop}{σ:St}{H:Hp}{a:Addr}(W:Wd G nb ρ σ H)(ha:H a=none):PM ρ a:=by
 refine⟨fun j c f ds e z=>?_,fun j c e z=>?_⟩
 ·subst z
  obtain⟨x,e1,h1,h2,h3,ys,hy,_⟩:=W.ok j _ e
  rw[hy] at ha;cases ha
 ·obtain⟨x,e1,h1,h2,h3⟩:=W.ok j _ e
  exact W.live a (h2 a z).1 ha
theorem Wm{nb:Addr->Prop}{a:Addr}{f:Bool}:∀x,(G.S nb f x\/x=a)->G.S (fun x=>nb x\/x=a) f x:=fun x z=>by
 rcases z with (z|z|z|z)|z
 ·exact .inl (.inl z)
 ·exact .inr (.inl z)
 ·exact .inr (.inr (.inl z))
 ·exact .inr (.inr (.inr z))
 ·exact .inl (.inr z)
theorem Be{nb:Addr->Prop}{acc:Addr}{H H1 H':Hp}{σ:St}{Q:VK}{Θ:Bool->List PyData->Prop}{xs:List V}{ds:List PyData}{fl:Bool}(W:Wd G nb ρ σ H)(s1:Step G.B H H1)(hacc:H1 acc=none)(s2:Step G.B H1 H')(hx:H' acc=some (.lst xs))(hd:ah (G.S (fun x=>nb x\/x=acc) fl) H' ds xs)(p:Θ (fl||fL ds) ds)
  (z:∀f a xs H' ds,Θ f ds->Step G.B H H'->H a=none->H' a=some (.lst xs)->ah (fun x=>G.S nb f x\/x=a) H' ds xs->Q (.ref a) H'):Q (.ref acc) H':=by
 refine z _ acc xs H' ds p (s1.trans s2) (W.none_of s1 hacc) hx ?_
 cases hs:fL ds with
 |true=>exact ah.jw hs hd
 |false=>rw[nO];exact hd.av Wm
theorem NB.new{B:Bg}{H:Hp}{a:Addr}(h:kO B H)(ha:H a=none):NB B a:=jJ fun z=>NB.kB h z ha
namespace aE
variable{Θ:Bool->List PyData->Prop}{gt:TG}{tc:TT}{mp:List (Option Nat)}
theorem WZ{lo:Int}{n:Nat}{nb:Addr->Prop}{σ:St}{H H1:Hp}{Q:VK}(W:Wd G nb ρ σ H)(s1:Step G.B H H1)(hm:(mp.filterMap id).Nodup)(dH:mR mp ρ=cH)(hn:n<=10000)(h:jD G cH n (fun i d=>i<n/\d= .int (lo+i)) true gt tc te Θ)
  (z:∀f a xs H' ds,Θ f ds->Step G.B H H'->H a=none->H' a=some (.lst xs)->ah (fun x=>G.S nb f x\/x=a) H' ds xs->Q (.ref a) H') (acc:Addr) (hacc:H1 acc=none):rW (j9 lo n) gt tc te acc (fun H'=>Q (.ref acc) H') (gW mp σ) (upd H1 acc (.lst [])):=by
 obtain⟨fl,I,h0,ht,he⟩:=h
 have W0:Wd G nb cH (L2.gW mp σ) H1:=by rw[<-dH];exact(W.step s1).gW hm
 have W1:=W0.more hacc (o:= .lst [])
 have hN:=NB.new s1.2 hacc
 have hno:=Gh W0 hacc
 have nH:Step G.B H1 (upd H1 acc (.lst [])):= .same s1.2 (dD hacc)
 refine R.EI (fun i σ H=>∃ds xs,Wd G (fun x=>nb x\/x=acc) cH σ H/\Step G.B H1 H/\H acc=some (.lst xs)/\ah (G.S (fun x=>nb x\/x=acc) fl) H ds xs/\ds.length<=i/\I i ds) ⟨[],[],W1,nH,aQ, .nil,aU _,h0⟩ ?_ ?_
 ·rintro i σ H hi ⟨ds,xs,W,st,hx,hd,hl,hI⟩
  exact Hg hn hi W (.inr rfl) hN hno st hacc hx hd hl (.int _) (ht i _ ds ⟨hi,rfl⟩ hl hI) fun σ' H' ds' xs' W' st' hx' hd' hl' hI'=>⟨ds',xs',W',st',hx',hd',hl',hI'⟩
 ·rintro σ H' ⟨ds,xs,W',st,hx,hd,hl,hI⟩
  exact Be W s1 hacc st hx hd (he ds hl hI) z
theorem sq{t0:TE}(hm:(mp.filterMap id).Nodup)(dH:mR mp ρ=cH)(h:Ev G ρ t0 fun _ x=>∃n:Int,x= .int n/\ -10000<=n/\n<=10000/\jD G cH n.toNat (fun i d=>i<n.toNat/\d= .int (0+i)) true gt tc te Θ):aE G ρ (kY (tV (aX t0 bE)) gt tc te mp) Θ:=fun nb σ H Q W z=>
 h nb σ H _ W fun f v H1 x ⟨n,ex,h1,h2,q⟩ s1 hv=>by
  subst ex
  rw[hv.bD]
  exact⟨n,rfl,by omega,by omega,WZ W s1 hm dH (by omega) q z⟩
theorem uT{t0:TE}(hm:(mp.filterMap id).Nodup)(dH:mR mp ρ=cH)(h:Ev G ρ t0 fun fi x=>∃es,x= .list es/\es.length<=10000/\∀v,jD (G.hd fi (.list es) v) cH es.length (fun i d=>es[i]?=some d) fi gt tc te Θ):aE G ρ (kY (qf K t0) gt tc te mp) Θ:=fun nb σ H Q W z=>
 h nb σ H _ W fun fi v H1 x ⟨es,ex,hn,q⟩ s1 hv=>by
  subst ex
  obtain⟨fl,I,h0,ht,he⟩:=q v
  have W0:=(W.step s1).hd hv
  obtain⟨a,xs,rfl,n,hx,hd⟩:=hv.gy
  refine⟨a,rfl,⟨xs, .of hx⟩,fun acc hacc=>?_⟩
  have IL:Wd (G.hd fi (.list es) (.ref a)) nb cH (L2.gW mp σ) H1:=by rw[<-dH];exact W0.gW hm
  have W1:=IL.more hacc (o:= .lst [])
  have hN:=NB.new s1.2 hacc
  have hno:=Gh IL hacc
  have nH:Step G.B H1 (upd H1 acc (.lst [])):= .same s1.2 (dD hacc)
  have Qx:NB G.B a:=jJ fun z=>n (.inr (.inr (.inl z)))
  refine R.DW (xs:=xs) (fun i σ H=>∃ds ys,Wd (G.hd fi (.list es) (.ref a)) (fun x=>nb x\/x=acc) cH σ H/\Step G.B H1 H/\H acc=some (.lst ys)/\ah (G.S (fun x=>nb x\/x=acc) fl) H ds ys/\ds.length<=i/\I i ds) ⟨[],[],W1,nH,aQ, .nil,aU _,h0⟩ ?_ ?_ ?_
  ·rintro i σ H hi ⟨ds,ys,W,st,_⟩
   exact .of (st.1 _ _ Qx hx)
  ·rintro i x σ H hi ⟨ds,ys,W,st,hy,hd',hl,hI⟩
   obtain⟨a',xs',e',_,h',d'⟩:=W.iX.2.gy
   cases e'
   rw[st.1 _ _ Qx hx] at h';cases h'
   have hil:i<es.length:=by have:=(bT.mp hi).1;have:=d'.length;omega
   obtain⟨x',hx',dx⟩:=d'.get (bP hil)
   rw[hi] at hx';cases hx'
   exact Hg (G:=G.hd fi (.list es) (.ref a)) hn hil W (.inr rfl) hN hno st hacc hy hd' hl dx (ht i _ ds (bP hil) hl hI) fun σ' H' ds' xs' W' st' hx' hd' hl' hI'=>⟨ds',xs',W',st',hx',hd',hl',hI'⟩
  ·rintro σ H' ⟨ds,ys,W',st,hy,hd',hl,hI⟩
   rw[hd.length] at hl hI
   exact Be W s1 hacc st hy hd' (he ds hl hI) z
end aE
end
end L2
set_option maxRecDepth 100000
set_option maxHeartbeats 1000000
namespace L2
open PySem PySem.Spec PyProof.Rows
section
variable{ρ:Rh}{t:TS}{N:List Str}{vs:List V}{ds:List PyData}{nb:Addr->Prop}{H:Hp}{Q:VK}{Φ:Pd}{b l:Addr}
theorem j7{xs:List V}(h:ah nb H ds xs){i:Nat}{s:Sl}(e:(ds.map (Sl.d false))[i]?=some s):∃v d,xs[i]?=some v/\s= .d false d/\af nb H d v:=by
 rw[bI] at e
 obtain⟨d,hd,e⟩:=jo.mp e
 obtain⟨v,hv,q⟩:=h.get hd
 exact⟨v,d,hv,e.symm,q⟩
theorem Sv.jG(hl:iE nb H)(hd:ah nb H ds vs)(az:∀f d v H',Φ f d->cS H H'->af (fun a=>nb a\/(f=true/\H a≠none)) H' d v->Q v H')
  (dH:ρ=ds.map (Sl.d false)++List.replicate (N.length-ds.length) .no) (h:Sv ⟨none,H,nb,[]⟩ ρ t {nx:=fun _=>Φ true .none,rt:=Φ}):t {nx:=fun _ H'=>Q .aI H',rt:=Q} (start N vs) H:=by
 have hlen:=hd.length
 have sm:∀{aC ρ' σ' H'},Wd ⟨none,H,nb,[]⟩ aC ρ' σ' H'->cS H H':=fun W a o e=>W.old a o (fun _ _ z=>(by cases z)) e
 refine h (fun _=>False) _ H _ ⟨fun _ _ z=>(by cases z),fun _ z=>z.elim,fun _ _ _ e=>e,fun _ z=>z.elim,hl,?_,fun _ _ z=>(by cases z),fun _ m=>(by cases m),fun i s e=>?_,?_,?_,?_⟩ ⟨fun aC ρ' σ' H' q W=>az _ _ _ _ q (sm W) .aI,fun _ _ _ _ q _=>q.elim,fun _ _ _ _ q _=>q.elim,fun aC ρ' σ' f v H' d q W hv=>az f d v H' q (sm W) (hv.av fun a z=>?_),fun _ _ _ _ _ q _=>q.elim⟩
 ·rw[dH];unfold start;simp[hlen]
 ·rw[dH] at e
  unfold start
  by_cases hi:i<ds.length
  ·rw[gM (by rw[ao];exact hi)] at e
   obtain⟨v,d,hv,rfl,q⟩:=j7 hd e
   refine⟨some v,?_,v,rfl,q.av fun a z=>?_⟩
   ·rw[gM (by rw[ao,hlen];exact hi),bI,hv];rfl
   ·rcases z with z|z|z|z
    ·exact z.elim
    ·exact z
    ·exact absurd (fun _ _ z=>(by cases z)) z
    ·cases z.1
  ·rw[iu (by rw[ao];omega),eY] at e
   split at e
   ·rename_i h'
    cases e
    refine⟨none,?_,trivial⟩
    rw[ao] at h'
    rw[iu (by rw[ao];omega),eY,if_pos (by rw[ao,hlen];exact h')]
   ·cases e
 ·intro i j a f as c g cs hij e1
  rw[dH] at e1
  by_cases hi:i<ds.length
  ·rw[gM (by rw[ao];exact hi)] at e1
   obtain⟨_,_,_,z,_⟩:=j7 hd e1
   cases z
  ·rw[iu (by rw[ao];omega),eY] at e1
   split at e1<;>cases e1
 ·intro i j a f as c g cs hij e1
  rw[dH] at e1
  by_cases hi:i<ds.length
  ·rw[gM (by rw[ao];exact hi)] at e1
   obtain⟨_,_,_,z,_⟩:=j7 hd e1
   cases z
  ·rw[iu (by rw[ao];omega),eY] at e1
   split at e1<;>cases e1
 ·intro i j c t hij e1
  rw[dH] at e1
  by_cases hi:i<ds.length
  ·rw[gM (by rw[ao];exact hi)] at e1
   obtain⟨_,_,_,z,_⟩:=j7 hd e1
   cases z
  ·rw[iu (by rw[ao];omega),eY] at e1
   split at e1<;>cases e1
 ·rcases z with z|z
  ·exact .inr (.inl z)
  ·exact .inr (.inr (.inr z))
theorem Sv.pJ(hB:eg H b l)(hl:iE nb H)(hb:nb b)(hd:ah nb H ds vs)(az:∀f d v H',Φ f d->aZ (Nb b) H H'->eg H' b l->af (fun a=>nb a\/(f=true/\H a≠none)) H' d v->Q v H')
    (dH:ρ= .au::ds.map (Sl.d false)++List.replicate (N.length-(ds.length+1)) .no) (h:Sv ⟨some (b,l),H,nb,[]⟩ ρ t {nx:=fun _=>Φ true .none,rt:=Φ}):t {nx:=fun _ H'=>Q .aI H',rt:=Q} (start N (.ref b::vs)) H:=by
  have hlen:=hd.length
  have jk:∀a,a≠b->NB (some (b,l)) a:=fun a n b' l' e=>by cases e;exact n
  have acO:∀a,¬NB (some (b,l)) a->a=b:=fun a n=>jJ fun z=>n (jk a z)
  have bt:∀{aC ρ' σ' H'},Wd ⟨some (b,l),H,nb,[]⟩ aC ρ' σ' H'->aZ (Nb b) H H':=fun W a o n e=>W.old a o (jk a n) e
  have bg:∀{aC ρ' σ' H'},Wd ⟨some (b,l),H,nb,[]⟩ aC ρ' σ' H'->eg H' b l:=fun W=>W.au b l rfl
  refine h (fun _=>False) _ H _ ⟨fun b' l' e=>(by cases e;exact hB),fun _ z=>z.elim,fun _ _ _ e=>e,fun _ z=>z.elim,hl,?_,fun b' l' e=>(by cases e;exact hB),fun _ m=>(by cases m),fun i s e=>?_,?_,?_,?_⟩ ⟨fun aC ρ' σ' H' q W=>az _ _ _ _ q (bt W) (bg W) .aI,fun _ _ _ _ q _=>q.elim,fun _ _ _ _ q _=>q.elim,fun aC ρ' σ' f v H' d q W hv=>az f d v H' q (bt W) (bg W) (hv.av fun a z=>?_),fun _ _ _ _ _ q _=>q.elim⟩
  · rw[dH];unfold start;simp[hlen]
  · rw[dH] at e
    unfold start
    cases i with
    |zero=>simp at e;subst e;exact⟨some (.ref b),by simp,b,l,rfl,rfl⟩
    | succ i =>
      simp only[kI,j3,bL,fG] at e⊢
      by_cases hi:i<ds.length
      · rw[gM (by rw[ao];exact hi)] at e
        obtain⟨v,d,hv,rfl,q⟩:=j7 hd e
        refine⟨some v,?_,v,rfl,q.av fun a z=>?_⟩
        · rw[gM (by rw[ao,hlen];exact hi),bI,hv];rfl
        · rcases z with z|z|z|z
          · exact z.elim
          · exact z
          · rw[acO a z];exact hb
          · cases z.1
      · rw[iu (by rw[ao];omega),eY] at e
        split at e
        · rename_i h'
          cases e
          refine⟨none,?_,trivial⟩
          rw[ao] at h'
          rw[iu (by rw[ao];omega),eY,if_pos (by rw[ao,hlen];exact h')]
        · cases e
  · intro i j a f as c g cs hij e1
    rw[dH] at e1
    cases i with
    |zero=>simp at e1
    | succ i =>
      simp only[kI,j3] at e1
      by_cases hi:i<ds.length
      · rw[gM (by rw[ao];exact hi)] at e1
        obtain⟨_,_,_,z,_⟩:=j7 hd e1
        cases z
      · rw[iu (by rw[ao];omega),eY] at e1
        split at e1<;>cases e1
  · intro i j a f as c g cs hij e1
    rw[dH] at e1
    cases i with
    |zero=>simp at e1
    | succ i =>
      simp only[kI,j3] at e1
      by_cases hi:i<ds.length
      · rw[gM (by rw[ao];exact hi)] at e1
        obtain⟨_,_,_,z,_⟩:=j7 hd e1
        cases z
      · rw[iu (by rw[ao];omega),eY] at e1
        split at e1<;>cases e1
  · intro i j c t hij e1
    rw[dH] at e1
    cases i with
    |zero=>simp at e1
    | succ i =>
      simp only[kI,j3] at e1
      by_cases hi:i<ds.length
      · rw[gM (by rw[ao];exact hi)] at e1
        obtain⟨_,_,_,z,_⟩:=j7 hd e1
        cases z
      · rw[iu (by rw[ao];omega),eY] at e1
        split at e1<;>cases e1
  · rcases z with z|z
    · exact .inr (.inl z)
    · exact .inr (.inr (.inr z))
def zb(b l:Addr)(H:Hp):Gx:=⟨some (b,l),H,fun _=>False,[]⟩
theorem aax{a:Addr}{m:Nat}(hB:eg H b l):Wd (zb b l H) (fun _=>False) (.raw (.ref a):: .au::List.replicate m .no) (some (.ref a)::some (.ref b)::List.replicate m none) H:=by
  refine⟨fun b' l' e=>(by cases e;exact hB),fun _ z=>z.elim,fun _ _ _ e=>e,fun _ z=>z.elim,fun _ z=>z.elim,by simp,fun b' l' e=>(by cases e;exact hB),fun _ m=>(by cases m),fun i s e=>?_,?_,?_,?_⟩
  · match i with
    |0=>simp at e;subst e;exact⟨_,rfl,rfl⟩
    |1=>simp at e;subst e;exact⟨some (.ref b),rfl,b,l,rfl,rfl⟩
    | i + 2 =>
      simp only[j3,eY] at e⊢
      split at e
      · rename_i h;cases e;exact⟨none,if_pos h,trivial⟩
      · cases e
  · intro i j a f as c g cs hij e1
    match i with
    |0=>simp at e1
    |1=>simp at e1
    | i + 2 =>
      simp only[j3,eY] at e1
      split at e1<;>cases e1
  · intro i j a f as c g cs hij e1
    match i with
    |0=>simp at e1
    |1=>simp at e1
    | i + 2 =>
      simp only[j3,eY] at e1
      split at e1<;>cases e1
  · intro i j c t hij e1
    match i with
    |0=>simp at e1
    |1=>simp at e1
    | i + 2 =>
      simp only[j3,eY] at e1
      split at e1<;>cases e1
theorem Ev.V9{G:Gx}{i:Nat}{a:Addr}{ns:List Int}{K:PySem.W.Frag}(e:ρ[i]?=some (.raw (.ref a)))(hS:bh K G.H0 a (ns.map V.int))(h:Φ true (.int ns.length)):Ev G ρ (fc (iB K) (aX (bf i) bE)) Φ:=fun nb σ H Q W z=>by
 obtain⟨x,e1,h1⟩:=W.ok i _ e
 have h1:x=some (.ref a):=h1
 subst h1
 have hS':bh K H a (ns.map V.int):=by
  rcases hS with hr|hk
  ·have hn:NB G.B a:=fun b l hb z=>by
    subst z
    obtain⟨_,_,_,_,_,g1,_⟩:=W.gB _ _ hb
    rcases hr with hr|⟨o,hr⟩
    ·rw[g1] at hr
     have:=HO.lst.inj (gf hr)
     cases ns with
     |nil=>cases this
     |cons n r=>rw[bL] at this;cases (List.cons.inj this).1
    ·rw[g1] at hr;cases hr
   rcases hr with hr|⟨o,hr⟩
   ·exact .inl (.inl (W.old _ _ hn hr))
   ·exact .inl (.inr ⟨o,W.old _ _ hn hr⟩)
  ·exact .inr hk
 refine⟨.ref a,e1,a,_,rfl, .inl hS',?_⟩
 rw[ao]
 exact z true _ H _ h (.refl W.au) (.int _)
theorem aaA{D:Ends}(h2:∀H,D.rt (.bl true) H):xu (zb b l H) {nx:=fun _=>False,rt:=fun _ d=>d= .bool true} D:=
 ⟨fun _ _ _ _ q _=>q.elim,fun _ _ _ _ q _=>q.elim,fun _ _ _ _ q _=>q.elim,fun _ _ _ f v H d q _ hv=>by subst q;unfold af at hv;subst hv;exact h2 H,fun _ _ _ _ _ q _=>q.elim⟩
end
namespace R
theorem di{P:Int->Prop}{i:Int}(h:P i):∃j,PyData.int i= .int j/\P j:=⟨i,rfl,h⟩
theorem db{P:Bool->Prop}{i:Bool}(h:P i):∃j,PyData.bool i= .bool j/\P j:=⟨i,rfl,h⟩
theorem dl{P:List PyData->Prop}{i:List PyData}(h:P i):∃j,PyData.list i= .list j/\P j:=⟨i,rfl,h⟩
theorem dt{P:List PyData->Prop}{i:List PyData}(h:P i):∃j,PyData.tuple i= .tuple j/\P j:=⟨i,rfl,h⟩
theorem V0{P:List PyData->Prop}{i:List PyData}(h:P i):∃j,(PyData.list i= .list j\/PyData.list i= .tuple j)/\P j:=⟨i, .inl rfl,h⟩
theorem dlt{P:List PyData->Prop}{i:List PyData}(h:P i):∃j,(PyData.tuple i= .list j\/PyData.tuple i= .tuple j)/\P j:=⟨i, .inr rfl,h⟩
theorem TH{P:Bool->Prop}{i j:Int}(h:P (decide (i=j))):∃b,iN (.int i) (.int j) b/\P b:=⟨_, .ii i j,h⟩
theorem YB{P:Bool->Prop}{x y:Bool}(h:P (x==y)):∃b,iN (.bool x) (.bool y) b/\P b:=⟨_, .bb x y,h⟩
theorem at_{ds:List PyData}{k:Int}{e:PyData}{P:PyData->Prop}(h:cO ds k=some e)(q:P e):∃e,cO ds k=some e/\P e:=⟨e,h,q⟩
theorem QX{C A:Prop}(c:C)(q:A):C/\A:=⟨c,q⟩
end R
theorem jK{n:Nat}{F:DF}{vs:List V}{H:Hp}{Q:VK}{E:XK}(h:cK n F vs H Q E):∃(nb:Addr->Prop) (ds:List PyData) (Φ:Pd),iE nb H/\ah nb H ds vs/\(∀f d v H',Φ f d->cS H H'->af (fun a=>nb a\/(f=true/\H a≠none)) H' d v->Q v H')/\F ds Φ:=by
 obtain⟨_,nb,ds,h1,h2,h3⟩:=h
 exact⟨nb,ds,_,h1,h2,fun f d v H' q=>q v H',h3⟩
theorem oW{n:Nat}{F:DF}{vs:List V}{H:Hp}{Q:VK}{E:XK}(h:iG n F vs H Q E):∃(b l:Addr) (ws:List V) (nb:Addr->Prop) (ds:List PyData) (Φ:Pd),vs= .ref b::ws/\eg H b l/\iE nb H/\nb b/\ah nb H ds ws/\(∀f d v H',Φ f d->aZ (Nb b) H H'->eg H' b l->af (fun a=>nb a\/(f=true/\H a≠none)) H' d v->Q v H')/\F ds Φ:=by
 obtain⟨_,b,l,ws,nb,ds,e,hB,h1,hb,h2,h3⟩:=h
 exact⟨b,l,ws,nb,ds,_,e,hB,h1,hb,h2,fun f d v H' q=>q v H',h3⟩
end L2
set_option maxRecDepth 100000
set_option maxHeartbeats 1000000
namespace L2
open PySem PySem.Spec PyProof.Rows
abbrev bz:=List (Int×Int)
abbrev Wo:=List (Option Int)
abbrev fE(prs:bz):PyData:= .list (prs.map pairD)
abbrev dN(wd:Wo):PyData:= .list (wd.map bF)
def oH(prs:bz)(wd:Wo):Prop:=∃pr∈prs,wd[pr.1.toNat]?=some none
instance{prs:bz}{wd:Wo}:Decidable (oH prs wd):=by unfold oH;infer_instance
def rX(p:Int)(prs:bz)(wd:Wo):Option Int:=if oH prs wd then none else some (dP prs wd%p)
def pW(prs:bz)(m:Nat):Prop:=∀pr∈prs,0<=pr.1/\pr.1<m/\Sm pr.2
def nU(wd:Wo):Prop:=∀x,some x∈wd->Sm x
theorem pI{α β:Type}{xs:List α}(φ:α->β){k:Int}{m:Nat}(h0:0<=k)(h1:k<m)(hm:m=xs.length):∃x,xs[k.toNat]?=some x/\cO (xs.map φ) k=some (φ x):=by
 have hk:k.toNat<xs.length:=by omega
 exact⟨xs[k.toNat],bP hk,lD h0 (by rw[bI,bP hk];rfl)⟩
theorem gJ{α β:Type}{xs:List α}{φ:α->β}{i:Nat}{d:β}(h:(xs.map φ)[i]?=some d):∃x,xs[i]?=some x/\d=φ x:=by
 rw[bI] at h
 obtain⟨x,hx,e⟩:=jo.mp h
 exact⟨x,hx,e.symm⟩
theorem take_snoc{α:Type}{xs:List α}{i:Nat}{x:α}(h:xs[i]?=some x):xs.take (i+1)=xs.take i++[x]:=by
 rw[Fv,h];rfl
theorem vg(o:Option Int):sM (bF o)=o.isNone:=by cases o<;>rfl
end L2
set_option maxRecDepth 100000
set_option maxHeartbeats 4000000
namespace L2
open PySem PySem.Spec PyProof.Rows
structure Eu(p b L lt r t:Int):Prop where
 l0:0<L
 r0:0<=r
 lp:L<=p
 rp:r<=p
 lc:∃k,L=lt*b+p*k
 rc:∃k,r=t*b+p*k
 dv:∀d,d∣L->d∣r->d∣p/\d∣b%p
 sz:(t.natAbs:Int)*L+(lt.natAbs:Int)*r<=p
theorem Eu.start{p b:Int}(hp:2<=p):Eu p b p 0 (b%p) 1:=by
 have m1:=iT b (show p≠0 by omega)
 have m2:=iQ b (show 0<p by omega)
 refine⟨by omega,m1,Gu _,by omega,⟨1,by rw[qX,Int.zero_add,BD]⟩,⟨-(b/p),?_⟩,fun d h1 h2=>⟨h1,h2⟩,?_⟩
 ·have:=ow b p
  rw[Int.one_mul,Int.mul_neg]
  omega
 ·show(1:Int)*p+0*(b%p)<=p
  rw[Int.one_mul,qX]
  omega
theorem Eu.tb{p b L lt r t:Int}(h:Eu p b L lt r t): -p<=t/\t<=p:=by
 have h1:(t.natAbs:Int)*1<=(t.natAbs:Int)*L:=Hr (by have:=h.l0;omega) (by omega)
 have h2:0<=(lt.natAbs:Int)*r:=Int.mul_nonneg (by omega) h.r0
 have:=h.sz
 omega
theorem Eu.next{p b L lt r t:Int}(h:Eu p b L lt r t)(hr:0<r):Eu p b r t (L-L/r*r) (lt-L/r*t)/\L-L/r*r<r:=by
 have e:=ow L r
 have m1:=iT L (show r≠0 by omega)
 have m2:=iQ L hr
 have e':L-L/r*r=L%r:=by rw[oK (L/r) r];omega
 have q0:0<=L/r:=yq (by have:=h.l0;omega) (by omega)
 obtain⟨k1,c1⟩:=h.lc
 obtain⟨k2,c2⟩:=h.rc
 refine⟨⟨hr,by omega,h.rp,by have:=h.rp;omega,h.rc,⟨k1-L/r*k2,?_⟩,fun d d1 d2=>?_,?_⟩,by omega⟩
 ·rw[xh,mG]
  generalize L/r=q at*
  have z:q*r=q*(t*b)+q*(p*k2):=by rw[<-yR,<-c2]
  have z1:q*(t*b)=q*t*b:=(ki q t b).symm
  have z2:q*(p*k2)=p*(q*k2):=by rw[<-ki,oK q p,ki]
  omega
 ·have dL:d∣L:=by
   have z:d∣(L-L/r*r)+L/r*r:=Int.dvd_add d2 (Int.dvd_mul_of_dvd_right d1)
   have z2:(L-L/r*r)+L/r*r=L:=by omega
   rwa[z2] at z
  exact h.dv d dL d1
 ·generalize L/r=q at*
  have a1:((lt-q*t).natAbs:Int)<=(lt.natAbs:Int)+q*(t.natAbs:Int):=by
   have b1:(lt-q*t).natAbs<=lt.natAbs+(q*t).natAbs:=by omega
   have b2:((q*t).natAbs:Int)=q*(t.natAbs:Int):=by
    rw[GZ]
    have:(q.natAbs:Int)=q:=by omega
    rw[Int.natCast_mul,this]
   omega
  have a2:((lt-q*t).natAbs:Int)*r<=((lt.natAbs:Int)+q*(t.natAbs:Int))*r:=Int.mul_le_mul_of_nonneg_right a1 (by omega)
  have a3:((lt.natAbs:Int)+q*(t.natAbs:Int))*r=(lt.natAbs:Int)*r+q*(t.natAbs:Int)*r:=Int.add_mul _ _ _
  have a4:(t.natAbs:Int)*(L-q*r)=(t.natAbs:Int)*L-q*(t.natAbs:Int)*r:=by
   rw[mG,<-ki,oK (t.natAbs:Int) q]
  have:=h.sz
  omega
theorem JI{α:Type}{us:List α}(h:us.length=1):∃a,us=[a]:=by
  cases us with
  |nil=>cases h
  | cons a us =>
    cases us with
    |nil=>exact⟨a,rfl⟩
    |cons _ _=>cases h
theorem ln2{α:Type}{us:List α}(h:us.length=2):∃a b,us=[a,b]:=by
  cases us with
  |nil=>cases h
  | cons a us =>
    obtain⟨b,rfl⟩:=JI (us:=us) (GR h)
    exact⟨a,b,rfl⟩
theorem Qj{α:Type}{us:List α}(h:us.length=3):∃a b c,us=[a,b,c]:=by
  cases us with
  |nil=>cases h
  | cons a us =>
    obtain⟨b,c,rfl⟩:=ln2 (us:=us) (GR h)
    exact⟨a,b,c,rfl⟩
theorem ln4{α:Type}{us:List α}(h:us.length=4):∃a b c d,us=[a,b,c,d]:=by
  cases us with
  |nil=>cases h
  | cons a us =>
    obtain⟨b,c,d,rfl⟩:=Qj (us:=us) (GR h)
    exact⟨a,b,c,d,rfl⟩
end L2
set_option maxRecDepth 100000
set_option maxHeartbeats 1000000
namespace L2
open PySem PySem.Spec PyProof.Rows
def k8(xs:Array Nat):Prop:=∀(i j x y:Nat),i<j->xs[i]?=some x->xs[j]?=some y->x<y
theorem Xe{xs:Array Nat}{q:Nat}(hr:k8 xs):∀(f lo hi:Nat),hi<=xs.size->lo<=hi->hi-lo<=f->(∀i x,i<lo->xs[i]?=some x->x<q)->(∀i x,hi<=i->xs[i]?=some x->q<=x)->
    lo<=SetTable.below.go xs q f lo hi/\SetTable.below.go xs q f lo hi<=hi/\(∀i x,i<SetTable.below.go xs q f lo hi->xs[i]?=some x->x<q)/\(∀i x,SetTable.below.go xs q f lo hi<=i->xs[i]?=some x->q<=x):=by
  intro f
  induction f with
  | zero =>
    intro lo hi h1 h2 h3 h4 h5
    have e:lo=hi:=by omega
    subst e
    exact⟨aU _,aU _,h4,h5⟩
  | succ f ih =>
    intro lo hi h1 h2 h3 h4 h5
    unfold SetTable.below.go
    by_cases hlt:lo<hi
    · rw[if_pos hlt]
      have hm:(lo+hi)/2<xs.size:=by omega
      have hg:xs[(lo+hi)/2]?=some xs[(lo+hi)/2]:=l6 hm
      have hgd:xs.getD ((lo+hi)/2) q=xs[(lo+hi)/2]:=by rw[EN,hg];rfl
      dsimp only
      rw[hgd]
      by_cases hc:xs[(lo+hi)/2]<q
      · rw[if_pos hc]
        obtain⟨a1,a2,a3,a4⟩:=ih ((lo+hi)/2+1) hi h1 (by omega) (by omega) (fun i x hi' e=>by
          rcases Nat.lt_or_ge i ((lo+hi)/2) with z|z
          · exact um (hr i _ x _ z e hg) hc
          · have:i=(lo+hi)/2:=by omega
            subst this;rw[hg] at e;cases e;exact hc) h5
        exact⟨by omega,a2,a3,a4⟩
      · rw[if_neg hc]
        obtain⟨a1,a2,a3,a4⟩:=ih lo ((lo+hi)/2) (by omega) (by omega) (by omega) h4 (fun i x hi' e=>by
          rcases Nat.lt_or_ge ((lo+hi)/2) i with z|z
          · exact j5 (oq (Dy hc) (hr _ i _ x z hg e))
          · have:i=(lo+hi)/2:=by omega
            subst this;rw[hg] at e;cases e;exact Dy hc)
        exact⟨a1,by omega,a3,a4⟩
    · rw[if_neg hlt]
      have e:lo=hi:=by omega
      subst e
      exact⟨aU _,aU _,h4,h5⟩
theorem below_at{xs:Array Nat}{q:Nat}(hr:k8 xs):SetTable.below xs q<=xs.size/\(∀i x,i<SetTable.below xs q->xs[i]?=some x->x<q)/\(∀i x,SetTable.below xs q<=i->xs[i]?=some x->q<=x):=by
 obtain⟨_,h2,h3,h4⟩:=Xe (q:=q) hr xs.size 0 xs.size (aU _) (g8 _) (by omega) (fun i x h=>absurd h (Nat.not_lt_zero _)) (fun i x h e=>by
  have:=(vd.mp e).1;omega)
 exact⟨h2,h3,h4⟩
theorem YF{α:Type}{xs:Array α}{p:Nat}{x:α}(hp:p<=xs.size)(i:Nat):(SetTable.insertAt xs p x)[i]?=if i<p then xs[i]? else if i=p then some x else xs[i-1]?:=by
 unfold SetTable.insertAt
 rw[Array.getElem?_append]
 have e1:((xs.extract 0 p).push x).size=p+1:=by rw[Array.size_push,Ak];omega
 rw[e1]
 by_cases h1:i<p
 ·rw[if_pos (show i<p+1 by omega),if_pos h1,P6,if_neg (by rw[Ak];omega),O8 (by omega)]
  simp
 ·rw[if_neg h1]
  by_cases h2:i=p
  ·rw[if_pos (show i<p+1 by omega),if_pos h2,P6,if_pos (by rw[Ak];omega)]
  ·rw[if_neg (show¬i<p+1 by omega),if_neg h2]
   by_cases h3:i-(p+1)<xs.size-p
   ·rw[O8 (by omega),<-l6,show p+(i-(p+1))=i-1 by omega]
   ·rw[CY (by rw[Ak];omega),CY (by omega)]
theorem k8.insert{xs:Array Nat}{q:Nat}(hr:k8 xs)(hq:xs[SetTable.below xs q]?≠some q):k8 (SetTable.insertAt xs (SetTable.below xs q) q):=by
 obtain⟨h1,h2,h3⟩:=below_at (q:=q) hr
 have h3':∀i x,SetTable.below xs q<=i->xs[i]?=some x->q<x:=fun i x hi e=>by
  rcases C0 (h3 i x hi e) with z|z
  ·exact z
  ·subst z
   rcases C0 hi with z|z
   ·have hb:SetTable.below xs q<xs.size:=fB z (j5 (vd.mp e).1)
    have hg:xs[SetTable.below xs q]?=some xs[SetTable.below xs q]:=l6 hb
    have:=hr _ i _ q z hg e
    have:=h3 _ _ (aU _) hg
    omega
   ·rw[<-z] at e;exact absurd e hq
 intro i j x y hij ex ey
 rw[YF h1] at ex ey
 by_cases a:i<SetTable.below xs q
 ·rw[if_pos a] at ex
  by_cases b:j<SetTable.below xs q
  ·rw[if_pos b] at ey;exact hr i j x y hij ex ey
  ·rw[if_neg b] at ey
   by_cases c:j=SetTable.below xs q
   ·rw[if_pos c] at ey;cases ey;exact h2 i x a ex
   ·rw[if_neg c] at ey;exact hr i (j-1) x y (by omega) ex ey
 ·rw[if_neg a] at ex
  by_cases c:i=SetTable.below xs q
  ·rw[if_pos c] at ex;cases ex
   rw[if_neg (by omega),if_neg (by omega)] at ey
   exact h3' (j-1) y (by omega) ey
  ·rw[if_neg c] at ex
   rw[if_neg (by omega),if_neg (by omega)] at ey
   exact hr (i-1) (j-1) x y (by omega) ex ey
theorem Zy{t:SetTable}{ha:Nat->Int}{h:Int}:∀(f:Nat) (p:SetTable.Probe) (j:Nat) (dm:Option Nat),(∀d,p.dummy=some d->t.slot d= .dummy)->SetTable.probe.go t ha h f p=some (.empty j dm)->t.slot j= .empty/\∀d,dm=some d->t.slot d= .dummy:=by
  intro f
  induction f with
  |zero=>intro p j dm _ e;unfold SetTable.probe.go at e;cases e
  | succ f ih =>
    intro p j dm hd e
    have NK:∀p:SetTable.Probe,(t.advance p).dummy=p.dummy:=fun p=>by unfold SetTable.advance;split<;>rfl
    unfold SetTable.probe.go at e
    cases hs:t.slot p.j with
    |empty=>rw[hs] at e;cases e;exact⟨hs,hd⟩
    |dummy=>rw[hs] at e;exact ih _ j dm (fun d h'=>by rw[NK] at h';cases h';exact hs) e
    | live i =>
      rw[hs] at e
      dsimp only at e
      split at e
      · cases e
      · exact ih _ j dm (fun d h'=>by rw[NK] at h';exact hd d h') e
theorem Jv{t:SetTable}{h:Int}{j:Nat}{wd:Bool}(e:t.freeSlot h=some (j,wd)):∀i,t.slot j≠ .live i:=by
 unfold SetTable.freeSlot SetTable.probe at e
 intro i z
 split at e
 ·rename_i j0 dm he
  obtain⟨h1,h2⟩:=Zy (10*SetTable.turns t.mask) (t.probeStart h) j0 dm (fun d h'=>by unfold SetTable.probeStart at h';cases h') he
  cases dm with
  |none=>cases e;simp at z;rw[h1] at z;cases z
  |some d=>cases e;simp at z;rw[h2 d rfl] at z;cases z
 ·cases e
structure fj(bt:Bool)(t:SetTable):Prop where
 led:bt=false->t.led=true
 Hj:t.plain=true->k8 t.place
theorem fj.standIn{bt:Bool}{t:SetTable}(h:fj bt t)(n:Nat):fj bt (t.standIn n):=⟨h.led,fun z=>by cases z⟩
theorem fj.off{bt:Bool}{t:SetTable}(h:fj bt t):fj bt {t with plain:=false}:=⟨h.led,fun z=>by cases z⟩
theorem fj.put{bt:Bool}{t:SetTable}{j:Nat}(h:fj bt t)(hj:∀i,t.slot j≠ .live i):fj bt (t.put j).1:=by
 refine⟨h.led,fun z=>?_⟩
 refine k8.insert (h.Hj z) fun e=>hj (SetTable.below t.place j) ?_
 unfold SetTable.slot
 dsimp only
 rw[if_pos (by rw[e];exact beq_self_eq_true _)]
theorem fj.layNew{bt:Bool}{t:SetTable}{es:Array (Int×Value)}{h:Int}{x:Value}(ok:fj bt t):fj bt (layNew t es h x).2.1:=by
 unfold PySem.layNew
 split
 ·rename_i slot wd e
  dsimp only
  unfold SetTable.orStandIn
  split
  ·exact ok.put (Jv e)
  ·exact(ok.put (Jv e)).standIn _
 ·exact ok.standIn _
theorem VM(n:Nat)(φ:Nat->Option Nat):k8 (((List.range n).filterMap fun j=>(φ j).map (j,·)).map (·.1)).toArray:=by
  have hp:(((List.range n).filterMap fun j=>(φ j).map (j,·)).map (·.1)).Pairwise (· < ·):=by
    have hs:List.Sublist (((List.range n).filterMap fun j=>(φ j).map (j,·)).map (·.1)) (List.range n):=by
      induction List.range n with
      |nil=>simp
      | cons a r ih =>
        rw[jI]
        cases φ a with
        |none=>exact ih.cons a
        |some y=>exact ih.cons₂ a
    exact LO.sublist hs
  intro i j x y hij ex ey
  rw[PD] at ex ey
  obtain⟨hi,rfl⟩:=bT.mp ex
  obtain⟨hj,rfl⟩:=bT.mp ey
  exact Fw.mp hp i j hi hj hij
theorem fj.Rl{bt:Bool}{t:SetTable}{es:Array (Int×Value)}{n:Nat}(ok:fj bt t):fj bt (relayAll t es n).2.1:=by
  unfold relayAll
  split
  · rename_i t' order e
    dsimp only
    split
    · unfold SetTable.relaid SetTable.laid at e
      cases hl:SetTable.layClean (SetTable.sizeAbove n-1) (es.map (·.1)) with
      |none=>rw[hl] at e;cases e
      | some owner =>
        rw[hl] at e
        cases e
        exact⟨ok.led,fun _=>VM _ _⟩
    · exact ok.standIn _
  · exact ok.standIn _
theorem fj.fresh{bt:Bool}:fj bt (.fresh 0 0 (!bt)):=⟨fun h=>by rw[h];rfl,fun _ i j x y _ e=>by simp[SetTable.fresh] at e⟩
end L2
set_option maxRecDepth 100000
set_option maxHeartbeats 4000000
namespace L2
open PySem PySem.Spec PyProof.Rows
def iC(bt:Bool)(h:Heap)(a:Addr):Prop:=∀o es ep t,h.get? a=some o->o.data= .set es ep t->fj bt t
theorem iC.of{bt:Bool}{h:Heap}{a:Addr}{o:Obj}{es:Array (Int×Value)}{ep:Nat}{t:SetTable}(e:h.get? a=some o)(d:o.data= .set es ep t)(k:fj bt t):iC bt h a:=fun o' es' A8 t' e' d'=>by
 rw[e] at e';cases e';rw[d] at d';cases d';exact k
theorem iC.keep{bt:Bool}{h h':Heap}{a:Addr}{o:Obj}(k:iC bt h a)(e:h.get? a=some o)(e':h'.get? a=some o):iC bt h' a:=fun o1 es ep t x d=>by
 rw[e'] at x;cases x;exact k o es ep t e d
section
variable{prog:Program}{w:World}{A:Around}{E:Value->Shared->Prop}{s:Shared}{a:Addr}{bt:Bool}
abbrev IK(prog:Program)(w:World):=intKind prog w
theorem Nh{o:Obj}{es es':Array (Int×Value)}{ep:Nat}{t t':SetTable}{T:Int->Bool}{h:Heap}(g1:h.get? a=some o)(g2:o.ExactSet)(g3:o.data= .set es ep t)(l1:ElemsOf (IK prog w) es'.toList)
  (l2:∀k,T k=true↔∃e∈es'.toList,(IK prog w).is k e.2=true) (l3:es'.size<scanBound) (l4:t'.fits es'.size=true) (tk:fj bt t'):
  (∃o',(h.update a (Obj.putSet es' t')).get? a=some o'/\o'.ExactSet/\o'.data= .set es' (ep+1) t')/\(h.update a (Obj.putSet es' t')).SetOf (IK prog w) a T es'.size/\iC bt (h.update a (Obj.putSet es' t')) a:=by
 obtain⟨q1,q2⟩:=SetOf_store (knd:=IK prog w) (es':=es') (t':=t') (S':=T) g1 g2 g3 l1 l2 l3 l4
 exact⟨⟨_,q1,g2,rfl⟩,q2, .of q1 rfl tk⟩
theorem KR{gg:Bool->Sem Unit}(hgg:∀(b:Bool) (s₁:Shared) (Q₁:Unit->Shared->Prop),Q₁ () s₁->wpAny (model prog w) A (gg b) Q₁ E s₁){o:Obj}{es:Array (Int×Value)}{ep:Nat}{t:SetTable}
    (g1:s.heap.get? a=some o) (g2:o.ExactSet) (g3:o.data= .set es ep t) {es1:Array (Int×Value)} {t2:SetTable} {T:Int->Bool} (l1:ElemsOf (IK prog w) es1.toList) (l2:∀k,T k=true↔∃e∈es1.toList,(IK prog w).is k e.2=true)
    (l3:es1.size<scanBound) (l4:t2.fits es1.size=true) (tk:fj bt t2) {wd:Bool} {R:Option Bool->Shared->Prop}
    (fin:∀h',Heap.SameBut a s.heap h'->h'.SetOf (IK prog w) a T es1.size->iC bt h' a->R (some true) {s with heap:=h'}):
    wpAny (model prog w) A (do storeSet a es1 t2
                               if(!wd && t2.tooFull)=true then do
                                 gg (relayAll t2 es1 (SetTable.grown es1.size)).2.2
                                 storeSet a (relayAll t2 es1 (SetTable.grown es1.size)).1 (relayAll t2 es1 (SetTable.grown es1.size)).2.1
                                 pure (some true)
                               else pure (some true)) R E s:=by
  obtain⟨⟨o1,k1,k2,k3⟩,q1,q2⟩:=Nh (T:=T) g1 g2 g3 l1 l2 l3 l4 tk
  have sb:=Heap.SameBut.update s.heap a (Obj.putSet es1 t2)
  refine wpAny_bind (wpAny_storeSet_of g1 g3 ?_ (fits_of_scanBound l3))
  by_cases c:(!wd && t2.tooFull)=true
  · rw[if_pos c]
    have pp:=relayAll_perm t2 es1 (SetTable.grown es1.size)
    have pf:=relayAll_fits t2 es1 (SetTable.grown es1.size)
    have pt:=tk.Rl (es:=es1) (n:=SetTable.grown es1.size)
    generalize relayAll t2 es1 (SetTable.grown es1.size)=Z at pp pf pt⊢
    obtain⟨Kr,t3,Tg⟩:=Z
    dsimp only at pp pf pt⊢
    have sz:Kr.size=es1.size:=by have:=pp.length_eq;rwa[jW,jW] at this
    have l2':∀k,T k=true↔∃e∈Kr.toList,(IK prog w).is k e.2=true:=fun k=>(l2 k).trans ⟨fun⟨e,m,z⟩=>⟨e,pp.mem_iff.mpr m,z⟩,fun⟨e,m,z⟩=>⟨e,pp.mem_iff.mp m,z⟩⟩
    obtain⟨_,r1,r2⟩:=Nh (T:=T) k1 k2 k3 (l1.perm pp) l2' (by rw[sz];exact l3) pf pt
    refine wpAny_bind (hgg _ _ _ (wpAny_bind (wpAny_storeSet_of k1 k3 ?_ (fits_of_scanBound (by rw[sz];exact l3)))))
    rw[sz] at r1
    exact wpAny_pure (fin _ (sb.trans (Heap.SameBut.update _ a _)) r1 r2)
  · rw[if_neg c]
    exact wpAny_pure (fin _ sb q1 q2)
theorem UT{S:Int->Bool}{n:Nat}{k:Int}{x:Value}{Q:Bool->Shared->Prop}(hx:(IK prog w).is k x=true)(sc:x.scannable=true)(hS:s.heap.SetOf (IK prog w) a S n)(hT:iC bt s.heap a)(room:n+1<scanBound)
    (fin:∀h',Heap.SameBut a s.heap h'->h'.SetOf (IK prog w) a (fun j=>S j||decide (j=k)) (if S k then n else n+1)->iC bt h' a->Q (!S k) {s with heap:=h'}):
    wpAny (model prog w) A (setAddHashed a x ((IK prog w).hash k)) Q E s:=by
  obtain⟨o,es,ep,t,g1,g2,g3,l1,l2,l3,l4,sz⟩:=hS
  have tk:=hT o es ep t g1 g3
  unfold setAddHashed setAddHashedIn
  refine wpAny_holding (wpAny_bind (wpAny_setState_of g1 g3 l4 ?_))
  dsimp only
  rw[if_pos (byScan_of sc l3 l1)]
  unfold setAddByScan
  refine wpAny_bind (wpAny_bind (wpAny_rule (wpAny_bind (wpAny_setScan_of hx g1 g3 l4 l1 ?_))))
  cases fr:List.findIdx? (fun e=>(IK prog w).is k e.2) es.toList with
  | some j =>
    obtain⟨hj,pj,_⟩:=List.findIdx?_eq_some_iff_getElem.mp fr
    have yes:S k=true:=(l2 k).mpr ⟨_,mj hj,pj⟩
    have z:=fin s.heap (.refl a s.heap) ⟨o,es,ep,t,g1,g2,g3,l1,fun j=>by
      rw[Bool.or_eq_true,decide_eq_true_eq,<-l2 j]
      exact⟨fun q=>q.elim id fun e=>e▸yes, .inl⟩,l3,l4,by rw[if_pos yes];exact sz⟩ hT
    rw[yes] at z
    exact wpAny_pure (wpAny_pure z)
  | none =>
    have no:S k=false:=by
      cases q:S k with
      |false=>rfl
      | true =>
        obtain⟨e,m,p⟩:=(l2 k).mp q
        rw[List.findIdx?_eq_none_iff.mp fr e m] at p;cases p
    have pp:=layNew_perm t es ((IK prog w).hash k) x
    have pf:=layNew_fits t es ((IK prog w).hash k) x
    have pt:=tk.layNew (es:=es) (h:=(IK prog w).hash k) (x:=x)
    dsimp only
    generalize layNew t es ((IK prog w).hash k) x=Z at pp pf pt⊢
    obtain⟨es1,t1,wd,Tg⟩:=Z
    dsimp only at pp pf pt⊢
    rw[Array.toList_push] at pp
    have nu:es1.size=n+1:=by have:=pp.length_eq;rw[dW,jW,jW,sz] at this;exact this
    have fin':∀h',Heap.SameBut a s.heap h'->h'.SetOf (IK prog w) a (fun j=>S j||decide (j=k)) es1.size->iC bt h' a->Q true {s with heap:=h'}:=fun h' x1 x2 x3=>by
      have:=fin h' x1;rw[no,if_neg bV] at this;rw[nu] at x2;exact this x2 x3
    have gw:∀(b:Bool) (s₁:Shared) (Q₁:Unit->Shared->Prop),Q₁ () s₁->wpAny (model prog w) A (match b with|true=>rule "set.scan.the-table-gave-way" |false=>pure ()) Q₁ E s₁:=fun b s₁ Q₁ q=>by
      cases b
      · exact wpAny_pure q
      · exact wpAny_rule q
    refine wpAny_bind (gw _ _ _ ?_)
    have e1:=(l1.push hx sc).perm pp
    have e2:=mem_push_iff hx l2 pp
    have e3:es1.size<scanBound:=by rw[nu];exact room
    by_cases pl:t1.plain=true
    · rw[if_pos pl,hashByValue_scannable 8 sc]
      refine wpAny_bind (wpAny_pure ?_)
      refine KR gw g1 g2 g3 e1 e2 e3 ?_ ?_ fun h' x1 x2 x3=>wpAny_pure (fin' h' x1 x2 x3)
      · split
        · exact pf
        · exact SetTable.fits_plain_off pf
      · split
        · exact pt
        · exact pt.off
    · rw[if_neg pl]
      refine wpAny_bind (wpAny_pure ?_)
      rw[if_pos rfl]
      exact KR gw g1 g2 g3 e1 e2 e3 pf pt fun h' x1 x2 x3=>wpAny_pure (fin' h' x1 x2 x3)
end
end L2
set_option maxRecDepth 100000
set_option maxHeartbeats 4000000
namespace L2
open PySem PySem.Spec PyProof.Rows
section
variable{prog:Program}{w:World}{A:Around}{R:Result->Shared->Prop}{I:Addr}{fp wr:List Addr}{G:Array GenState->Array GenState->Prop}{n:Nat}{P:Nat->Value->Prop}{St:Nat->Shared->Prop}{bt:Bool}
abbrev met(val:Nat->Int)(i:Nat):Int->Bool:=fun k=>(firstMet val i).any (· ==k)
theorem XF(W:WalksS prog w A.in1 I fp wr G n P St)(C:Addr)(nC:C∉fp)(val:Nat->Int)(hv:∀i v,P i v->∃t,v= .int (val i) t)(room:n+1<scanBound)(fuel:Nat):
    ∀(i:Nat) (s:Shared),n-i=fuel->i<=n->St i s->s.heap.SetOf (IK prog w) C (met val i) (firstMet val i).length->iC bt s.heap C->
      (∀s',Moved (C::wr) G s s'->s'.heap.SetOf (IK prog w) C (met val n) (firstMet val n).length->iC bt s'.heap C->R (.ok (.ret .none)) s')->
      codeAny (model prog w) A (.builtin "set.update.loop" ⟨[.ref C, .ref I],[]⟩) R s:=by
  have nw:C∉wr:=fun z=>nC (W.sub _ z)
  have up:∀b∈wr,b∈C::wr:=fun b z=>bX _ z
  have mv:∀{s s':Shared} {T:Int->Bool} {m:Nat},Moved wr G s s'->s.heap.SetOf (IK prog w) C T m->iC bt s.heap C->s'.heap.SetOf (IK prog w) C T m/\iC bt s'.heap C:=fun mo q tt=>by
    obtain⟨o,es,ep,t,ho,r⟩:=q
    exact⟨⟨o,es,ep,t,mo.heap C _ nw ho,r⟩,tt.keep ho (mo.heap C _ nw ho)⟩
  induction fuel with
  | zero =>
    intro i s e1 e2 st q tt fin
    obtain rfl:i=n:=by omega
    refine codeAny_builtin F.entry_set_update_loop ?_
    rw[oS Fp _]
    refine wpAny_bind (W.done s _ _ st fun s' mo=>?_)
    exact wpAny_pure (fin s' (mo.mono up) (mv mo q tt).1 (mv mo q tt).2)
  | succ fuel ih =>
    intro i s e1 e2 st q tt fin
    have lt:i<n:=by omega
    refine codeAny_builtin F.entry_set_update_loop ?_
    rw[oS Fp _]
    refine wpAny_bind (W.item i s _ _ lt st fun v s' hP st' mo=>?_)
    obtain⟨tok,rfl⟩:=hv i v hP
    obtain⟨q',tt'⟩:=mv mo q tt
    show wpAny _ A.in1 (holding [Value.int (val i) tok] (setAdd C (.int (val i) tok))>>=_) _ _ s'
    unfold setAdd
    refine wpAny_bind (wpAny_holding (wpAny_holding (wpAny_bind ((IK prog w).pyHash (k:=val i) (intKind_is _ _ _ _) ?_))))
    refine UT (bt:=bt) (s:={s' with toks:=s'.toks+1}) (intKind_is _ _ _ _) rfl q' tt' (by have:=firstMet_length_le val i;omega) fun h' sb q2 S5=>?_
    have q3:h'.SetOf (IK prog w) C (met val (i+1)) (firstMet val (i+1)).length:=SetOf_congr q2 (fun j=>by unfold met;rw[firstMet_succ,step_any]) (by rw[firstMet_succ,step_length])
    refine wpAny_pure ⟨plainId_quiet Fp _,ih (i+1) _ (by omega) lt (W.frame _ s' _ _ st' (oj _) fun b hb o e=>?_) q3 S5 fun s2 mo2 q4 Uu=>?_⟩
    · rw[sb.2 b fun z:b=C=>nC (z▸hb)];exact e
    · refine fin s2 (Moved.trans W.gtrans ((mo.mono up).then_heap (oj _) fun b o hb e=>?_) mo2) q4 Uu
      rw[sb.2 b fun z:b=C=>hb (z▸cA)];exact e
end
section
variable{prog:Program}{w:World}{A:Around}{E:Value->Shared->Prop}{s:Shared}
abbrev gD(w:World):Bool:=w.params.followText "set-order"
abbrev lE(w:World):Obj:={cls:= .type "set",dict:=none,data:= .set #[] 0 (.fresh 0 0 (!gD w))}
theorem VV(a:Value){Q₁:Value->Shared->Prop}(fin:Q₁ (.ref s.heap.objs.size) {s with heap:=s.heap.push (lE w)}):codeAny (model prog w) A (.call (.builtin "set.__new__") ⟨[.type "set",a],[]⟩) (wants Q₁ E) s:=by
 refine codeAny_of_tree ?_
 show wpAny _ A.in1 (do checkBuiltinCall "set.__new__" ⟨[.type "set",a],[]⟩;again (.builtin "set.__new__" ⟨[.type "set",a],[]⟩)) _ _ s
 refine wpAny_bind (wpAny_of_eq (F.newCall_set_1 a) (wpAny_pure ⟨plainId_quiet F.plain_set_new _,codeAny_builtin F.entry_set_new ?_⟩))
 rw[oS F.plain_set_new _]
 unfold Builtin.«set.__new__» Builtin.Frozenset.newClass
 have hsub:=sub_set_self
 obtain⟨hp,g,d,tk,os⟩:=s
 dsimp only at fin⊢
 wp_walk
 refine wpAny_askSetting (wpAny_pure ?_)
 dsimp only
 simp only[newObj]
 exact wpAny_bind (wpAny_alloc (wpAny_pure (wpAny_pure fin)))
theorem SM{l:Addr}{items:Array Value}{ns:List Int}{Q:Value->Shared->Prop}(hh:A.handled=none)(hl:s.heap.IsList l items)(hi:IntsAre items.toList ns)(room:items.size+1<scanBound)
    (fin:∀(h':Heap) (tk:Nat),h'.SetOf (IK prog w) s.heap.objs.size (met (fun i=>ns.getD i 0) items.size) (firstMet (fun i=>ns.getD i 0) items.size).length->iC (gD w) h' s.heap.objs.size->
      (∀b o,b<s.heap.objs.size->s.heap.get? b=some o->h'.get? b=some o)->Q (.ref s.heap.objs.size) {s with heap:=h',toks:=tk}):wpAny (model prog w) A (call (.type "set") [.ref l]) Q E s:=by
  obtain⟨c,tl,adM⟩:=oN.mro
  have hmade:=oN.made
  have hsub:=oN.sub
  have h1:=oN.notType
  have h2:=oN.canCreate
  have hct:=F.typeCall_set_1 (.ref l)
  refine wpAny_call (codeAny_of_tree ?_)
  show wpAny _ _ (callAny (.type "set") _) _ _ _
  refine wpAny_pure ⟨Code.quiet_builtin _ (by decide+kernel),codeAny_builtin F.entry_type_call ?_⟩
  rw[Around.under_plain (weight_type_call_type "set" [.ref l] []) rfl]
  repeat (any_goals (first|assumption|wp_step))
  refine codeAny_mono (VV (.ref l) (E:=E) (Q₁:=fun obj s₁=>obj= .ref s.heap.objs.size/\s₁={s with heap:=s.heap.push (lE w)}) ⟨rfl,rfl⟩) fun r s₁ hr=>?_
  cases r with
  |error e=>exact hr
  | ok fl =>
    cases fl with
    | ret obj =>
      obtain⟨rfl,rfl⟩:=hr
      have hS:(s.heap.push (lE w)).get? s.heap.objs.size=some (lE w):=gh _ rfl
      have hT:Shared.TypeIs {s with heap:=s.heap.push (lE w)} (.ref s.heap.objs.size) "set":=⟨_,hS,rfl⟩
      have hli:=oN.init.lookup
      have hbi:=oN.init.bind (.ref s.heap.objs.size)
      repeat (any_goals (first|assumption|wp_step))
      refine codeAny_mono (codeAny_call_builtin (R:=wants (fun r s₂=>r= .none/\∃h' tk,s₂={s with heap:=h',toks:=tk}/\h'.SetOf (IK prog w) s.heap.objs.size (met (fun i=>ns.getD i 0) items.size) (firstMet (fun i=>ns.getD i 0) items.size).length/\iC (gD w) h' s.heap.objs.size/\
          (∀b o,b<s.heap.objs.size->s.heap.get? b=some o->h'.get? b=some o)) E) oN.init.plain F.entry_set_init (check_set_init_1 hT ?_)) fun r₂ s₂ CM=>?_
      · obtain⟨ol,nL,hcl,nl,hdl⟩:=hl
        obtain⟨adq,adg,adH,adK⟩:=ol
        simp only at hcl hdl
        subst hcl;subst hdl
        have acy:=cM (lE w) nL
        have ac5:=F.sub_list_set
        have adP:=F.sub_list_frozenset
        have hne:(Value.type "list"==Value.type "dict")=false:=by decide
        have hl1:(s.heap.push (lE w)).IsList l items:=⟨_,acy,rfl,nl,rfl⟩
        unfold Builtin.«set.__init__» noKeywords Builtin.Frozenset.updateFrom
        generalize hPI:pyIter=PI
        wp_walk
        subst hPI
        refine wpAny_pyIter_list hl1 (wpAny_bind (wpAny_runValue ?_))
        have hlS:l<s.heap.objs.size:=cz nL
        have nu:(s.heap.push (lE w)).objs.size=s.heap.objs.size+1:=lR ..
        have n1:l≠(s.heap.push (lE w)).objs.size:=by rw[nu];exact eG (qp hlS)
        have n2:s.heap.objs.size∉[(s.heap.push (lE w)).objs.size,l]:=by
          rw[nu];intro z;rcases aL.mp z with z|z
          · exact absurd z (eG (o5 _))
          · exact absurd (aK.mp z) (rN hlS)
        have h3:A.in1.in1.in1.handled=none:=by simp[hh]
        have hS':=cM ({cls:= .type "list_iterator",data:= .fields #[.ref l, .int 0 0]}:Obj) hS
        refine XF (bt:=gD w) ((Walks.list h3 _ l n1 items).toS) s.heap.objs.size n2 (fun i=>ns.getD i 0) (fun i v e=>IntsAre.int_at hi i v (by rw[mD];exact e)) room (items.size-0) 0 _ (by omega) (g8 _)
          ⟨⟨_,gh _ rfl,rfl,rfl⟩,(hl1.push _)⟩ (SetOf_congr ((setObjOf_fresh (knd:=IK prog w) (!gD w)).setOf hS' (by unfold scanBound;omega)) (fun _=>rfl) rfl) (.of hS' rfl .fresh) ?_
        intro s' mo q tt
        obtain⟨h',g',d',tk',os'⟩:=s'
        obtain rfl:g'=s.gens:=mo.gens
        obtain rfl:d'=s.drawn:=mo.drawn
        obtain rfl:os'=s.os:=mo.os
        refine wpAny_pure (wpAny_pure ⟨rfl,h',tk',rfl,q,tt,fun b o hb e=>?_⟩)
        refine mo.heap b o (fun z=>?_) (cM _ (cM _ e))
        rcases aL.mp z with z|z
        · exact absurd z (eG hb)
        · rw[nu] at z;exact absurd (aK.mp z) (eG (qp hb))
      · cases r₂ with
        |error e=>exact CM
        | ok fl₂ =>
          cases fl₂ with
          | ret r =>
            obtain⟨rfl,h',tk,rfl,q1,q2,q3⟩:=CM
            repeat (any_goals (first|assumption|wp_step))
            exact fin _ _ q1 q2 q3
          |_=>exact CM.elim
    |_=>exact hr.elim
end
end L2
set_option maxRecDepth 100000
set_option maxHeartbeats 4000000
namespace L2
open PySem PySem.Spec PyProof.Rows
theorem kh:Slot "set_iterator" "__next__" "set_iterator.__next__":= .of (owner:="set_iterator") (n:="__next__") (by rw[typeLookup_type,builtinLookup_eq_fast];kernel_rfl) (by decide+kernel) (by decide+kernel) (by decide+kernel) (by first|exact .inl (by decide+kernel)|exact .inr (by decide+kernel)) (by rw[isSubtype_type];kernel_rfl)
theorem vX:entryFor table "set_iterator.__next__"=some Builtin.«set_iterator.__next__» :=entryFor_of_tree (by kernel_rfl)
theorem Aw(a:Value):argsOk "set_iterator.__next__" ⟨[a],[]⟩:=by unfold argsOk;kernel_rfl
theorem Qs:Slot "set" "__iter__" "set.__iter__":= .of (owner:="set") (n:="__iter__") (by rw[typeLookup_type,builtinLookup_eq_fast];kernel_rfl) (by decide+kernel) (by decide+kernel) (by decide+kernel) (by first|exact .inl (by decide+kernel)|exact .inr (by decide+kernel)) (by rw[isSubtype_type];kernel_rfl)
theorem Xs:entryFor table "set.__iter__"=some Builtin.«frozenset.__iter__» :=entryFor_alias (id':="frozenset.__iter__") (by kernel_rfl) rfl (by decide+kernel) (by kernel_rfl)
theorem XJ(a:Value):argsOk "set.__iter__" ⟨[a],[]⟩:=by unfold argsOk;kernel_rfl
theorem qz:Slot "set_iterator" "__iter__" "set_iterator.__iter__":= .of (owner:="set_iterator") (n:="__iter__") (by rw[typeLookup_type,builtinLookup_eq_fast];kernel_rfl) (by decide+kernel) (by decide+kernel) (by decide+kernel) (by first|exact .inl (by decide+kernel)|exact .inr (by decide+kernel)) (by rw[isSubtype_type];kernel_rfl)
theorem Cs:entryFor table "set_iterator.__iter__"=some Builtin.«dict_keyiterator.__iter__» :=entryFor_alias (id':="dict_keyiterator.__iter__") (by kernel_rfl) rfl (by decide+kernel) (by kernel_rfl)
theorem Hw(a:Value):argsOk "set_iterator.__iter__" ⟨[a],[]⟩:=by unfold argsOk;kernel_rfl
end L2
set_option maxRecDepth 100000
set_option maxHeartbeats 4000000
namespace L2
open PySem PySem.Spec PyProof.Rows
section
variable{prog:Program}{w:World}{A:Around}{E:Value->Shared->Prop}{s:Shared}{a it tp:Addr}{o:Obj}{es:Array (Int×Value)}{ep:Nat}{t:SetTable}
theorem Dq{α:Type}:∀{l:List α} {i:Nat} (h:i<l.length),(l[i]::l.eraseIdx i).Perm l
  |b::r,0,_=>by simp
  | b :: r, i + 1, h => by
    have:=Dq (l:=r) (i:=i) (by simpa using h)
    simp only[List.getElem_cons_succ,List.eraseIdx_cons_succ]
    exact(List.Perm.swap b _ _).trans (this.cons b)
theorem En{α:Type}(nx:Nat->Nat):∀(f k:Nat) (l:List α) (out:Array α),l.length<=f->(pickOrder.go nx f k l out).toList.Perm (out.toList++l):=by
  intro f
  induction f with
  | zero =>
    intro k l out h
    have:l=[]:=o6.mp (by omega)
    subst this
    unfold pickOrder.go
    simp
  | succ f ih =>
    intro k l out h
    unfold pickOrder.go
    cases l with
    |nil=>simp
    | cons b r =>
      have hlt:nx k%(b::r).length<(b::r).length:=Bt _ (by simp)
      rw[bP hlt]
      dsimp only
      refine(ih (k+1) _ _ (by rw[Qv hlt];omega)).trans ?_
      rw[Array.toList_push,List.append_assoc]
      refine List.Perm.append_left _ ?_
      exact Dq hlt
theorem Oc(bt:gD w=true)(g1:s.heap.get? a=some o)(g3:o.data= .set es ep t)(g4:t.fits es.size=true){i sl:Nat}{Q:Option (Value×Nat)->Shared->Prop}
  (h:Q (((pickOrder (w.params.setOrder a ep) es)[i]?).map fun e=>(e.2,sl)) s):wpAny (model prog w) A (setNext a sl i ep) Q E s:=by
 unfold setNext
 refine wpAny_bind (wpAny_setState_of g1 g3 g4 ?_)
 dsimp only
 unfold setsByText
 refine wpAny_bind (wpAny_bind (wpAny_askSetting (wpAny_pure ?_)))
 show wpAny _ _ (if gD w=true then _ else _) _ _ _
 rw[if_pos bt]
 rw[if_neg (by simp)]
 refine wpAny_bind ?_
 unfold setWalk
 refine wpAny_bind (wpAny_setState_of g1 g3 g4 ?_)
 dsimp only
 unfold setsByText
 refine wpAny_bind (wpAny_bind (wpAny_askSetting (wpAny_pure ?_)))
 show wpAny _ _ (if gD w=true then _ else _) _ _ _
 rw[if_pos bt]
 refine wpAny_bind (wpAny_askSetting (wpAny_pure ?_))
 exact wpAny_pure h
theorem OV(bt:gD w=false)(g1:s.heap.get? a=some o)(g3:o.data= .set es ep t)(g4:t.fits es.size=true)(tk:fj (gD w) t)(pl:t.plain=true\/es.size<=1){i sl:Nat}{Q:Option (Value×Nat)->Shared->Prop}
  (h:Q (match es[SetTable.below t.place sl]?,t.place[SetTable.below t.place sl]? with|some (_,x),some j=>some (x,j+1)|_,_=>none) s):wpAny (model prog w) A (setNext a sl i ep) Q E s:=by
 unfold setNext
 refine wpAny_bind (wpAny_setState_of g1 g3 g4 ?_)
 dsimp only
 unfold setsByText
 refine wpAny_bind (wpAny_bind (wpAny_askSetting (wpAny_pure ?_)))
 show wpAny _ _ (if gD w=true then _ else _) _ _ _
 rw[bt,if_neg bV]
 show wpAny _ _ (if(!t.plain && decide (es.size>1))=true then _ else _) _ _ _
 rw[if_neg (by
  intro z
  rw[fU,Bool.not_eq_true',decide_eq_true_eq] at z
  rcases pl with p|p
  ·rw[p] at z;cases z.1
  ·omega)]
 refine wpAny_bind ?_
 show wpAny _ _ (if(!t.led && !es.isEmpty)=true then _ else _) _ _ _
 rw[if_neg (by rw[tk.led bt];simp)]
 refine wpAny_pure ?_
 exact wpAny_pure h
theorem Zc(g1:s.heap.get? a=some o)(g3:o.data= .set es ep t)(g4:t.fits es.size=true){pl:Nat}{hx:Int}{x:Value}{Q:Value->Shared->Prop}(e:es[pl]?=some (hx,x))(h:Q x s):wpAny (model prog w) A (setNextDrawn a pl ep) Q E s:=by
 unfold setNextDrawn
 refine wpAny_bind (wpAny_setState_of g1 g3 g4 ?_)
 dsimp only
 rw[if_neg (by simp)]
 rw[e]
 exact wpAny_pure h
def kU(h:Heap)(it a:Addr)(first:Value)(i n ep:Nat):Prop:=∃o,h.get? it=some o/\o.cls= .type "set_iterator" /\o.data= .fields #[first, .int i 0, .ref a, .int n 0, .int ep 0]
theorem kU.ty{first:Value}{i n:Nat}(h:kU s.heap it a first i n ep):s.TypeIs (.ref it) "set_iterator":=let ⟨o,e,c,_⟩:=h;⟨o,e,c⟩
theorem AF{first:Value}{i n:Nat}{QQ:Fin->Shared->Prop}{EE:Value->Shared->Prop}(hit:kU s.heap it a first i n ep)(g1:s.heap.get? a=some o)(g3:o.data= .set es ep t)(g4:t.fits es.size=true)(hn:es.size=n)
    (h:wpAny (model prog w) A (match first with
      | .int slot _ => (do
        match<-setNext a slot.toNat i ep with
        | some (x, next) => do
          setField (.ref it) 0 (rawInt next)
          setField (.ref it) 1 (rawInt ((i:Int)+1))
          ret x
        | none => do
          setField (.ref it) 2 .none
          raiseNew (<-newExc (.type "StopIteration") []))
      | _ => (do
        let some places<-seqItems? first|unsupported "internal:set_iterator"
        match places[i]? with
        | some (.int place _) => do
          let x<-setNextDrawn a place.toNat ep
          setField (.ref it) 1 (rawInt ((i:Int)+1))
          ret x
        |some _=>unsupported "internal:set_iterator"
        | none => do
          setField (.ref it) 0 (rawInt 0)
          setField (.ref it) 2 .none
          raiseNew (<-newExc (.type "StopIteration") []))) QQ EE s):wpAny (model prog w) A (Builtin.«set_iterator.__next__» ⟨[.ref it],[]⟩) QQ EE s:=by
  obtain⟨oi,ho,hc,hd⟩:=hit
  unfold Builtin.«set_iterator.__next__»
  refine wpAny_bind (wpAny_pure ?_)
  refine wpAny_bind (wpAny_fieldsOf ho hd ?_)
  dsimp only
  refine wpAny_bind (wpAny_setEntries_of g1 g3 g4 ?_)
  rw[if_neg (by rw[hn];simp)]
  cases first<;>exact h
theorem zj{h:Heap}{first:Value}{i n k:Nat}{x:Value}{oi:Obj}{vs:Array Value}(ho:h.get? it=some oi)(hc:oi.cls= .type "set_iterator")(hd:oi.data= .fields vs):
  (h.update it (Obj.mapFields (·.setIfInBounds k x))).get? it=some (Obj.mapFields (·.setIfInBounds k x) oi)/\(Obj.mapFields (·.setIfInBounds k x) oi).cls= .type "set_iterator" /\(Obj.mapFields (·.setIfInBounds k x) oi).data= .fields (vs.setIfInBounds k x):=by
 refine⟨zV _ ho (Obj.isFreed_of_fields (Obj.data_mapFields hd _)),(Obj.cls_mapFields ..).trans hc,Obj.data_mapFields hd _⟩
theorem Qw{sl i n nx:Nat}{x:Value}{Q:Option Value->Shared->Prop}(hit:kU s.heap it a (.int sl 0) i n ep)(g1:s.heap.get? a=some o)(g3:o.data= .set es ep t)(g4:t.fits es.size=true)(hn:es.size=n)
  (hN:∀(Q:Option (Value×Nat)->Shared->Prop) (E:Value->Shared->Prop),Q (some (x,nx)) s->wpAny (model prog w) A.in1 (setNext a sl i ep) Q E s)
  (hQ:∀h',kU h' it a (.int nx 0) (i+1) n ep->(∀b,b≠it->h'.get? b=s.heap.get? b)->Q (some x) {s with heap:=h'}):wpAny (model prog w) A (pyNext (.ref it)) Q E s:=by
 obtain⟨oi,ho,hc,hd⟩:=id hit
 unfold pyNext
 refine wpAny_bind (wpAny_attempt (wpAny_callSpecial?_slot (name:=Str.ofString "__next__") hit.ty kh (wpAny_call_entry kh hit.ty vX ?_ (Aw _))))
 refine AF hit g1 g3 g4 hn ?_
 dsimp only
 refine wpAny_bind (hN _ _ ?_)
 dsimp only
 obtain⟨u1,u2,u3⟩:=zj (first:= .none) (i:=0) (n:=0) (k:=0) (x:=rawInt nx) ho hc hd
 obtain⟨w1,w2,w3⟩:=zj (first:= .none) (i:=0) (n:=0) (k:=1) (x:=rawInt ((i:Int)+1)) u1 u2 u3
 refine wpAny_bind (wpAny_setField ho hd (by simp) ?_)
 refine wpAny_bind (wpAny_setField u1 u3 (by simp) ?_)
 refine wpAny_pure ⟨x,rfl,wpAny_pure (hQ _ ⟨_,w1,w2,?_⟩ fun b hb=>?_)⟩
 ·rw[w3];simp[rawInt]
 ·exact((lM _ _ (cX hb))).trans (lM _ _ (cX hb))
theorem MH{QQ:Fin->Shared->Prop}{B:Around}{Q:Option Value->Shared->Prop}(hh:B.handled=none)(hQ:∀o1 o2,Q none {s with heap:=(s.heap.push o1).push o2}):wpAny (model prog w) B (do raiseNew (<-newExc (.type "StopIteration") [])) QQ
  (fun e s'=>wpAny (model prog w) A (do if<-isInstance e (.type "StopIteration") then pure none else throw e) Q E s') s:=by
 refine wpAny_bind ?_
 simp only[newExc,newTuple]
 refine wpAny_bind (wpAny_newObj_type ?_ (by size_fits))
 refine wpAny_bind (m:=firstArgMember _ _) (wpAny_of_eq (a:=Value.none) (by first|rfl|(simp only[firstArgMember];rfl)) (wpAny_newObj_type ?_ (by size_fits)))
 simp only[raiseNew]
 refine wpAny_bind (wpAny_handled ?_)
 rw[hh]
 refine wpAny_bind (wpAny_pure (wpAny_throw ?_))
 refine wpAny_bind (wpAny_isInstance (b:=true) (T:="StopIteration") ⟨_,gh _ rfl,rfl⟩ isSubtype_stop ?_)
 exact wpAny_pure (hQ _ _)
theorem Po{sl i n:Nat}{Q:Option Value->Shared->Prop}(hh:A.handled=none)(hit:kU s.heap it a (.int sl 0) i n ep)(g1:s.heap.get? a=some o)(g3:o.data= .set es ep t)(g4:t.fits es.size=true)(hn:es.size=n)
  (hN:∀(Q:Option (Value×Nat)->Shared->Prop) (E:Value->Shared->Prop),Q none s->wpAny (model prog w) A.in1 (setNext a sl i ep) Q E s)
  (hQ:∀h',(∀b o,b≠it->s.heap.get? b=some o->h'.get? b=some o)->Q none {s with heap:=h'}):wpAny (model prog w) A (pyNext (.ref it)) Q E s:=by
 obtain⟨oi,ho,hc,hd⟩:=id hit
 unfold pyNext
 refine wpAny_bind (wpAny_attempt (wpAny_callSpecial?_slot (name:=Str.ofString "__next__") hit.ty kh (wpAny_call_entry kh hit.ty vX ?_ (Aw _))))
 refine AF hit g1 g3 g4 hn ?_
 dsimp only
 refine wpAny_bind (hN _ _ ?_)
 dsimp only
 refine wpAny_bind (wpAny_setField ho hd (by simp) ?_)
 exact MH (B:=A.in1) hh fun o1 o2=>hQ _ fun b o hb e=>cM _ (cM _ ((lM _ _ (cX hb)).trans e))
theorem Wa{i n pl:Nat}{hx:Int}{x:Value}{u6:Array Value}{Q:Option Value->Shared->Prop}(hit:kU s.heap it a (.ref tp) i n ep)(g1:s.heap.get? a=some o)(g3:o.data= .set es ep t)(g4:t.fits es.size=true)(hn:es.size=n)
  (htp:∃ot m,s.heap.get? tp=some ot/\ot.data= .seq u6 m) (hp:u6[i]?=some (.int pl 0)) (he:es[pl]?=some (hx,x))
  (hQ:∀h',kU h' it a (.ref tp) (i+1) n ep->(∀b,b≠it->h'.get? b=s.heap.get? b)->Q (some x) {s with heap:=h'}):wpAny (model prog w) A (pyNext (.ref it)) Q E s:=by
 obtain⟨oi,ho,hc,hd⟩:=id hit
 obtain⟨ot,m,t1,t2⟩:=htp
 unfold pyNext
 refine wpAny_bind (wpAny_attempt (wpAny_callSpecial?_slot (name:=Str.ofString "__next__") hit.ty kh (wpAny_call_entry kh hit.ty vX ?_ (Aw _))))
 refine AF hit g1 g3 g4 hn ?_
 dsimp only
 refine wpAny_bind (wpAny_seqItems t1 t2 ?_)
 dsimp only
 rw[hp]
 dsimp only
 refine wpAny_bind (Zc g1 g3 g4 (by simpa using he) ?_)
 obtain⟨w1,w2,w3⟩:=zj (first:= .none) (i:=0) (n:=0) (k:=1) (x:=rawInt ((i:Int)+1)) ho hc hd
 refine wpAny_bind (wpAny_setField ho hd (by simp) (wpAny_pure ⟨x,rfl,wpAny_pure (hQ _ ⟨_,w1,w2,?_⟩ fun b hb=>lM _ _ (cX hb))⟩))
 rw[w3];simp[rawInt]
theorem Z1{i n:Nat}{u6:Array Value}{Q:Option Value->Shared->Prop}(hh:A.handled=none)(hit:kU s.heap it a (.ref tp) i n ep)(g1:s.heap.get? a=some o)(g3:o.data= .set es ep t)(g4:t.fits es.size=true)(hn:es.size=n)
  (htp:∃ot m,s.heap.get? tp=some ot/\ot.data= .seq u6 m) (hp:u6[i]?=none)
  (hQ:∀h',(∀b o,b≠it->s.heap.get? b=some o->h'.get? b=some o)->Q none {s with heap:=h'}):wpAny (model prog w) A (pyNext (.ref it)) Q E s:=by
 obtain⟨oi,ho,hc,hd⟩:=id hit
 obtain⟨ot,m,t1,t2⟩:=htp
 unfold pyNext
 refine wpAny_bind (wpAny_attempt (wpAny_callSpecial?_slot (name:=Str.ofString "__next__") hit.ty kh (wpAny_call_entry kh hit.ty vX ?_ (Aw _))))
 refine AF hit g1 g3 g4 hn ?_
 dsimp only
 refine wpAny_bind (wpAny_seqItems t1 t2 ?_)
 dsimp only
 rw[hp]
 dsimp only
 obtain⟨u1,u2,u3⟩:=zj (first:= .none) (i:=0) (n:=0) (k:=0) (x:=rawInt 0) ho hc hd
 refine wpAny_bind (wpAny_setField ho hd (by simp) (wpAny_bind (wpAny_setField u1 u3 (by simp) ?_)))
 exact MH (B:=A.in1) hh fun o1 o2=>hQ _ fun b o hb e=>cM _ (cM _ ((lM _ _ (cX hb)).trans ((lM _ _ (cX hb)).trans e)))
end
end L2
set_option maxRecDepth 100000
set_option maxHeartbeats 4000000
namespace L2
open PySem PySem.Spec PyProof.Rows
def slotAt(xs:Array Nat):Nat->Nat
 |0=>0
 |i+1=>xs.getD i 0+1
theorem SH(xs:Array Nat):slotAt xs 0=0:=rfl
theorem JJ(xs:Array Nat)(i:Nat):slotAt xs (i+1)=xs.getD i 0+1:=rfl
theorem Nn{xs:Array Nat}(hr:k8 xs){i:Nat}(hi:i<=xs.size):SetTable.below xs (slotAt xs i)=i:=by
  obtain⟨h1,h2,h3⟩:=below_at (q:=slotAt xs i) hr
  have g:∀{j:Nat},j<xs.size->∃y,xs[j]?=some y/\xs.getD j 0=y:=fun{j} hj=>⟨xs[j],l6 hj,by rw[EN,l6 hj];rfl⟩
  rcases Nat.lt_trichotomy (SetTable.below xs (slotAt xs i)) i with z|z|z
  · obtain⟨y,e,_⟩:=g (fB z hi)
    have:=h3 _ y (aU _) e
    cases i with
    |zero=>omega
    | succ i =>
      obtain⟨y',e',d'⟩:=g (j:=i) (by omega)
      have es:=JJ xs i
      rw[d'] at es
      rcases C0 (Nat.le_of_lt_succ z) with z|z
      · have:=hr _ _ _ _ z e e';omega
      · rw[z,e'] at e;cases e;omega
  · exact z
  · obtain⟨y,e,d⟩:=g (j:=i) (by omega)
    have:=h2 i y z e
    cases i with
    |zero=>rw[SH] at this;omega
    | succ i =>
      obtain⟨y',e',d'⟩:=g (j:=i) (by omega)
      rw[JJ,d'] at this
      have:=hr i (i+1) _ _ (by omega) e' e
      omega
section
variable{prog:Program}{w:World}{a I tp:Addr}{o:Obj}{es:Array (Int×Value)}{ep:Nat}{t:SetTable}
theorem JU(h:t.fits es.size=true):t.place.size=es.size:=by
 unfold SetTable.fits at h
 rw[fU] at h
 exact eq_of_beq h.1
theorem aaY{A:Around}(hh:A.handled=none)(bt:gD w=true)(g3:o.data= .set es ep t)(g4:t.fits es.size=true)(hne:a≠I):
  Walks prog w A I [I,a] [I] es.size (fun i v=>((pickOrder (w.params.setOrder a ep) es).toList.map (·.2))[i]?=some v) (fun i h=>kU h I a (.int (0:Nat) 0) i es.size ep/\h.get? a=some o) where
 sub:=fun b hb=>by simp at hb;simp[hb]
 frame:=fun i h h' st hk=>by
  obtain⟨⟨oi,h1,h2,h3⟩,h4⟩:=st
  exact⟨⟨oi,hk I (by simp) _ h1,h2,h3⟩,hk a (by simp) _ h4⟩
 item:=fun i s Q E hi st hQ=>by
  have hsz:(pickOrder (w.params.setOrder a ep) es).toList.length=es.size:=by
   have:=(En (w.params.setOrder a ep) es.size 0 es.toList #[] (by simp)).length_eq
   simpa[pickOrder] using this
  have hlt:i<(pickOrder (w.params.setOrder a ep) es).toList.length:=by omega
  have e1:(pickOrder (w.params.setOrder a ep) es)[i]?=some (pickOrder (w.params.setOrder a ep) es).toList[i]:=by rw[<-mD];exact bP hlt
  refine Qw st.1 st.2 g3 g4 rfl (x:=(pickOrder (w.params.setOrder a ep) es).toList[i].2) (nx:=0) (fun Q E q=>Oc bt st.2 g3 g4 (by rw[e1];exact q)) fun h' x1 x2=>?_
  refine hQ _ h' s.toks (by rw[bI,bP hlt];rfl) ⟨x1,(x2 a hne).trans st.2⟩ fun b o' hb e=>(x2 b (fun z=>hb (by simp[z]))).trans e
 done:=fun s Q E st hQ=>by
  have hsz:(pickOrder (w.params.setOrder a ep) es).toList.length=es.size:=by
   have:=(En (w.params.setOrder a ep) es.size 0 es.toList #[] (by simp)).length_eq
   simpa[pickOrder] using this
  refine Po hh st.1 st.2 g3 g4 rfl (fun Q E q=>Oc bt st.2 g3 g4 (by rw[<-mD,fN (by omega)];exact q)) fun h' x1=>hQ h' s.toks fun b o' hb e=>x1 b o' (fun z=>hb (by simp[z])) e
 self:=fun i s Q E st hQ=>by
  refine wpAny_pyIter_slot st.1.ty qz (wpAny_call_entry qz st.1.ty Cs ?_ (Hw _))
  exact wpAny_pure ⟨_,rfl,"set_iterator",_,st.1.ty,kh.lookup,hQ⟩
theorem Ww{A:Around}(hh:A.handled=none)(bt:gD w=false)(g3:o.data= .set es ep t)(g4:t.fits es.size=true)(tk:fj (gD w) t)(pl:t.plain=true\/es.size<=1)(hne:a≠I):
  Walks prog w A I [I,a] [I] es.size (fun i v=>(es.toList.map (·.2))[i]?=some v) (fun i h=>kU h I a (.int (slotAt t.place i) 0) i es.size ep/\h.get? a=some o) where
 sub:=fun b hb=>by simp at hb;simp[hb]
 frame:=fun i h h' st hk=>by
  obtain⟨⟨oi,h1,h2,h3⟩,h4⟩:=st
  exact⟨⟨oi,hk I (by simp) _ h1,h2,h3⟩,hk a (by simp) _ h4⟩
 item:=fun i s Q E hi st hQ=>by
  have hps:=JU g4
  have hr:k8 t.place:=by
   rcases pl with p|p
   ·exact tk.Hj p
   ·intro i j x y hij ex ey
    have:=(vd.mp ey).1;omega
  have hlt:i<es.toList.length:=by simpa using hi
  have e1:es[i]?=some es.toList[i]:=by rw[<-mD];exact bP hlt
  have e2:t.place[i]?=some (t.place.getD i 0):=by rw[EN,l6 (by omega)];rfl
  refine Qw st.1 st.2 g3 g4 rfl (x:=es.toList[i].2) (nx:=slotAt t.place (i+1)) (fun Q E q=>OV bt st.2 g3 g4 tk pl (by rw[Nn hr (by omega),e1,e2];exact q)) fun h' x1 x2=>?_
  refine hQ _ h' s.toks (by rw[bI,bP hlt];rfl) ⟨x1,(x2 a hne).trans st.2⟩ fun b o' hb e=>(x2 b (fun z=>hb (by simp[z]))).trans e
 done:=fun s Q E st hQ=>by
  have hps:=JU g4
  have hr:k8 t.place:=by
   rcases pl with p|p
   ·exact tk.Hj p
   ·intro i j x y hij ex ey
    have:=(vd.mp ey).1;omega
  refine Po hh st.1 st.2 g3 g4 rfl (fun Q E q=>OV bt st.2 g3 g4 tk pl (by rw[Nn hr (by omega),CY (aU _)];exact q)) fun h' x1=>hQ h' s.toks fun b o' hb e=>x1 b o' (fun z=>hb (by simp[z])) e
 self:=fun i s Q E st hQ=>by
  refine wpAny_pyIter_slot st.1.ty qz (wpAny_call_entry qz st.1.ty Cs ?_ (Hw _))
  exact wpAny_pure ⟨_,rfl,"set_iterator",_,st.1.ty,kh.lookup,hQ⟩
theorem VN{A:Around}{ks:List Nat}(hh:A.handled=none)(g3:o.data= .set es ep t)(g4:t.fits es.size=true)(hk:ks.Perm (List.range es.size))(hne:a≠I)(hnt:tp≠I):
    Walks prog w A I [I,a,tp] [I] es.size (fun i v=>((ks.filterMap (es[·]?)).map (·.2))[i]?=some v) (fun i h=>kU h I a (.ref tp) i es.size ep/\h.get? a=some o/\∃ot m,h.get? tp=some ot/\ot.data= .seq (ks.map fun(k:Nat)=>rawInt k).toArray m) where
  sub:=fun b hb=>by simp at hb;simp[hb]
  frame:=fun i h h' st hk=>by
    obtain⟨⟨oi,h1,h2,h3⟩,h4,ot,m,h5,h6⟩:=st
    exact⟨⟨oi,hk I (by simp) _ h1,h2,h3⟩,hk a (by simp) _ h4,ot,m,hk tp (by simp) _ h5,h6⟩
  item:=fun i s Q E hi st hQ=>by
    have hlen:ks.length=es.size:=by rw[hk.length_eq];simp
    have hin:∀k∈ks,k<es.size:=fun k m=>by simpa using hk.mem_iff.mp m
    have hi':i<ks.length:=by omega
    have hki:=hin ks[i] (mj hi')
    have e1:es[ks[i]]?=some es[ks[i]]:=l6 hki
    have fm:∀(l:List Nat),(∀k∈l,k<es.size)->∀j (hj:j<l.length),(l.filterMap (es[·]?))[j]?=es[l[j]]?:=by
      intro l
      induction l with
      |nil=>intro _ j hj;simp at hj
      | cons b r ih =>
        intro hl j hj
        have hb:=hl b (cA ..)
        rw[jI,l6 hb]
        cases j with
        |zero=>simp[l6 hb]
        |succ j=>simpa using ih (fun k m=>hl k (bX _ m)) j (by simpa using hj)
    refine Wa st.1 st.2.1 g3 g4 rfl st.2.2 (pl:=ks[i]) (hx:=es[ks[i]].1) (x:=es[ks[i]].2) (by simp[bP hi',rawInt]) e1 fun h' x1 x2=>?_
    obtain⟨ot,m,t1,t2⟩:=st.2.2
    refine hQ _ h' s.toks ?_ ⟨x1,(x2 a hne).trans st.2.1,ot,m,(x2 tp hnt).trans t1,t2⟩ fun b o' hb e=>(x2 b (fun z=>hb (by simp[z]))).trans e
    rw[bI,fm ks hin i hi',e1];rfl
  done:=fun s Q E st hQ=>by
    have hlen:ks.length=es.size:=by rw[hk.length_eq];simp
    exact Z1 hh st.1 st.2.1 g3 g4 rfl st.2.2 (by simp;omega) fun h' x1=>hQ h' s.toks fun b o' hb e=>x1 b o' (fun z=>hb (by simp[z])) e
  self:=fun i s Q E st hQ=>by
    refine wpAny_pyIter_slot st.1.ty qz (wpAny_call_entry qz st.1.ty Cs ?_ (Hw _))
    exact wpAny_pure ⟨_,rfl,"set_iterator",_,st.1.ty,kh.lookup,hQ⟩
end
section
variable{prog:Program}{w:World}{A:Around}{E:Value->Shared->Prop}{s:Shared}{a:Addr}{o:Obj}{es:Array (Int×Value)}{ep:Nat}{t:SetTable}
theorem M3{α:Type}:∀l:List α,(List.range l.length).filterMap (fun i=>l[i]?)=l
  |[]=>rfl
  | x :: l => by
    have:=M3 l
    rw[fG,G4,jI,List.filterMap_map]
    simpa[Function.comp_def] using this
theorem RT{src:Source}{n:Nat}{Q:Nat->Shared->Prop}(hn:n≠0)(h:∀i d',i<n->Q i {s with drawn:=d'}):wpAny (model prog w) A (choose src n) Q E s:=fun Γ p _=>⟨hn,h _ _ (Bt _ (Nat.pos_of_ne_zero hn))⟩
theorem Qu{α:Type}:∀(n:Nat) (xs:List α) (s:Shared) (Q:List α->Shared->Prop),xs.length<=n->(∀ks d',ks.Perm xs->Q ks {s with drawn:=d'})->wpAny (model prog w) A (drawOrder n xs) Q E s
  | 0, xs, s, Q, hl, h => by
    have:xs=[]:=o6.mp (by omega)
    subst this
    unfold drawOrder
    exact wpAny_pure (h [] s.drawn .nil)
  | n + 1, [], s, Q, hl, h => by
    unfold drawOrder
    exact wpAny_pure (h [] s.drawn .nil)
  | n + 1, x :: xs, s, Q, hl, h => by
    unfold drawOrder
    refine wpAny_bind (RT (by simp) fun i d' hi=>?_)
    rw[bP hi]
    dsimp only
    refine wpAny_bind (Qu n _ _ _ (by rw[Qv hi];simp at hl⊢;omega) fun ks d2 hk=>?_)
    exact wpAny_pure (h _ d2 ((hk.cons _).trans (Dq hi)))
theorem Uh(g1:s.heap.get? a=some o)(g3:o.data= .set es ep t)(g4:t.fits es.size=true){Q:Bool->Shared->Prop}(h:Q (!gD w &&(!t.plain && decide (es.size>1))) s):wpAny (model prog w) A (setDrawn a) Q E s:=by
 unfold setDrawn
 refine wpAny_bind (wpAny_setState_of g1 g3 g4 ?_)
 dsimp only
 unfold setsByText
 refine wpAny_bind (wpAny_bind (wpAny_askSetting (wpAny_pure ?_)))
 exact wpAny_pure h
theorem MA(g1:s.heap.get? a=some o)(g3:o.data= .set es ep t)(g4:t.fits es.size=true){Q:Nat->Shared->Prop}(h:Q ep s):wpAny (model prog w) A (setEpoch a) Q E s:=by
 unfold setEpoch
 exact wpAny_bind (wpAny_setState_of g1 g3 g4 (wpAny_pure h))
theorem ab7{Q:Value->Shared->Prop}(hb:es.size<scanBound)(g1:s.heap.get? a=some o)(g2:o.ExactSet)(g3:o.data= .set es ep t)(g4:t.fits es.size=true)(tk:fj (gD w) t)
    (hQ:∀(I:Addr) (h':Heap) d' (items:List Value) (fp:List Addr) (St:Nat->Heap->Prop),(∀b o,s.heap.get? b=some o->h'.get? b=some o)->s.heap.objs.size<=I->(∀b∈fp,b=a\/s.heap.objs.size<=b)->I∈fp->(∀b∈fp,b<h'.objs.size)->items.Perm (es.toList.map (·.2))->
      (∀B:Around,B.handled=none->Walks prog w B I fp [I] items.length (fun i v=>items[i]?=some v) St)->St 0 h'->Q (.ref I) {s with heap:=h',drawn:=d'}):wpAny (model prog w) A (pyIter (.ref a)) Q E s:=by
  have hT:s.TypeIs (.ref a) "set":=⟨o,g1,g2.1⟩
  have hlt:=cz g1
  refine wpAny_pyIter_slot hT Qs (wpAny_call_entry Qs hT Xs ?_ (XJ _))
  unfold Builtin.«frozenset.__iter__»
  unfold Builtin.Frozenset.slot0 slotArgs
  simp only[List.isEmpty_nil,Bool.not_true,Bool.false_eq_true,↓reduceIte,bind_assoc,List.length_nil,bne_self_eq_false]
  unfold Builtin.Frozenset.addrOf Builtin.Frozenset.sizeOf
  refine wpAny_bind (wpAny_pure ?_)
  try dsimp only
  refine wpAny_bind (wpAny_pure ?_)
  refine wpAny_bind (wpAny_bind (wpAny_setEntries_of g1 g3 g4 (wpAny_pure ?_)))
  refine wpAny_bind (Uh g1 g3 g4 ?_)
  by_cases c:(!gD w &&(!t.plain && decide (es.size>1)))=true
  · rw[if_pos c]
    refine wpAny_bind (Qu es.size (List.range es.size) s _ (by simp) fun ks d' hk=>?_)
    unfold newTuple
    refine wpAny_bind (wpAny_newObj_type ?_ ?_)
    rotate_left
    · have hk0:ks.length=es.size:=by rw[hk.length_eq];simp
      show(List.map (fun(i:Nat)=>rawInt i) ks).toArray.size<=sizeLine
      rw[dZ,ao,hk0]
      exact fits_of_scanBound hb
    have uq:=cM ({cls:= .type "tuple",data:= .seq (ks.map fun(i:Nat)=>rawInt i).toArray}:Obj) g1
    refine wpAny_bind (MA (s:={s with heap:=_,drawn:=d'}) uq g3 g4 ?_)
    unfold newFields
    refine wpAny_bind (wpAny_newObj_type ?_)
    have hk0:ks.length=es.size:=by rw[hk.length_eq];simp
    have fin:=hQ
    clear hQ
    have nu:(s.heap.push ({cls:= .type "tuple",data:= .seq (ks.map fun(i:Nat)=>rawInt i).toArray}:Obj)).objs.size=s.heap.objs.size+1:=lR ..
    have gT:(s.heap.push ({cls:= .type "tuple",data:= .seq (ks.map fun(i:Nat)=>rawInt i).toArray}:Obj)).get? s.heap.objs.size=some {cls:= .type "tuple",data:= .seq (ks.map fun(i:Nat)=>rawInt i).toArray}:=gh _ rfl
    have gO:∀b o,s.heap.get? b=some o->(s.heap.push ({cls:= .type "tuple",data:= .seq (ks.map fun(i:Nat)=>rawInt i).toArray}:Obj)).get? b=some o:=fun b o e=>cM _ e
    generalize hh1:s.heap.push ({cls:= .type "tuple",data:= .seq (ks.map fun(i:Nat)=>rawInt i).toArray}:Obj)=h1 at uq nu gT gO⊢
    have gI:(h1.push ({cls:= .type "set_iterator",data:= .fields #[.ref s.heap.objs.size,rawInt 0, .ref a,rawInt es.size,rawInt ep]}:Obj)).get? h1.objs.size=some {cls:= .type "set_iterator",data:= .fields #[.ref s.heap.objs.size,rawInt 0, .ref a,rawInt es.size,rawInt ep]}:=gh _ rfl
    have gS:=cM ({cls:= .type "set_iterator",data:= .fields #[.ref s.heap.objs.size,rawInt 0, .ref a,rawInt es.size,rawInt ep]}:Obj) uq
    have Xw:=cM ({cls:= .type "set_iterator",data:= .fields #[.ref s.heap.objs.size,rawInt 0, .ref a,rawInt es.size,rawInt ep]}:Obj) gT
    have VW:(h1.push ({cls:= .type "set_iterator",data:= .fields #[.ref s.heap.objs.size,rawInt 0, .ref a,rawInt es.size,rawInt ep]}:Obj)).objs.size=h1.objs.size+1:=lR ..
    subst hh1
    refine wpAny_pure ⟨_,rfl,"set_iterator",_,⟨_,gI,rfl⟩,kh.lookup,?_⟩
    have pp:(ks.filterMap (es[·]?)).Perm es.toList:=by
      have:=hk.filterMap (es[·]?)
      have e:(List.range es.size).filterMap (es[·]?)=es.toList:=by
        have:=M3 es.toList
        simpa using this
      rwa[e] at this
    have hn:((ks.filterMap (es[·]?)).map (·.2)).length=es.size:=by rw[ao,pp.length_eq];simp
    have sD:=GN (o5 s.heap.objs.size) nu.symm
    refine fin _ _ d' ((ks.filterMap (es[·]?)).map (·.2)) [_,a,s.heap.objs.size] _ (fun b o e=>cM _ (gO b o e)) (j5 sD) (fun b m=>?_) (cA ..) (fun b m=>?_) (pp.map _) (fun B hB=>by rw[hn];exact VN hB g3 g4 hk (eG (um hlt sD)) (eG sD)) ?_
    · rcases aL.mp m with e|m
      · exact .inr (by rw[e];exact j5 sD)
      · rcases aL.mp m with e|m
        · exact .inl e
        · exact .inr (tw (aK.mp m).symm)
    · refine GN ?_ VW.symm
      rcases aL.mp m with e|m
      · rw[e];exact o5 _
      · rcases aL.mp m with e|m
        · rw[e];exact qp (um hlt sD)
        · rw[aK.mp m];exact qp sD
    · exact⟨⟨_,gI,rfl,rfl⟩,gS,_,_,Xw,rfl⟩
  · rw[if_neg c]
    refine wpAny_bind (wpAny_pure ?_)
    refine wpAny_bind (MA g1 g3 g4 ?_)
    unfold newFields
    refine wpAny_bind (wpAny_newObj_type ?_)
    have gI:(s.heap.push ({cls:= .type "set_iterator",data:= .fields #[rawInt 0,rawInt 0, .ref a,rawInt es.size,rawInt ep]}:Obj)).get? s.heap.objs.size=some {cls:= .type "set_iterator",data:= .fields #[rawInt 0,rawInt 0, .ref a,rawInt es.size,rawInt ep]}:=gh _ rfl
    have gS:=cM ({cls:= .type "set_iterator",data:= .fields #[rawInt 0,rawInt 0, .ref a,rawInt es.size,rawInt ep]}:Obj) g1
    have hfp:∀b∈[s.heap.objs.size,a],b=a\/s.heap.objs.size<=b:=fun b m=>by
      rcases aL.mp m with e|m
      · exact .inr (tw e.symm)
      · exact .inl (aK.mp m)
    have hsz:(s.heap.push ({cls:= .type "set_iterator",data:= .fields #[rawInt 0,rawInt 0, .ref a,rawInt es.size,rawInt ep]}:Obj)).objs.size=s.heap.objs.size+1:=lR ..
    have IW:∀b∈[s.heap.objs.size,a],b<(s.heap.push ({cls:= .type "set_iterator",data:= .fields #[rawInt 0,rawInt 0, .ref a,rawInt es.size,rawInt ep]}:Obj)).objs.size:=fun b m=>by
      rw[hsz]
      rcases aL.mp m with e|m
      · rw[e];exact o5 _
      · rw[aK.mp m];exact qp hlt
    refine wpAny_pure ⟨_,rfl,"set_iterator",_,⟨_,gI,rfl⟩,kh.lookup,?_⟩
    cases bt:gD w with
    | true =>
      have pp:(pickOrder (w.params.setOrder a ep) es).toList.Perm es.toList:=by simpa[pickOrder] using En (w.params.setOrder a ep) es.size 0 es.toList #[] (by simp)
      have hn:((pickOrder (w.params.setOrder a ep) es).toList.map (·.2)).length=es.size:=by rw[ao,pp.length_eq];simp
      refine hQ _ _ s.drawn ((pickOrder (w.params.setOrder a ep) es).toList.map (·.2)) [s.heap.objs.size,a] _ (fun b o e=>cM _ e) (aU _) hfp (by simp) IW (pp.map _) (fun B hB=>by rw[hn];exact aaY hB bt g3 g4 (eG hlt)) ?_
      exact⟨⟨_,gI,rfl,rfl⟩,gS⟩
    | false =>
      have pl:t.plain=true\/es.size<=1:=by
        rw[bt,Bool.not_false,Bool.true_and] at c
        cases hp:t.plain with
        |true=>exact .inl rfl
        | false =>
          rw[hp,Bool.not_false,Bool.true_and,decide_eq_true_eq] at c
          exact .inr (by omega)
      have hn:(es.toList.map (·.2)).length=es.size:=by simp
      refine hQ _ _ s.drawn (es.toList.map (·.2)) [s.heap.objs.size,a] _ (fun b o e=>cM _ e) (aU _) hfp (by simp) IW (.refl _) (fun B hB=>by rw[hn];exact Ww hB bt g3 g4 tk pl (eG hlt)) ?_
      exact⟨⟨_,gI,rfl,rfl⟩,gS⟩
end
end L2
set_option maxRecDepth 100000
set_option maxHeartbeats 4000000
namespace L2
open PySem PySem.Spec PyProof.Rows
section
variable{prog:Program}{w:World}{A:Around}{E:Value->Shared->Prop}{s:Shared}{a:Addr}{o:Obj}{es:Array (Int×Value)}{ep:Nat}{t:SetTable}
theorem Se{Q:Bool->Shared->Prop}(hT:s.TypeIs (.ref a) "set")(h:Q false s):wpAny (model prog w) A (Builtin.List.listLengthHint (.ref a)) Q E s:=by
 unfold Builtin.List.listLengthHint
 refine wpAny_bind (wpAny_specialOf hT PySem.F.slot_set_len.lookup ?_)
 generalize hid:("set.__len__":String)=id0
 wp_delta
 rw[show splitId id0=some ("set","__len__") from by subst hid;decide+kernel]
 subst hid
 refine wpAny_bind (wpAny_isInstance (b:=true) (T:="set") hT (by rw[isSubtype_type];kernel_rfl) ?_)
 refine wpAny_ite_split (fun z=>absurd z (by decide)) fun _=>wpAny_ite_split (fun _=>?_) fun z=>absurd (by decide+kernel) z
 exact wpAny_bind (wpAny_typeOf hT (wpAny_pure h))
theorem Y9{items:List Value}{acc:Array Value}(h:ItemsOf (fun i v=>items[i]?=some v) acc items.length):acc.toList=items:=by
 apply ja
 intro i
 by_cases hi:i<acc.size
 ·have e:acc[i]?=some acc[i]:=l6 hi
  rw[mD,e,h.2 i _ e]
 ·have:=h.1
  rw[fN (by simp;omega),fN (by omega)]
theorem Ul{Q:List Value->Shared->Prop}(hh:A.handled=none)(hb:es.size<scanBound)(g1:s.heap.get? a=some o)(g2:o.ExactSet)(g3:o.data= .set es ep t)(g4:t.fits es.size=true)(tk:fj (gD w) t)
  (hQ:∀h' d' tk' items,(∀b o,s.heap.get? b=some o->h'.get? b=some o)->s.heap.objs.size<=h'.objs.size->items.Perm (es.toList.map (·.2))->Q items {s with heap:=h',drawn:=d',toks:=tk'}):wpAny (model prog w) A (collect (.ref a)) Q E s:=by
 have hlt:=cz g1
 unfold collect
 refine wpAny_bind (wpAny_runValue (codeAny_builtin HJ ?_))
 rw[oS O6 _]
 show wpAny _ A.in1 (newList []>>=fun l=>again (.builtin "list.__iadd__" ⟨[l, .ref a],[]⟩)) _ _ s
 refine wpAny_bind (wpAny_newObj_type ?_)
 refine wpAny_pure ⟨plainId_quiet AG _,codeAny_builtin MI ?_⟩
 rw[oS AG _]
 have gL:(s.heap.push ({cls:= .type "list",data:= .seq ([]:List Value).toArray}:Obj)).get? s.heap.objs.size=some {cls:= .type "list",data:= .seq ([]:List Value).toArray}:=gh _ rfl
 have gA:=cM ({cls:= .type "list",data:= .seq ([]:List Value).toArray}:Obj) g1
 have Kz:(s.heap.push ({cls:= .type "list",data:= .seq ([]:List Value).toArray}:Obj)).objs.size=s.heap.objs.size+1:=lR ..
 show wpAny _ A.in1 (Builtin.List.listExtendWith (.ref s.heap.objs.size) (.ref a) (.ref s.heap.objs.size)) _ _ {s with heap:=s.heap.push ({cls:= .type "list",data:= .seq ([]:List Value).toArray}:Obj)}
 have hkeep:∀b o,s.heap.get? b=some o->(s.heap.push ({cls:= .type "list",data:= .seq ([]:List Value).toArray}:Obj)).get? b=some o:=fun b o e=>cM _ e
 generalize s.heap.push ({cls:= .type "list",data:= .seq ([]:List Value).toArray}:Obj)=h1 at gL gA Kz hkeep⊢
 unfold Builtin.List.listExtendWith
 refine wpAny_bind (wpAny_typeOf (T:="set") ⟨o,gA,g2.1⟩ ?_)
 have n1:Builtin.List.listSameRef (.ref s.heap.objs.size) (.ref a)=false:=by
  show(s.heap.objs.size==a)=false
  exact beq_eq_false_iff_ne.mpr (rN hlt)
 have n2:(Value.type "set"==Value.type "list")=false:=by decide
 have n3:(Value.type "set"==Value.type "tuple")=false:=by decide
 simp only[n1,n2,n3,nO,Bool.false_eq_true,if_false]
 refine wpAny_bind (ab7 (s:={s with heap:=h1}) hb gA g2 g3 g4 tk fun I h2 d' items fp St k1 k2 k3 k4 k5 pp W st=>?_)
 have Z3:=k1 _ _ gA
 have CD:=k1 _ _ gL
 refine wpAny_bind (wpAny_holding (Se (s:={s with heap:=h2,drawn:=d'}) ⟨o,Z3,g2.1⟩ ?_))
 have lS:s.heap.objs.size<h1.objs.size:=GN (o5 _) Kz.symm
 have nS:s.heap.objs.size∉fp:=fun m=>by
  rcases k3 _ m with e|e
  ·exact absurd e (rN hlt)
  ·exact absurd (fB lS e) (mT _)
 have hil:items.length<=sizeLine:=by
  rw[pp.length_eq,ao,jW];exact fits_of_scanBound hb
 have key:∀(h3:Heap) (c:Nat),St 0 h3->(∀b o,b≠s.heap.objs.size->h2.get? b=some o->h3.get? b=some o)->h3.get? s.heap.objs.size=some {cls:= .type "list",data:= .seq #[] c}->
   codeAny (model prog w) A (.builtin "list.extend.loop" ⟨[.ref s.heap.objs.size, .ref I, .ref s.heap.objs.size],[]⟩) (fun r s'=>match r with
    | .ok (.ret v)=>wpAny (model prog w) A (match v with| .ref x=>(do match(<-load x).data with| .seq xs _=>pure xs.toList|_=>unsupported "internal:collect")|_=>unsupported "internal:collect") Q E s'
    | .ok _=>False
    | .error e=>E e s') {s with heap:=h3,drawn:=d'}:=by
  intro h3 c st3 q1 q2
  refine codeAny_extend_loopS ((W A.in1 hh).toS) hil _ nS _ items.length 0 _ #[] c rfl (g8 _) st3 q2 (ItemsOf.nil _) fun s' acc c' mo q3 q4=>?_
  refine wpAny_bind (wpAny_load q3 (wpAny_pure ?_))
  rw[Y9 q4,Moved.eq_with mo]
  refine hQ s'.heap d' s'.toks items (fun b o e=>?_) ?_ pp
  ·have nb:b≠s.heap.objs.size:=eG (cz e)
   refine mo.heap b o (fun m=>?_) (q1 b o nb (k1 b o (hkeep b o e)))
   rcases aL.mp m with z|z
   ·exact nb z
   ·have z:=aK.mp z
    rw[z] at e
    exact absurd (fB (um (cz e) lS) k2) (mT _)
  ·exact j5 (cz q3)
 refine wpAny_ite_split (fun _=>?_) fun _=>wpAny_pure ⟨plainId_quiet Il _,key h2 _ st (fun _ _ _ e=>e) CD⟩
 refine wpAny_bind (wpAny_rule (wpAny_bind ?_))
 show wpAny _ A.in1 (updateSeq s.heap.objs.size (·.push .none)>>=fun _=>updateSeq s.heap.objs.size (·.pop)) _ _ _
 have u1:=zV (Obj.mapSeq (·.push Value.none)) CD rfl
 have u2:=zV (Obj.mapSeq (·.pop)) u1 rfl
 refine wpAny_bind (wpAny_updateSeq CD rfl (wpAny_updateSeq (hz:=by seq_fits) u1 rfl ?_))
 have NQ:∀b o,b≠s.heap.objs.size->h2.get? b=some o->((h2.update s.heap.objs.size (Obj.mapSeq (·.push Value.none))).update s.heap.objs.size (Obj.mapSeq (·.pop))).get? b=some o:=fun b o nb e=>(lM _ _ (cX nb)).trans ((lM _ _ (cX nb)).trans e)
 exact wpAny_pure ⟨plainId_quiet Il _,key _ _ ((W A.in1 hh).frame 0 _ _ st fun b m o e=>NQ b o (fun z=>nS (z▸m)) e) NQ u2⟩
theorem QG{ks:List Int->Prop}:∀{vs:List Value},(∀v∈vs,∃k t,v= .int k t)->∃ns,IntsAre vs ns
  |[],_=>⟨[], .nil⟩
  | v :: vs, h => by
    obtain⟨k,t,rfl⟩:=h v (cA ..)
    obtain⟨ns,hn⟩:=QG (ks:=ks) fun v m=>h v (bX _ m)
    exact⟨k::ns, .cons k t hn⟩
theorem Pp:∀{vs:List Value} {ns:List Int},IntsAre vs ns->∀k,k∈ns↔∃t, .int k t∈vs
  |_,_, .nil,k=>by simp
  | _, _, .cons j t h, k => by
    rw[aL,Pp h k]
    constructor
    · rintro(rfl|⟨t',m⟩)
      · exact⟨_,cA ..⟩
      · exact⟨t',bX _ m⟩
    · rintro⟨t',m⟩
      rcases aL.mp m with e|m
      · cases e;exact .inl rfl
      · exact .inr ⟨t',m⟩
theorem acp{S:Int->Bool}{n:Nat}{Q:Value->Shared->Prop}(hh:A.handled=none)(hS:s.heap.SetOf (IK prog w) a S n)(hT:iC (gD w) s.heap a)(h64:n<64)
  (h : ∀ h' d' tk' (l : Addr) (out : List Value) (ns : List Int) (e : Nat), (∀ b o, s.heap.get? b = some o -> h'.get? b = some o) -> s.heap.objs.size <= l -> h'.get? l = some (seqObj "list" out.toArray e) -> IntsAre out ns -> ns.Pairwise (· <= ·) -> (∀ k, S k = true ↔ k ∈ ns) -> ns.length = n ->
   Q (.ref l) {s with heap:=h',drawn:=d',toks:=tk'}):wpAny (model prog w) A (call (.builtin "sorted") [.ref a]) Q E s:=by
 obtain⟨o,es,ep,t,g1,g2,g3,l1,l2,l3,l4,sz⟩:=hS
 refine Ex kind_sorted plain_sorted entry_sorted (args_sorted1 _) ?_
 unfold Builtin.«sorted»
 refine wpAny_bind (m:=checkCount "sorted" 1 1 _) (wpAny_pure (wpAny_bind ?_))
 refine Ul (A:=A.in1) hh l3 g1 g2 g3 l4 (hT o es ep t g1 g3) fun h1 d1 FT items k1 k2 pp=>?_
 have hint:∀v∈items,∃k t,v= .int k t:=fun v m=>by
  obtain⟨e,m',rfl⟩:=c9.mp (pp.mem_iff.mp m)
  obtain⟨⟨k,hk,_⟩,_⟩:=l1 e m'
  obtain⟨t,ht⟩:=rY hk
  exact⟨k,t,ht⟩
 obtain⟨ns,hI⟩:=QG (ks:=fun _=>True) hint
 have hlen:items.length=n:=by rw[pp.length_eq,ao,jW,sz]
 refine wpAny_bind (wpAny_newList ?_)
 have gL:(h1.push (seqObj "list" items.toArray 0)).get? h1.objs.size=some (seqObj "list" items.toArray 0):=gh _ rfl
 refine wpAny_bind (wpAny_holding (wpAny_call_entry slot_list_sort ⟨_,gL,rfl⟩ entry_list_sort (list_sort_tree gL hI (by omega) fun out ns' a1 a2 a3=>⟨_,rfl,?_⟩) (args_list_sort _)))
 obtain⟨e,he⟩:=sortedHeap_at (out:=out) gL
 refine wpAny_pure ⟨_,rfl,h _ d1 FT h1.objs.size out.toList ns' e (fun b o q=>?_) k2 (by simpa using he) a1 a3 (fun k=>?_) ?_⟩
 ·have lb:=cz (k1 b o q)
  rw[sortedHeap_old (eG lb) (by rw[lR];exact qp lb)]
  exact cM _ (k1 b o q)
 ·rw[a2.mem_iff,Pp hI,l2 k]
  constructor
  ·rintro⟨e,m,q⟩
   obtain⟨t,ht⟩:=rY q
   exact⟨t,pp.mem_iff.mpr (ht▸c9.mpr ⟨e,m,rfl⟩)⟩
  ·rintro⟨t,m⟩
   obtain⟨e,m',q⟩:=c9.mp (pp.mem_iff.mp m)
   exact⟨e,m',by rw[q];exact intKind_is _ _ _ _⟩
 ·rw[a2.length_eq,<-hI.length,hlen]
end
end L2
set_option maxRecDepth 100000
set_option maxHeartbeats 4000000
namespace L2
open PySem PySem.Spec PyProof.Rows
def ur(P:Program)(w:World)(a:Addr)(S:Int->Bool)(n:Nat):HO:= .ext fun h=>h.SetOf (IK P w) a S n/\iC (gD w) h a
theorem Inv.dr{X:Cx}{pins:List (Addr×Obj)}{σ:St}{H:Hp}{s:Shared}(I:Inv X pins σ H s)(d:Drawn):Inv X pins σ H {s with drawn:=d}:=
 ⟨I.ok,I.os,I.bare,I.base,I.loc,I.cell,I.free,I.kc,I.pin,I.hok,I.len⟩
theorem xJ:∀{ns:List Int} {us:List Value},Vals (ns.map V.int) us->IntsAre us ns
  |[],_, .nil=> .nil
  | n :: ns, _, .cons r t => by
    obtain⟨k,rfl⟩:=r
    exact .cons n k (xJ t)
theorem ud:∀{us:List Value} {ns:List Int},IntsAre us ns->Vals (ns.map V.int) us
 |_,_, .nil=> .nil
 |_,_, .cons k t h=> .cons ⟨t,rfl⟩ (ud h)
theorem Zk{σ:List Int}{k:Int}(h:σ.Nodup):(step_dedup σ k).Nodup:=by
 unfold step_dedup
 split
 ·exact h
 ·rename_i q
  rw[lT]
  refine⟨h,by simp,fun x hx y hy=>?_⟩
  rw[aK.mp hy]
  intro e
  subst e
  exact q (by simp[hx])
theorem La(val:Nat->Int):∀i,(firstMet val i).Nodup
 |0=>List.nodup_nil
 |i+1=>by rw[firstMet_succ];exact Zk (La val i)
theorem QF:∀{ds ns:List Int},ds.Nodup->(∀k∈ds,k∈ns)->ns.length<=ds.length->ds.Perm ns
  | [], ns, _, _, hl => by
    have:ns=[]:=o6.mp (by simpa using hl)
    rw[this]
  | d :: ds, ns, hd, hs, hl => by
    have hm:=hs d (cA ..)
    obtain⟨h1,h2⟩:=gR.mp hd
    have hp:=List.perm_cons_erase hm
    refine(List.Perm.cons d (QF h2 (fun k hk=>?_) ?_)).trans hp.symm
    · rcases aL.mp (hp.mem_iff.mp (hs k (bX _ hk))) with e|e
      · subst e;exact absurd hk h1
      · exact e
    · have:=hp.length_eq;simp at this hl⊢;omega
def xC(P:Program)(w:World)(K:PySem.W.Frag):List V->Hp->VK->Prop:=fun xs H Q=>∃p,∃ns:List Int,xs=[.ref p]/\bh K H p (ns.map V.int)/\ns.length<=4000/\∀a (ms:List Int),H a=none->ms.Nodup->(∀k,k∈ms↔k∈ns)->Q (.ref a) (upd H a (ur P w a (fun k=>ms.any (· ==k)) ms.length))
def xP(P:Program)(w:World):List V->Hp->VK->Prop:=fun xs H Q=>∃a,∃ms:List Int,xs=[.ref a]/\H a=some (ur P w a (fun k=>ms.any (· ==k)) ms.length)/\ms.Nodup/\ms.length<64/\
 ∀l (rs:List Int),H l=none->rs.Pairwise (· < ·)->(∀k,k∈rs↔k∈ms)->Q (.ref l) (upd H l (.lst (rs.map V.int)))
section
variable{X:Cx}
theorem YQ(hc:X.calm=true):gn X (.type "set") (xC X.prog X.w X.K):=by
 intro pins s σ H xs us Q I rv h
 obtain⟨p,ns,rfl,hp,hn,q⟩:=h
 obtain⟨u,rfl,ru⟩:=vals1 rv
 cases ru
 obtain⟨its,rs,il,hz⟩:=I.list hp
 have hI:=xJ rs
 have hlen:=hI.length
 refine SM (I.ok.hd hc) il.isList (by simpa using hI) (by rw[dZ];unfold scanBound;omega) fun h' tk q1 q2 q3=>?_
 have hmem:∀k,k∈firstMet (fun i=>ns.getD i 0) its.toArray.size↔k∈ns:=fun k=>by
  have e:=firstMet_any (fun i=>ns.getD i 0) its.toArray.size k
  have e2:(List.range its.toArray.size).map (fun i=>ns.getD i 0)=ns:=by
   rw[dZ,hlen]
   apply List.ext_getElem
   ·simp
   ·intro i h1 h2
    simp[lU,bP h2]
  rw[e2] at e
  have a1:∀(l:List Int),(l.any (· ==k))=true↔k∈l:=fun l=>by
   rw[pO]
   exact⟨fun⟨x,m,z⟩=>(beq_iff_eq.mp z)▸m,fun m=>⟨k,m,beq_self_eq_true _⟩⟩
  rw[<-a1,<-a1,e]
 have kp:∀b u,s.heap.get? b=some u->h'.get? b=some u:=fun b u e=>q3 b u (cz e) e
 have new:cF X.prog X.w (upd H s.heap.objs.size (ur X.prog X.w s.heap.objs.size (fun k=>(firstMet (fun i=>ns.getD i 0) its.toArray.size).any (· ==k)) (firstMet (fun i=>ns.getD i 0) its.toArray.size).length)) h' s.heap.objs.size (ur X.prog X.w s.heap.objs.size (fun k=>(firstMet (fun i=>ns.getD i 0) its.toArray.size).any (· ==k)) (firstMet (fun i=>ns.getD i 0) its.toArray.size).length):=by
  refine⟨⟨q1,q2⟩,?_,fun h1 h2 z k=>?_⟩
  ·obtain⟨o,_,_,_,ho,_⟩:=q1;exact⟨o,ho⟩
  ·obtain⟨⟨o,es,ep,t,ho,r⟩,tt⟩:=z
   exact⟨⟨o,es,ep,t,k o ho,r⟩,tt.keep ho (k o ho)⟩
 exact⟨.ref s.heap.objs.size,_,I.laid (t':=tk) kp (aU _) new,rfl,q _ _ (I.hok.fresh (aU _)) (La _ _) hmem⟩
theorem Zl(hc:X.calm=true):gn X (.builtin "sorted") (xP X.prog X.w):=by
 intro pins s σ H xs us Q I rv h
 obtain⟨a,ms,rfl,hH,nd,h64,q⟩:=h
 obtain⟨u,rfl,ru⟩:=vals1 rv
 cases ru
 obtain⟨⟨q1,q2⟩,_,_⟩:=I.hok a _ hH
 refine acp (I.ok.hd hc) q1 q2 h64 fun h' d' tk' l out ns e kp hl gl hI pw hm hn=>?_
 have a1:∀k,(ms.any (· ==k))=true↔k∈ms:=fun k=>by
  rw[pO]
  exact⟨fun⟨x,m,z⟩=>(beq_iff_eq.mp z)▸m,fun m=>⟨k,m,beq_self_eq_true _⟩⟩
 have hm':∀k,k∈ns↔k∈ms:=fun k=>by rw[<-hm k,a1]
 have pp:=QF nd (fun k m=>(hm' k).mpr m) (tw hn)
 have ndn:ns.Nodup:=pp.nodup_iff.mp nd
 have lt:ns.Pairwise (· < ·):=by
  have:=pw.and ndn
  exact this.imp fun⟨x,y⟩=>by omega
 have new:cF X.prog X.w (upd H l (.lst (ns.map V.int))) h' l (.lst (ns.map V.int)):=by
  refine⟨?_,out,e,ud hI,gl⟩
  rw[ao,hn];exact cG (j5 h64) (by decide)
 exact⟨.ref l,_,(I.laid (t':=tk') kp hl new).dr d',rfl,q _ _ (I.hok.fresh hl) lt hm'⟩
end
theorem aE.acZ{G:Gx}{ρ:Rh}{te:TE}{P:Program}{w:World}{K:PySem.W.Frag}{Θ:Bool->List PyData->Prop}(h:Ev G ρ te fun _ x=>∃ns:List Int,x= .list (ns.map .int)/\ns.length<64/\∀rs:List Int,rs.Pairwise (· < ·)->(∀k,k∈rs↔k∈ns)->Θ true (rs.map .int)):
  aE G ρ (fc (xP P w) (aX (fc (xC P w K) (aX te bE)) bE)) Θ:=fun nb σ H Q W z=>
 h nb σ H _ W fun f v H1 x ⟨ns,ex,hn,q⟩ s1 hv=>by
  subst ex
  obtain⟨a,xs,rfl,na,hx,hd⟩:=hv.gy
  have e:=qh hd
  subst e
  refine⟨a,ns,rfl, .of hx,by omega,fun b ms hb nd hm=>?_⟩
  have hms:ms.length<=ns.length:=C6 nd fun k m=>(hm k).mp m
  refine⟨b,ms,rfl,aQ,nd,by omega,fun l rs hl lt hm'=>?_⟩
  have s2:Step G.B H1 (upd H1 b (ur P w b (fun k=>ms.any (· ==k)) ms.length)):= .same s1.2 (dD hb)
  exact aE.fin (f:=true) W (s1.trans s2) hl (tG rs) (q rs lt fun k=>(hm' k).trans (hm k)) z
end L2
set_option maxRecDepth 100000
set_option maxHeartbeats 4000000
namespace L2
open PySem PySem.Spec PyProof.Rows
section
variable{prog:Program}{w:World}{A:Around}{E:Value->Shared->Prop}{s:Shared}{st:SortSt}
def X5(st st':SortSt):Prop:=kindOf st'=kindOf st/\arrOf st'=arrOf st/\pendingOf st'=pendingOf st/\failedOf st'=failedOf st
def Mg(a b:Array Keyed)(i j:Nat)(out:Array Keyed):Prop:=out.toList.Perm (a.toList.take i++b.toList.take j)
def LP(a b:Array Keyed)(nH:SortSt)(B:Nat)(r:Option (Array Keyed))(out:Array Keyed)(ia ib:Nat)(st':SortSt):Prop:=
 X5 nH st'/\(match r with|some z=>z.toList.Perm (a.toList++b.toList)|none=>Mg a b ia ib out/\ia+1<a.size/\ib<b.size/\B<=ia+ib)
variable{nH:SortSt}
end
end L2
set_option maxRecDepth 100000
set_option maxHeartbeats 4000000
set_option maxRecDepth 100000
set_option maxHeartbeats 4000000
set_option maxRecDepth 100000
set_option maxHeartbeats 4000000
set_option maxRecDepth 100000
set_option maxHeartbeats 4000000
set_option maxRecDepth 100000
set_option maxHeartbeats 4000000
set_option maxRecDepth 100000
set_option maxHeartbeats 4000000
set_option maxRecDepth 100000
set_option maxHeartbeats 4000000
set_option maxRecDepth 100000
set_option maxHeartbeats 4000000
set_option maxRecDepth 100000
set_option maxHeartbeats 4000000
set_option maxRecDepth 100000
set_option maxHeartbeats 4000000
set_option maxRecDepth 100000
set_option maxHeartbeats 4000000
namespace L2
open PySem PySem.Spec PyProof.Rows
def Jr:List V->Hp->VK->Prop:=fun xs H Q=>∃j:Int,xs=[.int j]/\∀a,H a=none->Q (.ref a) (upd H a (.nT 0 j))
def QB:List V->Hp->VK->Prop:=fun xs H Q=>∃(a:Addr) (lo hi:Int),xs=[.ref a]/\H a=some (.nT lo hi)/\(-10000<=lo/\lo<=10000/\ -10000<=hi/\hi<=10000)/\∀l,H l=none->Q (.ref l) (upd H l (.lst (((List.range (hi-lo).toNat).map fun(i:Nat)=>lo+(i:Int)).map V.int)))
def Ci(K:PySem.W.Frag):List V->Hp->VK->Prop:=fun xs H Q=>∃p,∃ns:List Int,xs=[.ref p]/\bh K H p (ns.map V.int)/\Q (.int ns.sum) H
def Gm(K:PySem.W.Frag):List V->Hp->VK->Prop:=fun xs H Q=>∃p,∃bs:List Bool,xs=[.ref p]/\bh K H p (bs.map V.bl)/\Q (.bl (bs.all id)) H
section
variable{X:Cx}
theorem UG:gn X (.type "range") Jr:=by
 intro pins s σ H xs us Q I rv h
 obtain⟨j,rfl,q⟩:=h
 obtain⟨u,rfl,ru⟩:=vals1 rv
 obtain⟨t,rfl⟩:=ru
 refine call_range_1 ?_
 exact⟨.ref s.heap.objs.size,_,I.laid (t':=s.toks+1+1) (o:= .nT 0 j) (fun b o e=>cM _ e) (aU _) ⟨_,_,_,gh _ rfl⟩,rfl,q _ (I.hok.fresh (aU _))⟩
theorem S2(hc:X.calm=true):gn X (.type "list") QB:=by
  intro pins s σ H xs us Q I rv h
  obtain⟨a,lo,hi,rfl,hH,hb,q⟩:=h
  obtain⟨u,rfl,ru⟩:=vals1 rv
  cases ru
  obtain⟨t,u,v,e⟩:=(show cF X.prog X.w H s.heap a (.nT lo hi) from I.hok a _ hH)
  refine call_list_range (n:=(hi-lo).toNat) (I.ok.hd hc) (show IsRange s.heap a lo hi 1 t u v from e) (small_one (by omega) (by omega) (by omega) (by omega)) (rangeSize_nat lo hi) (by omega) fun h' tk acc c' kp hl hi'=>?_
  have vv:Vals (((List.range (hi-lo).toNat).map fun(i:Nat)=>lo+(i:Int)).map V.int) acc.toList:=by
    have key:∀(n:Nat) (l:List Value),l.length=n->∀b:Int,(∀(j:Nat) (v:Value),l[j]?=some v->∃t,v=Value.int (b+(j:Int)) t)->Vals (((List.range n).map fun(i:Nat)=>b+(i:Int)).map V.int) l:=by
      intro n
      induction n with
      |zero=>intro l hl b _;rw[o6.mp hl];exact .nil
      | succ n ih =>
        intro l hl b hv
        cases l with
        |nil=>cases hl
        | cons x r =>
          obtain⟨t,e⟩:=hv 0 x rfl
          rw[G4,bL,bL]
          refine .cons ⟨t,by simpa using e⟩ ?_
          have:=ih r (by simpa using hl) (b+1) (fun j v e=>by
            obtain⟨t,z⟩:=hv (j+1) v (by simpa using e)
            exact⟨t,by rw[z];congr 1;omega⟩)
          rw[k7] at this⊢
          rw[k7]
          have e:∀i:Nat,((V.int∘fun(i:Nat)=>b+(i:Int))∘Nat.succ) i=(V.int∘fun(i:Nat)=>b+1+(i:Int)) i:=fun i=>by
            show V.int (b+((i+1:Nat):Int))=V.int (b+1+(i:Int));congr 1;omega
          rw[uF fun i _=>e i]
          exact this
    refine key _ _ (by rw[jW];exact hi'.1) lo fun j v e=>?_
    obtain⟨t,z⟩:=hi'.2 j v (by rw[<-mD];exact e)
    exact⟨t,by rw[z];congr 1;omega⟩
  refine⟨.ref s.heap.objs.size,_,I.laid (t':=tk) (o:= .lst (((List.range (hi-lo).toNat).map fun(i:Nat)=>lo+(i:Int)).map V.int)) kp (aU _) ⟨?_,acc.toList,c',vv,by simpa using hl⟩,rfl,q _ (I.hok.fresh (aU _))⟩
  rw[ao,ao,ig]
  exact cG (show(hi-lo).toNat<=20000 by omega) (by decide)
theorem Xk(hc:X.calm=true):gn X (.builtin "sum") (Ci X.K):=by
 intro pins s σ H xs us Q I rv h
 obtain⟨p,ns,rfl,hp,q⟩:=h
 obtain⟨u,rfl,ru⟩:=vals1 rv
 cases ru
 obtain⟨its,rs,il,hz⟩:=I.list hp
 have hI:=xJ rs
 obtain⟨ys,e⟩:=hI.allInts.items
 have hn:=hI.numsOf
 refine sum_intListG (xs:=ys) (I.ok.hd hc) (by rw[<-e];exact il.isList) fun h' tk t' kp=>?_
 have e2:preSum (numAt ys) ys.size=ns.sum:=by
  rw[preSum_eq,sj (by simp),<-nums_intItems,<-e,<-hn]
 rw[e2]
 exact⟨.int ns.sum,H,I.kept kp,⟨_,rfl⟩,q⟩
theorem acI(hc:X.calm=true):gn X (.builtin "all") (Gm X.K):=by
  intro pins s σ H xs us Q I rv h
  obtain⟨p,bs,rfl,hp,q⟩:=h
  obtain⟨u,rfl,ru⟩:=vals1 rv
  cases ru
  obtain⟨its,rs,il,hz⟩:=I.list hp
  have hl:=rs.length
  have hv:∀(i:Nat) (v:Value),its.toArray[i]?=some v->v= .bool (bs.getD i false):=fun i v e=>by
    have hi:i<bs.length:=by
      have:=(vd.mp e).1
      rw[ao] at hl
      simp at this;omega
    obtain⟨u,hu,ru⟩:=rs.get (i:=i) (x:= .bl bs[i]) (by rw[bI,bP hi];rfl)
    rw[PD,hu] at e
    cases e
    rw[lU,bP hi]
    exact ru
  have ll:=il.isList
  have hlt:p<s.heap.objs.size:=by obtain⟨o,e,_⟩:=ll;exact cz e
  refine call_all_walk (wpAny_pyIter_list ll ⟨s.heap.objs.size,_,_,_,_,_,fun i=>bs.getD i false,rfl,Walks.list (A:=X.A.in1) (I.ok.hd hc) _ p (eG hlt) its.toArray,⟨⟨_,gh _ rfl,rfl,rfl⟩,ll.push _⟩,fun i v s Q E hP hQ=>?_,fun h' tk kp=>?_⟩)
  · rw[hv i v hP];exact wpAny_truthy_bool hQ
  · have e:(List.range its.toArray.size).all (fun i=>bs.getD i false)=bs.all id:=by
      have hs:its.toArray.size=bs.length:=by rw[ao] at hl;simp;omega
      rw[hs]
      clear hv hl rs q hp hs hz
      induction bs with
      |nil=>rfl
      | cons b r ih =>
        rw[fG,G4,nA,nA,List.all_map]
        simpa[Function.comp_def] using congrArg (b && ·) ih
    rw[e]
    refine⟨.bl (bs.all id),H,I.kept fun b o q=>kp b o (fun m=>?_) (cM _ q),rfl,q⟩
    have:=aK.mp m
    rw[this] at q
    exact absurd (cz q) (mT _)
end
section
variable{G:Gx}{ρ:Rh}{te:TE}{K:PySem.W.Frag}{Φ:Pd}
theorem aE.ZY{Θ:Bool->List PyData->Prop}(h:Ev G ρ te fun _ x=>∃n:Int,x= .int n/\ -10000<=n/\n<=10000/\Θ true (((List.range n.toNat).map fun(i:Nat)=>(0:Int)+(i:Int)).map .int)):aE G ρ (fc QB (aX (fc Jr (aX te bE)) bE)) Θ:=fun nb σ H Q W z=>
 h nb σ H _ W fun f v H1 x ⟨n,ex,h1,h2,q⟩ s1 hv=>by
  subst ex
  rw[hv.bD]
  refine⟨n,rfl,fun a ha=>⟨a,0,n,rfl,aQ,by omega,fun l hl=>?_⟩⟩
  rw[tL]
  exact aE.fin (f:=true) W (s1.trans (.same s1.2 (dD ha))) hl (tG _) q z
theorem Ev.sum(h:Ev G ρ te fun _ x=>∃ns:List Int,x= .list (ns.map .int)/\Φ true (.int ns.sum)):Ev G ρ (fc (Ci K) (aX te bE)) Φ:=fun nb σ H Q W z=>
 h nb σ H _ W fun f v H1 x ⟨ns,ex,q⟩ s1 hv=>by
  subst ex
  obtain⟨a,xs,rfl,na,hx,hd⟩:=hv.gy
  have e:=qh hd
  subst e
  exact⟨a,ns,rfl, .of hx,z true _ H1 _ q s1 (.int _)⟩
theorem IJ{nb:Addr->Prop}{H:Hp}:∀{is:List Bool} {xs:List V},ah nb H (is.map PyData.bool) xs->xs=is.map V.bl
  |[],_,h=>by unfold List.map ah at h;exact h
  | i :: is, _, h => by
    rw[bL] at h
    unfold ah at h
    obtain⟨y,ys,rfl,h1,h2⟩:=h
    unfold af at h1
    rw[bL,h1,IJ h2]
theorem Ev.all(h:Ev G ρ te fun _ x=>∃bs:List Bool,x= .list (bs.map .bool)/\Φ true (.bool (bs.all id))):Ev G ρ (fc (Gm K) (aX te bE)) Φ:=fun nb σ H Q W z=>
 h nb σ H _ W fun f v H1 x ⟨bs,ex,q⟩ s1 hv=>by
  subst ex
  obtain⟨a,xs,rfl,na,hx,hd⟩:=hv.gy
  have e:=IJ hd
  subst e
  exact⟨a,bs,rfl, .of hx,z true _ H1 _ q s1 (.bl _)⟩
end
end L2
set_option maxRecDepth 100000
set_option maxHeartbeats 4000000
namespace L2
open PySem PySem.Spec PyProof.Rows
def jS:PyData->String->Bool
 | .bool _,T=>T=="bool" ||T=="int"
 | .int _,T=>T=="int"
 | .str _,T=>T=="str"
 | .list _,T=>T=="list"
 | .tuple _,T=>T=="tuple"
 |_,_=>false
def ET:PyData->String
 | .none=> "NoneType" | .bool _=> "bool" | .int _=> "int" | .str _=> "str" | .list _=> "list" | .tuple _=> "tuple" | .dict _=> "dict"
theorem LW(ds:List PyData):jS (.list ds) "list"=true/\jS (.list ds) "tuple"=false:=⟨rfl,rfl⟩
theorem Mu(ds:List PyData):jS (.tuple ds) "list"=false/\jS (.tuple ds) "tuple"=true:=⟨rfl,rfl⟩
theorem aa7{K:PySem.W.Frag}{nb:Addr->Prop}{H:Hp}{d:PyData}{v:V}(h:af nb H d v):jy K H v (.type (ET d)):=by
 cases d<;>unfold af at h
 ·subst h;exact .aI
 ·subst h;exact .bl _
 ·subst h;exact .int _
 ·subst h;exact .str _
 ·obtain⟨a,xs,rfl,_,e,_⟩:=h;exact .lst e
 ·obtain⟨a,xs,rfl,_,e,_⟩:=h;exact .tup e
 ·obtain⟨a,xs,rfl,_,e,_⟩:=h;exact e.elim .dK fun⟨_,e⟩=> .Oa e
def rC(T:String):Prop:=T="int" \/T="bool" \/T="list" \/T="tuple" \/T="str"
theorem NH{K:PySem.W.Frag}{d:PyData}{T:String}(hT:rC T):PySem.W.kitOne K (.type (ET d)) (.type T)=some (jS d T):=by
 rcases hT with rfl|rfl|rfl|rfl|rfl<;>cases d<;>(with_unfolding_all rfl)
theorem O2{K:PySem.W.Frag}{d:PyData}:∀{Ts:List String},(∀T∈Ts,rC T)->PySem.W.kitAny K (.type (ET d)) (Ts.map Value.type)=some (Ts.any (jS d))
  |[],_=>rfl
  | T :: r, h => by
    rw[bL]
    unfold PySem.W.kitAny
    rw[NH (h T (cA ..)),kZ]
    cases jS d T with
    |true=>rfl
    |false=>exact O2 fun T m=>h T (bX _ m)
def zu:List V->Hp->VK->Prop:=fun xs H Q=>∃(x:V) (tp:Addr) (Ts:List String) (nb:Addr->Prop) (d:PyData),xs=[x, .ref tp]/\H tp=some (.tup (Ts.map V.ty))/\af nb H d x/\(∀T∈Ts,rC T)/\Q (.bl (Ts.any (jS d))) H
theorem MC:∀{Ts:List String} {us:List Value},Vals (Ts.map V.ty) us->us=Ts.map Value.type
 |[],_, .nil=>rfl
 |T::r,_, .cons h t=>by rw[bL,MC t,show _=Value.type T from h]
section
variable{X:Cx}
theorem OX:gn X (.builtin "isinstance") zu:=by
 intro pins s σ H xs us Q I rv h
 obtain⟨x,tp,Ts,nb,d,rfl,ht,hd,h5,q⟩:=h
 obtain⟨u,v,rfl,ru,rv⟩:=rv.two
 cases (show v=Value.ref tp from rv)
 obtain⟨_,its,vt,o,ho,hc,n,hdat⟩:=(show cF X.prog X.w H s.heap tp (.tup (Ts.map V.ty)) from I.hok tp _ ht)
 have e:=MC vt
 subst e
 obtain⟨c0,d0,dt,sl⟩:=o
 dsimp only at hc hdat
 subst hc hdat
 have fin:∀tk,EP X pins σ Q (.bool (Ts.any (jS d))) {s with toks:=tk}:=fun tk=>⟨.bl _,H,I.tok tk,rfl,q⟩
 have ka:=O2 (K:=X.K) (d:=d) h5
 cases d<;>unfold af at hd
 ·subst hd;cases (show u=Value.none from ru);exact pF PySem.W.kitx_none I.dI True.intro ho ka (fun z=>nomatch z) fin
 ·subst hd;cases (show u=Value.bool _ from ru);exact pF PySem.W.kitx_bool I.dI True.intro ho ka (fun z=>nomatch z) fin
 ·subst hd;obtain⟨t,rfl⟩:=(show∃t,u=Value.int _ t from ru);exact pF PySem.W.kitx_int I.dI True.intro ho ka (fun z=>nomatch z) fin
 ·subst hd;obtain⟨t,rfl⟩:=(show∃t,u=Value.str _ t from ru);exact pF PySem.W.kitx_str I.dI True.intro ho ka (fun z=>nomatch z) fin
 ·obtain⟨a,ys,rfl,_,ea,_⟩:=hd
  cases (show u=Value.ref a from ru)
  obtain⟨_,_,n,_,h1⟩:=(show cF X.prog X.w H s.heap a (.lst ys) from I.hok a _ ea)
  exact pF Ey I.dI ⟨_,h1,rfl⟩ ho ka (fun z=>nomatch z) fin
 ·obtain⟨a,ys,rfl,_,ea,_⟩:=hd
  cases (show u=Value.ref a from ru)
  obtain⟨_,_,_,o',h1,h2,_⟩:=(show cF X.prog X.w H s.heap a (.tup ys) from I.hok a _ ea)
  exact pF PySem.W.kitx_tuple I.dI ⟨o',h1,h2⟩ ho ka (fun z=>nomatch z) fin
 ·obtain⟨a,ys,rfl,_,ea,_⟩:=hd
  cases (show u=Value.ref a from ru)
  obtain⟨_,_,vs,_,dd⟩:=(show cF X.prog X.w H s.heap a (.dK ys) from ea.ok I.hok)
  exact pF Ae I.dI dd.typeIs ho ka (fun z=>nomatch z) fin
end
section
variable{G:Gx}{ρ:Rh}{ta tb te:TE}{K:PySem.W.Frag}{Φ:Pd}{T U:String}
theorem Ev.Vs(hT:rC T)(h:Ev G ρ te fun _ x=>Φ true (.bool (jS x T))):Ev G ρ (fc (lX K) (aX te (aX (tC (.ty T)) bE))) Φ:=fun nb σ H Q W z=>
 h nb σ H _ W fun f v H1 d q s1 hv=>⟨v,T,_,_,rfl,aa7 hv,NH hT,z true _ H1 _ q s1 (.bl _)⟩
theorem Ev.ace(hT:rC T)(hU:rC U)(h:Ev G ρ te fun _ x=>Φ true (.bool (jS x T||jS x U))):Ev G ρ (fc zu (aX te (aX (uI (aX (tC (.ty T)) (aX (tC (.ty U)) bE))) bE))) Φ:=fun nb σ H Q W z=>
 h nb σ H _ W fun f v H1 d q s1 hv=>by
  refine⟨by show 2<=sizeLine;decide,fun p hp=>⟨v,p,[T,U],G.S nb f,d,rfl,aQ,hv.keep (aZ.of (dD hp)),fun S m=>?_,?_⟩⟩
  ·rcases aL.mp m with e|m
   ·rw[e];exact hT
   ·rw[aK.mp m];exact hU
  ·rw[kZ,kZ,List.any_nil,nO]
   exact z true _ _ _ q (s1.trans (.same s1.2 (dD hp))) (.bl _)
theorem Ev.G2(h:Ev G ρ te fun _ x=>∃ds,(x= .list ds\/x= .tuple ds)/\Φ true (.int ds.length)):Ev G ρ (fc (iB K) (aX te bE)) Φ:=fun nb σ H Q W z=>
 h nb σ H _ W fun f v H1 d ⟨ds,e,q⟩ s1 hv=>by
  rcases e with e|e
  ·subst e
   obtain⟨a,xs,rfl,n,hx,hd⟩:=hv.gy
   exact⟨a,xs,rfl, .inl (.of hx),by rw[hd.length];exact z true _ H1 _ q s1 (.int _)⟩
  ·subst e
   obtain⟨a,xs,rfl,n,hx,hd⟩:=hv.ofT
   exact⟨a,xs,rfl, .inr (.of hx),by rw[hd.length];exact z true _ H1 _ q s1 (.int _)⟩
theorem Ev.Dm(h:Ev G ρ ta fun f x=>∃ds,(x= .list ds\/x= .tuple ds)/\Ev G ρ tb fun _ y=>∃k,y= .int k/\∃e,cO ds k=some e/\Φ f e):Ev G ρ (cP (xO K) ta tb) Φ:=
 Ev.kR (h.mono fun f x ⟨ds,ex,q⟩=>q.mono fun g y ⟨k,ey,e,he,p⟩ nb σ H u v Q W hu hv z=>by
  subst ey
  rcases ex with ex|ex
  ·subst ex
   obtain⟨a,xs,rfl,n,hx,hd⟩:=hu.gy
   obtain⟨w,hw,hD⟩:=hd.cO he
   exact .inl ⟨a,xs,k,w,rfl,hv.bD, .of hx,hw,z f _ H _ p (.refl W.au) hD⟩
  ·subst ex
   obtain⟨a,xs,rfl,n,hx,hd⟩:=hu.ofT
   obtain⟨w,hw,hD⟩:=hd.cO he
   exact .inr (.inl ⟨a,xs,k,w,rfl,hv.bD, .of hx,hw,z f _ H _ p (.refl W.au) hD⟩))
end
theorem Callee.void{P:Program}{w:World}{K:PySem.W.Frag}{mg:Str->Option Value}{base:Heap}{x:Str}{st:Stmt}{k:Nat}{ps:List Str}{sp:Sp}{f:Addr}{fd:FuncData}(F:bM K x x st f fd)(b:Binds K fd ps [])(m:mg x=some (.ref f))(hv:∀vs H Q E,¬sp vs H Q E):Callee P w K mg base x k ps sp:=
 ⟨f,fd,⟨fun vs H Q E h=>(hv vs H Q E h).elim,fun A outer s H args us vs Q E _ _ _ _ h=>(hv vs H Q E h).elim⟩,b,F.kp,m⟩
end L2
set_option maxRecDepth 100000
set_option maxHeartbeats 4000000
namespace L2
open PySem PySem.Spec PyProof.Rows
section
variable{G:Gx}{ρ cH:Rh}{te:TE}{gt:TG}{n i:Nat}{it:Nat->PyData->Prop}{fi:Bool}{Θ:Bool->List PyData->Prop}{E:DE}
theorem abT(os:List Int):fL (os.map PyData.int)=true:=by
 unfold fL
 rw[pN]
 intro x hx
 obtain⟨y,_,rfl⟩:=c9.mp hx
 rfl
theorem jD.ints(P:Int->Prop)(ht:∀i d,it i d->Gv G cH gt fi d fun iO=>Wk cH iO/\Ev G iO te fun _ e=>∃r:Int,e= .int r/\P r)(h:∀os:List Int,os.length=n->(∀x∈os,P x)->Θ true (os.map .int)):jD G cH n it fi gt qi te Θ:=by
 refine⟨false,fun i ds=>ds.length=i/\∃os:List Int,ds=os.map .int/\∀x∈os,P x,⟨rfl,[],rfl,fun _ h=>nomatch h⟩,?_,?_⟩
 ·rintro i d ds hd hl ⟨hl2,os,rfl,ho⟩
  refine fun nb σ H v Q W hv z=>ht i d hd nb σ H v Q W hv fun σ' ρ' ⟨w,q⟩ W'=>z σ' ρ' ⟨w,Tv.vf (vN (q.mono fun f e ⟨r,ee,hr⟩=>⟨fun z=>(by cases z),?_,os++[r],?_,fun x hx=>?_⟩))⟩ W'
  ·rw[dW,kT,hl2]
  ·rw[ee];simp
  ·rcases ir.mp hx with h|h
   ·exact ho x h
   ·rw[aK.mp h];exact hr
 ·rintro ds hl ⟨hl2,os,rfl,ho⟩
  rw[abT,Bool.or_true]
  exact h os (by rw[ao] at hl2;exact hl2) ho
theorem jD.rel{α:Type}(φ:α->PyData)(fl:Bool)(P:Nat->α->Prop)(ht:∀i d,it i d->Gv G cH gt fi d fun iO=>Wk cH iO/\Ev G iO te fun f e=>(fl=true->f=true)/\∃r:α,e=φ r/\P i r)
  (h:∀os:List α,os.length=n->(∀(i:Nat) x,os[i]?=some x->P i x)->Θ (fl||fL (os.map φ)) (os.map φ)):jD G cH n it fi gt qi te Θ:=by
 refine⟨fl,fun i ds=>ds.length=i/\∃os:List α,ds=os.map φ/\∀(i:Nat) x,os[i]?=some x->P i x,⟨rfl,[],rfl,fun j x e=>by simp at e⟩,?_,?_⟩
 ·rintro i d ds hd hl ⟨hl2,os,rfl,ho⟩
  refine fun nb σ H v Q W hv z=>ht i d hd nb σ H v Q W hv fun σ' ρ' ⟨w,q⟩ W'=>z σ' ρ' ⟨w,Tv.vf (vN (q.mono fun f e ⟨hf,r,ee,hr⟩=>⟨hf,?_,os++[r],?_,fun j x hj=>?_⟩))⟩ W'
  ·rw[dW,kT,hl2]
  ·rw[ee];simp
  ·rw[ao] at hl2
   rcases Nat.lt_trichotomy j os.length with h|h|h
   ·exact ho j x (by rwa[gM h] at hj)
   ·subst h
    simp at hj
    subst hj
    rw[hl2];exact hr
   ·rw[fN (by rw[dW,kT];omega)] at hj
    cases hj
 ·rintro ds hl ⟨hl2,os,rfl,ho⟩
  exact h os (by rw[ao] at hl2;exact hl2) ho
theorem Sv.Ms(h:∀a,E.nx (ρ.set i (.own a true []))):Sv G ρ (fZ (mw bE) (iK i)) E:=Sv.Cb (aE.lst (Av.nil ⟨by decide,fun a=>h a⟩))
end
def RH:R2:=fun x y H Q=>∃a b:Bool,x= .bl a/\y= .bl b/\Q (.bl (a==b)) H
theorem Ev.isB{G:Gx}{ρ:Rh}{ta:TE}{b:Bool}{Φ:Pd}(h:Ev G ρ ta fun _ x=>∃a,x= .bool a/\Φ true (.bool (a==b))):Ev G ρ (cP RH ta (tC (.bl b))) Φ:=fun nb σ H Q W z=>
 h nb σ H _ W fun f v H1 d ⟨a,e,q⟩ s1 hv=>by
  subst e
  unfold af at hv
  subst hv
  exact⟨a,b,rfl,rfl,z true _ H1 _ q s1 (.bl _)⟩
theorem qo{X:Cx}{K:PySem.W.Frag}{a:Expr}{ta:TE}(hK:X.K=K)(ha:PE X a ta)(he:∀whole,isTrue a X.env whole=(do let v<-whole;standAt a.pos;holding [v] (truthy v))):PT X a (Bd K ta):=by
 subst hK
 exact V5 ha he
theorem jM{X:Cx}{K:PySem.W.Frag}{es:List Expr}{k:Nat}{t:jv}{n:Nat}{pos:Pos}(hK:X.K=K)(hc:X.calm=true)(h:uE X es t)(hn:(assignEach es X.env).length=n:=by rfl)(hst:(assignEach es X.env).findIdx? (·.1)=none:=by rfl):PG X (.Tuple es k pos) (yh K n t):=by
 subst hK
 exact Ng hc h hn hst
theorem OL(ds:List PyData):PyData.eqv (.list ds) (.list [])=ds.isEmpty:=by cases ds<;>simp[PyData.eqv,PyData.eqvAll]
theorem Sv.LH{G:Gx}{ρ:Rh}{s:TS}{E:DE}(I:Rh->Prop)(h:Sv G ρ s {E with nx:=I})(hI:∀ρ',I ρ'->E.nx ρ'):Sv G ρ s E:=fun nb σ H D W K=>h nb σ H D W ⟨fun nb ρ σ H q W=>K.nx nb ρ σ H (hI ρ q) W,K.bk,K.ct,K.rt,K.rw⟩
theorem pick{L:List Int}{k:Int}(h0:0<=k)(h1:k<L.length)(P:Int->Prop)(hP:∀x∈L,P x):∃x,cO (L.map PyData.int) k=some (.int x)/\P x:=by
 have hL:k.toNat<L.length:=by omega
 exact⟨L[k.toNat],lD h0 (by rw[bI,bP hL];rfl),hP _ (mj hL)⟩
end L2
set_option maxRecDepth 100000
set_option maxHeartbeats 4000000
namespace L2
open PySem PySem.Spec PyProof.Rows
theorem fit{p S r y:Int}(hp:0<p)(h:∃k,y*r=1+p*k):(S+((0-S%p)*r%p)*y)%p=0:=by
 obtain⟨k,hk⟩:=h
 have e1:=ow S p
 have e2:=ow ((0-S%p)*r) p
 refine HF ⟨S/p-S%p*k-(0-S%p)*r/p*y,?_⟩
 generalize S%p=R at*
 generalize S/p=s at*
 generalize (0-R)*r/p=q at*
 generalize hf:(0-R)*r%p=f at*
 have e3:f*y=(0-R)*r*y-p*q*y:=by rw[<-xh];congr 1;omega
 have e4:(0-R)*r*y= -R-R*(p*k):=by
  rw[ki,oK r y,hk,yR,BD,xh,qX];omega
 rw[e3,e4,mG,mG,<-ki p R k,oK p R,ki R p k,<-ki p q y]
 omega
end L2
set_option maxRecDepth 100000
set_option maxHeartbeats 4000000
namespace L2
open PySem PySem.Spec PyProof.Rows
theorem shaped_ints(xs:List Int):SeqAt.shaped (.list (xs.map .int))=true:=by
 have h:=NJ (xs.map some)
 have e:(xs.map some).map bF=xs.map PyData.int:=by rw[k7];rfl
 rw[e] at h
 unfold SeqAt.shaped
 simp[PyData.canLay0,PyData.depth,h.1,h.2]
end L2
set_option maxRecDepth 100000
set_option maxHeartbeats 4000000
namespace L2
open PySem PySem.Spec PyProof.Rows
def Ja(K:PySem.W.Frag)(te:TE)(ts:TO):TE:=fun σ H Q=>te σ H fun x H1=>ts σ H1 fun k H2=>k=some (-1)/\∃a xs,x= .ref a/\bh K H2 a xs/\∀p,H2 p=none->Q (.ref p) (upd H2 p (.lst xs.reverse))
theorem ah.rev{nb:Addr->Prop}{H:Hp}:∀{ds:List PyData} {xs:List V},ah nb H ds xs->ah nb H ds.reverse xs.reverse
  |[],xs,h=>by unfold ah at h;subst h;exact .nil
  | d :: ds, xs, h => by
    unfold ah at h
    obtain⟨y,ys,e,h1,h2⟩:=h
    subst e
    rw[Hx,Hx]
    exact ah.append (ah.rev h2) (.cons h1 .nil)
section
variable{G:Gx}{ρ:Rh}{Φ:Pd}{ta tb te:TE}{K:PySem.W.Frag}
theorem aE.rev{ts:TO}{Θ:Bool->List PyData->Prop}(h:Ev G ρ te fun f x=>∃ds,x= .list ds/\Ov G ρ ts fun o=>o=some (-1)/\Θ (f||fL ds.reverse) ds.reverse):aE G ρ (Ja K te ts) Θ:=fun nb σ H Q W z=>
 h nb σ H _ W fun f v H1 d ⟨ds,e,q⟩ s1 hv=>q nb σ H1 _ (W.step s1) fun o H2 ⟨eo,q2⟩ s2=>by
  subst e
  obtain⟨a,xs,rfl,n,hx,hd⟩:=(hv.keep s2.dz).gy
  exact⟨eo,a,xs,rfl, .of hx,fun p hp=>aE.fin W (s1.trans s2) hp hd.rev q2 z⟩
theorem Ev.rev{ts:TO}(h:Ev G ρ te fun f x=>∃ds,x= .list ds/\Ov G ρ ts fun o=>o=some (-1)/\Φ (f||fL ds.reverse) (.list ds.reverse)):Ev G ρ (Ja K te ts) Φ:=(aE.rev (Θ:=fun f ds=>Φ f (.list ds)) h).ev
theorem aan{X:Cx}{K:PySem.W.Frag}(hK:X.K=K):dR X (compareOp .In) (zl K false):=by subst hK;exact acN
theorem Ev.inI{ng:Bool}(h:Ev G ρ ta fun _ x=>∃k:Int,x= .int k/\Ev G ρ tb fun _ y=>∃ns:List Int,y= .list (ns.map .int)/\Φ true (.bool (decide (k∈ns) !=ng))):Ev G ρ (cP (zl K ng) ta tb) Φ:=fun nb σ H Q W z=>
 h nb σ H _ W fun f v H1 d ⟨k,e,q⟩ s1 hv=>q nb σ H1 _ (W.step s1) fun g u H2 d2 ⟨ns,e2,p⟩ s2 hu=>by
  subst e e2
  have hk:=hv.bD
  subst hk
  obtain⟨a,xs,rfl,na,hx,hd⟩:=hu.gy
  have ex:=qh hd
  subst ex
  refine⟨a,ns.map V.int,rfl, .inl (.of hx),rfl,?_,?_⟩
  ·rw[pN]
   intro x hx
   obtain⟨o,_,rfl⟩:=c9.mp hx
   rfl
  ·have e:l9 (V.int k) (ns.map V.int)=decide (k∈ns):=by
    unfold l9
    rw[List.any_map,m7,pO,decide_eq_true_eq]
    constructor
    ·rintro⟨o,m,h⟩
     have:o=k:=eq_of_beq h
     exact this▸m
    ·intro m
     exact⟨k,m,beq_self_eq_true k⟩
   have e2:(if ng=true then !l9 (V.int k) (ns.map V.int) else l9 (V.int k) (ns.map V.int))=(decide (k∈ns) !=ng):=by
    rw[e]
    cases ng<;>simp
   rw[e2]
   exact z true _ H2 _ p (s1.trans s2) (.bl _)
end
def m8(p n:Int)(prs:bz):Prop:=prs≠[]/\(prs.Pairwise fun a b=>a.1<b.1)/\∀pr∈prs,0<=pr.1/\pr.1<n/\1<=pr.2/\pr.2<p
end L2
set_option maxRecDepth 100000
set_option maxHeartbeats 1000000
namespace PC
def aO(n:Nat):Prop:=2<=n/\∀d,d∣n->d=1\/d=n
def tr(q:Nat):Nat->Nat->Bool
 |0,_=>false
 |f+1,d=>if q<d*d then true else if q%d=0 then false else tr q f (d+1)
theorem PF{q:Nat}:∀{f d:Nat},tr q f d=true->∀e,d<=e->e*e<=q->q%e≠0
  |0,_,h=>by simp[tr] at h
  | f + 1, d, h => by
    intro e vF hee
    unfold tr at h
    by_cases h1:q<d*d
    · have:=Nat.mul_le_mul vF vF
      omega
    · rw[if_neg h1] at h
      by_cases h2:q%d=0
      · rw[if_pos h2] at h;cases h
      · rw[if_neg h2] at h
        by_cases h3:d=e
        · rw[<-h3];exact h2
        · exact PF h e (by omega) hee
theorem ML{q:Nat}(h2:2<=q)(h:∀e,2<=e->e*e<=q->q%e≠0):aO q:=by
 refine⟨h2,fun d hd=>?_⟩
 obtain⟨e,he⟩:=hd
 by_cases d1:d=1
 ·exact .inl d1
 by_cases e1:e=1
 ·right;rw[he,e1,B9]
 exfalso
 have d0:d≠0:=fun z=>by rw[z,GS] at he;omega
 have e0:e≠0:=fun z=>by rw[z,Nat.mul_zero] at he;omega
 by_cases hle:d<=e
 ·refine h d (by omega) (by rw[he];exact Nat.mul_le_mul_left d hle) ?_
  rw[he];exact Nat.mul_mod_right d e
 ·refine h e (by omega) (by rw[he];exact Nat.mul_le_mul_right e (by omega)) ?_
  rw[he];exact Nat.mul_mod_left d e
theorem cJ(f:Nat){q:Nat}(h2:2<=q)(h:tr q f 2=true):aO q:=ML h2 (PF h)
def pw(N:Nat):Nat->Nat->Nat->Nat->Nat
 |0,_,_,acc=>acc
 |f+1,e,g,acc=>pw N f (e/2) (g*g%N) (if e%2=1 then acc*g%N else acc)
theorem NC{N:Nat}:∀(f e g acc:Nat),e<2^f->pw N f e g acc%N=acc*g^e%N
  | 0, e, g, acc, h => by
    have:e=0:=by simp at h;exact h
    subst this
    simp[pw]
  | f + 1, e, g, acc, h => by
    have h2:e/2<2^f:=by rw[Nat.pow_succ] at h;omega
    unfold pw
    rw[NC f _ _ _ h2]
    have e2:g^e=(g*g)^(e/2)*g^(e%2):=by
      conv=>lhs;rw[<-Er e 2]
      rw[Ax,Nat.pow_mul,Nat.pow_two]
    have m1:(g*g%N)^(e/2)%N=(g*g)^(e/2)%N:=(Nat.pow_mod _ _ _).symm
    rw[e2]
    by_cases ho:e%2=1
    · rw[if_pos ho,ho,Nat.pow_one,mC,m1,DV,<-mC]
      congr 1
      rw[sW,rP g]
    · have ho':e%2=0:=by omega
      rw[if_neg ho,ho',Nat.pow_zero,B9,mC,m1,<-mC]
theorem VX{P:Nat->Prop}:∀n,P n->∃m,P m/\∀k,k<m->¬P k:=by
  intro n
  induction n using Nat.strongRecOn with
  | _ n ih =>
    intro h
    by_cases hk:∃k,k<n/\P k
    · obtain⟨k,hk1,hk2⟩:=hk
      exact ih k hk1 hk2
    · exact⟨n,h,fun k hk1 hk2=>hk ⟨k,hk1,hk2⟩⟩
theorem Pg:∀(n:Nat) (f:Nat->Nat),(∀i,i<n+1->f i<n)->∃i j,i<j/\j<n+1/\f i=f j
  |0,f,h=>absurd (h 0 (by omega)) (by omega)
  | n + 1, f, h => by
    by_cases he:∃i,i<n+1/\f i=f (n+1)
    · obtain⟨i,h1,h2⟩:=he
      exact⟨i,n+1,h1,by omega,h2⟩
    · have hne:∀i,i<n+1->f i≠f (n+1):=fun i hi e=>he ⟨i,hi,e⟩
      have kj:=h (n+1) (by omega)
      obtain⟨i,j,h1,h2,h3⟩:=Pg n (fun i=>if f i=n then f (n+1) else f i) (fun i hi=>by
        have g1:=h i (by omega)
        have g2:=hne i hi
        by_cases c:f i=n
        · simp only[c,if_true]
          have:f (n+1)≠n:=fun z=>g2 (c.trans z.symm)
          omega
        · simp only[c,if_false]
          omega)
      refine⟨i,j,h1,by omega,?_⟩
      have gi:=hne i (by omega)
      have gj:=hne j (by omega)
      by_cases ci:f i=n
      · by_cases cj:f j=n
        · rw[ci,cj]
        · simp only[ci,cj,if_true,if_false] at h3
          exact absurd h3.symm gj
      · by_cases cj:f j=n
        · simp only[ci,cj,if_true,if_false] at h3
          exact absurd h3 gi
        · simpa only[ci,cj,if_false] using h3
def k9:List (Nat×Nat)->Nat
 |[]=>1
 |qe::r=>Nat.lcm (qe.1^qe.2) (k9 r)
theorem MO{o:Nat}:∀{fs:List (Nat×Nat)},(∀qe∈fs,qe.1^qe.2∣o)->k9 fs∣o
 |[],_=>⟨o,by simp[k9]⟩
 |qe::r,h=>Nat.lcm_dvd (h qe cA) (MO fun x hx=>h x (bX _ hx))
theorem acS{q m:Nat}(hq:aO q)(h:¬q∣m):Nat.Coprime q m:=by
 rcases hq.2 _ (Nat.gcd_dvd_left q m) with e|e
 ·exact e
 ·exact absurd (e▸Nat.gcd_dvd_right q m) h
theorem Te{q m:Nat}(h:Nat.Coprime q m)(e:Nat):Nat.Coprime (q^e) m:=Nat.Coprime.pow_left e h
theorem Rc(a b c d:Nat):(a%d)*(b%d)%d*(c%d)%d=a*b*c%d:=by
 rw[<-mC a b,<-mC (a*b) c]
theorem HY{N g d:Nat}{fs:List (Nat×Nat)}(hN:2<=N)(hd:d∣N)(d1:1<d)(h1:g^(N-1)%N=1%N)
  (hq:∀qe∈fs,aO qe.1/\qe.1^qe.2∣N-1/\Nat.gcd (g^((N-1)/qe.1)%N+(N-1)) N=1):k9 fs<d:=by
 have down:∀{a b:Nat},a%N=b%N->a%d=b%d:=fun{a b} e=>by
  rw[<-Ck a hd,e,Ck b hd]
 have one:1%d=1:=Nat.mod_eq_of_lt d1
 have f1:g^(N-1)%d=1:=by rw[down h1,one]
 obtain⟨o,⟨o0,o1⟩,M8⟩:=VX (P:=fun k=>0<k/\g^k%d=1) (N-1) ⟨by omega,f1⟩
 have per:∀q r:Nat,g^(o*q+r)%d=g^r%d:=fun q r=>by
  rw[Ax,Nat.pow_mul,mC,Nat.pow_mod,o1,Nat.one_pow,one,DU,DV]
 have WA:∀k,g^k%d=1->o∣k:=fun k hk=>by
  have e:=Er k o
  rw[<-e,per] at hk
  by_cases h0:k%o=0
  ·exact PV h0
  ·exact absurd ⟨by omega,hk⟩ (M8 (k%o) (Bt _ o0))
 have od:=WA _ f1
 have parts:k9 fs∣o:=MO fun qe zT=>by
  obtain⟨pq,⟨c,hc⟩,gq⟩:=hq qe zT
  obtain⟨m,hm⟩:=od
  by_cases OU:qe.1∣m
  ·exfalso
   obtain⟨m',hm'⟩:=OU
   have q0:0<qe.1:=by have:=pq.1;omega
   have ek:(N-1)/qe.1=o*m':=by
    rw[hm,hm',show o*(qe.1*m')=qe.1*(o*m') by rw[<-sW,rP o,sW],Nat.mul_div_cancel_left _ q0]
   have e1:g^((N-1)/qe.1)%d=1:=by
    have:=per m' 0
    rw[Nat.add_zero,Nat.pow_zero,one] at this
    rw[ek];exact this
   have e2:d∣g^((N-1)/qe.1)%N+(N-1):=by
    have e3:(g^((N-1)/qe.1)%N)%d=1:=by rw[Ck _ hd];exact e1
    obtain⟨k,hk⟩:=hd
    have e4:=Er (g^((N-1)/qe.1)%N) d
    rw[e3] at e4
    refine⟨(g^((N-1)/qe.1)%N)/d+k,?_⟩
    rw[Nat.mul_add,<-hk]
    omega
   have e5:=Nat.dvd_gcd e2 hd
   rw[gq] at e5
   have:=B3 (by omega) e5
   omega
  ·have cp:=Te (acS pq OU) qe.2
   have hdv:qe.1^qe.2∣o*m:=⟨c,by rw[<-hm];exact hc⟩
   exact cp.dvd_of_dvd_mul_right hdv
 have VR:o<d:=by
  refine Nat.lt_of_not_le fun hle=>?_
  have unit:∀i,i<=N-1->(g^i%d)*(g^(N-1-i)%d)%d=1:=fun i hi=>by
   rw[<-mC,<-Ax,show i+(N-1-i)=N-1 by omega];exact f1
  have ole:o<=N-1:=B3 (by omega) od
  have pos:∀i,i<o->0<g^i%d:=fun i hi=>by
   refine Nat.pos_of_ne_zero fun z=>?_
   have:=unit i (by omega)
   rw[z,GS,Nat.zero_mod] at this
   cases this
  obtain⟨i,j,h1,h2,h3⟩:=Pg (d-1) (fun i=>g^i%d-1) (fun i hi=>by
   have a1:=pos i (by omega)
   have a2:=Bt (g^i) (show d>0 by omega)
   omega)
  have pi:=pos i (by omega)
  have pj:=pos j (by omega)
  have e:g^i%d=g^j%d:=by omega
  have ej:g^j=g^i*g^(j-i):=by rw[<-Ax,show i+(j-i)=j by omega]
  have u:=unit i (by omega)
  have k1:g^(j-i)%d=1:=by
   have w:(g^i%d)*(g^(N-1-i)%d)%d*(g^(j-i)%d)%d=(g^j%d)*(g^(N-1-i)%d)%d:=by
    rw[Rc,<-mC (g^j),ej]
    congr 1
    rw[sW,sW,rP (g^(N-1-i))]
   rw[u,DU,DV,<-e,u] at w
   exact w
  exact M8 (j-i) (by omega) ⟨by omega,k1⟩
 exact oq (B3 o0 parts) VR
theorem SR{N g:Nat}(fs:List (Nat×Nat))(hN:2<=N)(h1:g^(N-1)%N=1%N)
  (hq:∀qe∈fs,aO qe.1/\qe.1^qe.2∣N-1/\Nat.gcd (g^((N-1)/qe.1)%N+(N-1)) N=1) (hF:N<(k9 fs+1)*(k9 fs+1)):aO N:=by
 refine⟨hN,fun d hd=>?_⟩
 obtain⟨e,he⟩:=id hd
 by_cases d1:d=1
 ·exact .inl d1
 by_cases e1:e=1
 ·right;rw[he,e1,B9]
 exfalso
 have d0:d≠0:=fun z=>by rw[z,GS] at he;omega
 have e0:e≠0:=fun z=>by rw[z,Nat.mul_zero] at he;omega
 have b1:=HY hN hd (by omega) h1 hq
 have b2:=HY hN ⟨d,by rw[he,rP]⟩ (show 1<e by omega) h1 hq
 have:=Nat.mul_le_mul (show k9 fs+1<=d from b1) (show k9 fs+1<=e from b2)
 omega
def Qt(N g:Nat)(fs:List (Nat×Nat)):Bool:=
 decide (2<=N) && decide (N<2^140) &&(pw N 140 (N-1) g 1%N==1) && fs.all (fun qe=>((N-1)%qe.1^qe.2==0) &&(Nat.gcd (pw N 140 ((N-1)/qe.1) g 1%N+(N-1)) N==1)) && decide (N<(k9 fs+1)*(k9 fs+1))
theorem dQ{N:Nat}(g:Nat)(fs:List (Nat×Nat))(hp:∀qe∈fs,aO qe.1)(h:Qt N g fs=true):aO N:=by
 unfold Qt at h
 simp only[fU,decide_eq_true_eq,beq_iff_eq,pN] at h
 obtain⟨⟨⟨⟨h1,h2⟩,h3⟩,h4⟩,h5⟩:=h
 have P:∀e,e<=N-1->pw N 140 e g 1%N=g^e%N:=fun e he=>by
  rw[NC 140 e g 1 (by omega),DU]
 refine SR (g:=g) fs h1 (by rw[<-P _ (aU _),h3,Nat.mod_eq_of_lt (by omega)]) (fun qe zT=>?_) h5
 obtain⟨g1,g2⟩:=h4 qe zT
 refine⟨hp qe zT,PV g1,?_⟩
 rw[<-P _ (Nat.div_le_self _ _)]
 exact g2
end PC
set_option maxRecDepth 100000
set_option maxHeartbeats 1000000
namespace PC
theorem Cy:aO 2:=cJ 4 (by decide) (by decide+kernel)
theorem abg:aO 3:=cJ 4 (by decide) (by decide+kernel)
theorem Wy:aO 5:=cJ 5 (by decide) (by decide+kernel)
theorem Fz:aO 7:=cJ 5 (by decide) (by decide+kernel)
theorem X0:aO 11:=cJ 6 (by decide) (by decide+kernel)
theorem YY:aO 101:=cJ 13 (by decide) (by decide+kernel)
theorem V1:aO 10007:=cJ 103 (by decide) (by decide+kernel)
theorem V4:aO 65537:=cJ 259 (by decide) (by decide+kernel)
theorem ZI:aO 1000003:=cJ 1003 (by decide) (by decide+kernel)
theorem Rv:aO 17:=cJ 7 (by decide) (by decide+kernel)
theorem To:aO 998244353:=dQ 3 [(17,1),(7,1),(2,23)] (fun qe h=>by
 simp only[aL,dh,or_false] at h
 rcases h with rfl|rfl|rfl
 ·exact Rv
 ·exact Fz
 ·exact Cy) (by decide+kernel)
theorem U0:aO 148721:=cJ 388 (by decide) (by decide+kernel)
theorem Zs:aO 500000003:=dQ 2 [(148721,1)] (fun qe h=>by
 simp only[aL,dh,or_false] at h
 subst h;exact U0) (by decide+kernel)
theorem Zf:aO 1000000007:=dQ 2 [(500000003,1)] (fun qe h=>by
 simp only[aL,dh,or_false] at h
 subst h;exact Zs) (by decide+kernel)
theorem JA:aO 331:=cJ 21 (by decide) (by decide+kernel)
theorem Kg:aO 151:=cJ 15 (by decide) (by decide+kernel)
theorem X8:aO 2147483647:=dQ 3 [(331,1),(151,1)] (fun qe h=>by
 simp only[aL,dh,or_false] at h
 rcases h with rfl|rfl
 ·exact JA
 ·exact Kg) (by decide+kernel)
theorem WJ:aO 250049:=cJ 503 (by decide) (by decide+kernel)
theorem VE:aO 26005097:=dQ 2 [(250049,1)] (fun qe h=>by
 simp only[aL,dh,or_false] at h
 subst h;exact WJ) (by decide+kernel)
theorem TL:aO 1000000000039:=dQ 2 [(26005097,1)] (fun qe h=>by
 simp only[aL,dh,or_false] at h
 subst h;exact VE) (by decide+kernel)
theorem W9:aO 234931:=cJ 487 (by decide) (by decide+kernel)
theorem abY:aO 8740842787:=dQ 2 [(234931,1)] (fun qe h=>by
 simp only[aL,dh,or_false] at h
 subst h;exact W9) (by decide+kernel)
theorem TY:aO 52445056723:=dQ 2 [(8740842787,1)] (fun qe h=>by
 simp only[aL,dh,or_false] at h
 subst h;exact abY) (by decide+kernel)
theorem Tf:aO 1000000000000000003:=dQ 2 [(52445056723,1)] (fun qe h=>by
 simp only[aL,dh,or_false] at h
 subst h;exact TY) (by decide+kernel)
theorem Sj:aO 15331:=cJ 126 (by decide) (by decide+kernel)
theorem Rq:aO 2131:=cJ 49 (by decide) (by decide+kernel)
theorem Sz:aO 5594472617641:=dQ 2 [(15331,1),(2131,1)] (fun qe h=>by
 simp only[aL,dh,or_false] at h
 rcases h with rfl|rfl
 ·exact Sj
 ·exact Rq) (by decide+kernel)
theorem Vb:aO 18446744073709551557:=dQ 2 [(5594472617641,1)] (fun qe h=>by
 simp only[aL,dh,or_false] at h
 subst h;exact Sz) (by decide+kernel)
theorem Sb:aO 1321:=cJ 39 (by decide) (by decide+kernel)
theorem Rm:aO 61:=cJ 10 (by decide) (by decide+kernel)
theorem Us:aO 2305843009213693951:=dQ 3 [(1321,1),(331,1),(151,1),(61,1)] (fun qe h=>by
 simp only[aL,dh,or_false] at h
 rcases h with rfl|rfl|rfl|rfl
 ·exact Sb
 ·exact JA
 ·exact Kg
 ·exact Rm) (by decide+kernel)
theorem ab0:aO 8707:=cJ 96 (by decide) (by decide+kernel)
theorem ZL:aO 1913:=cJ 46 (by decide) (by decide+kernel)
theorem YJ:aO 2931542417:=dQ 3 [(8707,1),(1913,1)] (fun qe h=>by
 simp only[aL,dh,or_false] at h
 rcases h with rfl|rfl
 ·exact ab0
 ·exact ZL) (by decide+kernel)
theorem ZK:aO 2113:=cJ 48 (by decide) (by decide+kernel)
theorem W6:aO 683:=cJ 29 (by decide) (by decide+kernel)
theorem Rx:aO 618970019642690137449562111:=dQ 3 [(2931542417,1),(2113,1),(683,1)] (fun qe h=>by
 simp only[aL,dh,or_false] at h
 rcases h with rfl|rfl|rfl
 ·exact YJ
 ·exact ZK
 ·exact W6) (by decide+kernel)
theorem Su:aO 1097:=cJ 36 (by decide) (by decide+kernel)
theorem abm:aO 131:=cJ 14 (by decide) (by decide+kernel)
theorem YX:aO 67254877:=dQ 2 [(1097,1),(131,1)] (fun qe h=>by
 simp only[aL,dh,or_false] at h
 rcases h with rfl|rfl
 ·exact Su
 ·exact abm) (by decide+kernel)
theorem Wz:aO 28059810762433:=dQ 3 [(67254877,1)] (fun qe h=>by
 simp only[aL,dh,or_false] at h
 subst h;exact YX) (by decide+kernel)
theorem abN:aO 53:=cJ 10 (by decide) (by decide+kernel)
theorem Zz:aO 37:=cJ 9 (by decide) (by decide+kernel)
theorem acg:aO 13:=cJ 6 (by decide) (by decide+kernel)
theorem abz:aO 20394401:=dQ 3 [(53,1),(37,1),(13,1)] (fun qe h=>by
 simp only[aL,dh,or_false] at h
 rcases h with rfl|rfl|rfl
 ·exact abN
 ·exact Zz
 ·exact acg) (by decide+kernel)
theorem So:aO 162259276829213363391578010288127:=dQ 3 [(28059810762433,1),(20394401,1)] (fun qe h=>by
 simp only[aL,dh,or_false] at h
 rcases h with rfl|rfl
 ·exact Wz
 ·exact abz) (by decide+kernel)
theorem Zj:aO 699053:=cJ 839 (by decide) (by decide+kernel)
theorem Uy:aO 77158673929:=dQ 3 [(699053,1)] (fun qe h=>by
 simp only[aL,dh,or_false] at h
 subst h;exact Zj) (by decide+kernel)
theorem U4:aO 649657:=cJ 809 (by decide) (by decide+kernel)
theorem SA:aO 92737:=cJ 307 (by decide) (by decide+kernel)
theorem aaH:aO 170141183460469231731687303715884105727:=dQ 3 [(77158673929,1),(649657,1),(92737,1)] (fun qe h=>by
 simp only[aL,dh,or_false] at h
 rcases h with rfl|rfl|rfl
 ·exact Uy
 ·exact U4
 ·exact SA) (by decide+kernel)
theorem acR:aO 7963:=cJ 92 (by decide) (by decide+kernel)
theorem aaz:aO 3011:=cJ 57 (by decide) (by decide+kernel)
theorem XG:aO 575438233:=dQ 2 [(7963,1),(3011,1)] (fun qe h=>by
 simp only[aL,dh,or_false] at h
 rcases h with rfl|rfl
 ·exact acR
 ·exact aaz) (by decide+kernel)
theorem Uj:aO 52316542391429:=dQ 2 [(575438233,1)] (fun qe h=>by
 simp only[aL,dh,or_false] at h
 subst h;exact XG) (by decide+kernel)
theorem Zx:aO 104633084782859:=dQ 2 [(52316542391429,1)] (fun qe h=>by
 simp only[aL,dh,or_false] at h
 subst h;exact Uj) (by decide+kernel)
theorem R7:aO 179:=cJ 16 (by decide) (by decide+kernel)
theorem Vc:aO 31:=cJ 8 (by decide) (by decide+kernel)
theorem U9:aO 7935071:=dQ 2 [(179,1),(31,1)] (fun qe h=>by
 simp only[aL,dh,or_false] at h
 rcases h with rfl|rfl
 ·exact R7
 ·exact Vc) (by decide+kernel)
theorem SO:aO 15870143:=dQ 2 [(7935071,1)] (fun qe h=>by
 simp only[aL,dh,or_false] at h
 subst h;exact U9) (by decide+kernel)
theorem YC:aO 401321030361983486780957614729:=dQ 2 [(104633084782859,1),(15870143,1)] (fun qe h=>by
 simp only[aL,dh,or_false] at h
 rcases h with rfl|rfl
 ·exact Zx
 ·exact SO) (by decide+kernel)
theorem aaq:aO 1000000000000000000000000000000000000003:=dQ 2 [(401321030361983486780957614729,1)] (fun qe h=>by
 simp only[aL,dh,or_false] at h
 subst h;exact YC) (by decide+kernel)
theorem Vz:aO 25733:=cJ 163 (by decide) (by decide+kernel)
theorem X3:aO 1151:=cJ 36 (by decide) (by decide+kernel)
theorem QY:aO 4916701379:=dQ 2 [(25733,1),(1151,1)] (fun qe h=>by
 simp only[aL,dh,or_false] at h
 rcases h with rfl|rfl
 ·exact Vz
 ·exact X3) (by decide+kernel)
theorem RX:aO 83:=cJ 12 (by decide) (by decide+kernel)
theorem Vl:aO 23:=cJ 7 (by decide) (by decide+kernel)
theorem SX:aO 1676254721:=dQ 5 [(83,1),(23,1),(7,3)] (fun qe h=>by
 simp only[aL,dh,or_false] at h
 rcases h with rfl|rfl|rfl
 ·exact RX
 ·exact Vl
 ·exact Fz) (by decide+kernel)
theorem TX:aO 149927568276670622397029177:=dQ 2 [(4916701379,1),(1676254721,1)] (fun qe h=>by
 simp only[aL,dh,or_false] at h
 rcases h with rfl|rfl
 ·exact QY
 ·exact SX) (by decide+kernel)
theorem RB:aO 9999999999999999999999999999999999999983:=dQ 2 [(149927568276670622397029177,1)] (fun qe h=>by
 simp only[aL,dh,or_false] at h
 subst h;exact TX) (by decide+kernel)
end PC
namespace L2
open PC
def gp(p:Int):Prop:=2<=p/\∀d:Int,0<d->d∣p->d=1\/d=p
theorem fP{n:Nat}(h:aO n):gp (n:Int):=by
 refine⟨by have:=h.1;omega,fun d d0 hd=>?_⟩
 obtain⟨k,rfl⟩:=JT (Int.le_of_lt d0)
 rcases h.2 k (Int.natCast_dvd_natCast.mp hd) with e|e
 ·left;rw[e];rfl
 ·right;rw[e]
theorem Rw{p:Int}(h2:2<=p)(h:As p):gp p:=by
 obtain⟨n,rfl⟩:=JT (show 0<=p by omega)
 refine fP (ML (by omega) fun e e1 e2 e3=>?_)
 refine h (e:Int) (by omega) (by rw[<-Int.natCast_mul];exact Int.ofNat_le.mpr e2) ?_
 have:=congrArg (Nat.cast:Nat->Int) e3
 simpa using this
theorem Z9:∀p∈yd,gp p:=by
 intro p hp
 simp only[yd,aL,dh,or_false] at hp
 rcases hp with rfl|rfl|rfl|rfl|rfl|rfl|rfl|rfl|rfl|rfl|rfl|rfl|rfl|rfl|rfl|rfl|rfl|rfl|rfl|rfl|rfl|rfl
 ·exact fP Cy
 ·exact fP abg
 ·exact fP Wy
 ·exact fP Fz
 ·exact fP Cy
 ·exact fP X0
 ·exact fP YY
 ·exact fP V1
 ·exact fP V4
 ·exact fP ZI
 ·exact fP To
 ·exact fP Zf
 ·exact fP X8
 ·exact fP TL
 ·exact fP Tf
 ·exact fP Vb
 ·exact fP Us
 ·exact fP Rx
 ·exact fP So
 ·exact fP aaH
 ·exact fP aaq
 ·exact fP RB
def Jd:Sp:=fun vs H Q _=>∃p b:Int,vs=[.int p, .int b]/\gp p/\p<10^40/\b%p≠0/\∀u:Int,0<=u->u<p->(∃k,u*b=1+p*k)->Q (.int u) H
def CP:Sp:=fun vs H Q _=>∃p a b:Int,vs=[.int p, .int a, .int b]/\gp p/\p<10^40/\b%p≠0/\ -(10^61)<=a/\a<=10^61/\∀x:Int,0<=x->x<p->(∃k,b*x-a=p*k)->Q (.int x) H
end L2
set_option maxRecDepth 100000
set_option maxHeartbeats 4000000
namespace L2
open PySem PySem.Spec PyProof.Rows
theorem ah.three{nb:Addr->Prop}{H:Hp}{a b c:PyData}{vs:List V}(h:ah nb H [a,b,c] vs):∃x y z,vs=[x,y,z]/\af nb H a x/\af nb H b y/\af nb H c z:=by
 unfold ah at h
 obtain⟨x,ys,rfl,h1,h⟩:=h
 unfold ah at h
 obtain⟨y,zs,rfl,h2,h⟩:=h
 unfold ah at h
 obtain⟨z,ws,rfl,h3,h⟩:=h
 unfold ah at h
 subst h
 exact⟨x,y,z,rfl,h1,h2,h3⟩
theorem Ev.over{G:Gx}{ρ:Rh}{t:TA}{Φ:Pd}(h:Av G ρ t fun es=>∃p a b:Int,es.map (·.2)=[.int p, .int a, .int b]/\gp p/\p<10^40/\b%p≠0/\ -(10^61)<=a/\a<=10^61/\∀x:Int,0<=x->x<p->(∃k,b*x-a=p*k)->Φ true (.int x)):
  Ev G ρ (iF CP [] E0 t) Φ:=fun nb σ H Q W z=>
 h nb σ H _ W fun es vs H1 ⟨p,a,b,e,h1,h2,h3,h4,h5,q⟩ s1 q1=>by
  have hd:=q1.all (f:=false) (fun z=>by cases z)
  rw[e] at hd
  obtain⟨x,y,w,rfl,d1,d2,d3⟩:=hd.three
  rw[d1.bD,d2.bD,d3.bD]
  exact⟨p,a,b,rfl,h1,h2,h3,h4,h5,fun x x1 x2 x3=>z true _ H1 _ (q x x1 x2 x3) s1 (.int x)⟩
theorem abM{p a b:Int}(hp:gp p)(h:p∣a*b)(ha:¬p∣a):p∣b:=by
 have p2:=hp.1
 have g1:((Int.gcd a p:Nat):Int)∣p:=Int.gcd_dvd_right ..
 have g2:((Int.gcd a p:Nat):Int)∣a:=Int.gcd_dvd_left ..
 have g0:0<((Int.gcd a p:Nat):Int):=by
  have:Int.gcd a p≠0:=fun z=>by have:=(J0.mp z).2;omega
  omega
 rcases hp.2 _ g0 g1 with e|e
 ·have c:Nat.Coprime p.natAbs a.natAbs:=by
   show Nat.gcd p.natAbs a.natAbs=1
   have:Int.gcd a p=1:=by omega
   rw[Nat.gcd_comm];exact this
  have h':p.natAbs∣b.natAbs*a.natAbs:=by rw[rP,<-GZ];exact vW.mpr h
  exact vW.mp (c.dvd_of_dvd_mul_right h')
 ·rw[e] at g2;exact absurd g2 ha
theorem ZS{p a b:Int}(ha:0<=a)(ha':a<p)(hb:0<=b)(hb':b<p)(h:p∣a-b):a=b:=by
 obtain⟨k,e⟩:=h
 rcases Int.lt_trichotomy k 0 with z|z|z
 ·have:p*k<=p*(-1):=Hr (by omega) (by omega)
  omega
 ·subst z;omega
 ·have:p*1<=p*k:=Hr (by omega) (by omega)
  omega
end L2
set_option maxRecDepth 100000
set_option maxHeartbeats 4000000
set_option maxRecDepth 100000
set_option maxHeartbeats 4000000
set_option maxRecDepth 100000
set_option maxHeartbeats 4000000
namespace L2
open PySem PySem.Spec PyProof.Rows
section
variable{G:Gx}{ρ:Rh}{Φ:Pd}{te:TE}{t:TA}{i n:Nat}{f:Bool}{ds:List PyData}{Θ:List PyData->Prop}
theorem Ev.tupS(h:Av G ρ t fun es=>es.length<=10000/\Φ (jT es||fL (es.map (·.2))) (.tuple (es.map (·.2)))):Ev G ρ (uI t) Φ:=fun nb σ H Q W z=>
 h nb σ H _ W fun es vs H1 ⟨hl,p⟩ s1 q1=>⟨cG (by rw[q1.len];exact hl) (by decide),fun a ha=>z _ _ _ _ p (s1.trans (.same (W.step s1).au (dD ha))) (by
  cases hs:fL (es.map (·.2)) with
  |true=>rw[Bool.or_true];exact .tup ((W.step s1).fresh ha) aQ ((q1.all (f:=false) fun z=>by cases z).jw hs)
  |false=>rw[nO];exact .tup ((W.step s1).fresh ha) aQ ((q1.all fun z=>z).keep (aZ.of (dD ha))))⟩
theorem Ev.aa8(h:Ev G ρ te fun _ x=>∃n:Int,x= .int n/\2<=n/\n<=10002/\∀r:Int,gp r->r<10^40->Φ true (.int r)):Ev G ρ (iF Gz [] E0 (aX te bE)) Φ:=fun nb σ H Q W z=>
 h nb σ H _ W fun f v H1 d ⟨n,e,h1,h2,p⟩ s1 hv=>by
  subst e
  exact⟨n,by rw[hv.bD];rfl,h1,h2,fun r H' sm r1 r2 r3=>z true _ H' _ (p r (Rw r1 r3) (by omega)) (s1.trans (.same (W.step s1).au sm)) (.int r)⟩
theorem Ev.str{x:Str}(h:Φ true (.str x)):Ev G ρ (tC (.str x)) Φ:=fun nb σ H Q W z=>z true _ H _ h (.refl W.au) (by unfold af;rfl)
end
theorem Eu.fin{p b L lt t:Int}(h:Eu p b L lt 0 t)(hp:gp p)(hb:b%p≠0):∃k,lt%p*b=1+p*k:=by
 obtain⟨g1,g2⟩:=h.dv L (Int.dvd_refl L) (Int.dvd_zero L)
 have m1:=iT b (show p≠0 by have:=hp.1;omega)
 have m2:=iQ b (show 0<p by have:=hp.1;omega)
 have hL:L=1:=by
  rcases hp.2 L h.l0 g1 with e|e
  ·exact e
  ·exfalso
   rw[e] at g2
   have:=Dj (by omega) g2
   omega
 obtain⟨k,hk⟩:=h.lc
 have e:=ow lt p
 refine⟨-k-lt/p*b,?_⟩
 have e2:lt%p=lt-p*(lt/p):=by omega
 rw[e2,xh,mG,Int.mul_neg,ki]
 omega
noncomputable def sol(p b a:Int):Int:=open Classical in if h:∃x,0<=x/\x<p/\∃k,b*x-a=p*k then Classical.choose h else 0
theorem O7{p b a x:Int}(hp:gp p)(hb:b%p≠0)(h0:0<=x)(h1:x<p)(hx:∃k,b*x-a=p*k):x=sol p b a:=by
 have ex:∃x,0<=x/\x<p/\∃k,b*x-a=p*k:=⟨x,h0,h1,hx⟩
 unfold sol
 rw[dif_pos ex]
 obtain⟨g0,g1,k',hk'⟩:=IB ex
 generalize Classical.choose ex=y at*
 obtain⟨k,hk⟩:=hx
 refine ZS h0 h1 g0 g1 (abM hp (a:=b) ⟨k-k',?_⟩ fun z=>hb (HF z))
 rw[mG,mG];omega
theorem Vv{p b a:Int}(hp:0<p):0<=sol p b a/\sol p b a<p:=by
 unfold sol
 split
 ·rename_i h
  obtain⟨g0,g1,_⟩:=IB h
  exact⟨g0,g1⟩
 ·omega
def bK(wd:Wo)(prs:bz):bz:=prs.filter fun pr=>wd[pr.1.toNat]?==some none
theorem Fj{wd:Wo}{prs:bz}{pr:Int×Int}:bK wd (prs++[pr])=if wd[pr.1.toNat]?=some none then bK wd prs++[pr] else bK wd prs:=by
 unfold bK
 rw[qq]
 by_cases c:wd[pr.1.toNat]?=some none
 ·rw[if_pos c,oF (by rw[c];rfl)];rfl
 ·rw[if_neg c,om (by simpa using c)];simp
noncomputable def ic(p:Int)(prs:bz)(rest:Int)(wd:Wo):Option (Int×Int):=match bK wd prs with
 |[pr]=>some (pr.1,sol p pr.2 (rest-dP prs wd%p))
 |_=>none
def QV:Option (Int×Int)->PyData
 |none=> .none
 |some pr=>pairD pr
def Yt(p:Int)(prs:bz):Prop:=∀pr∈prs,pr.2%p≠0
theorem N7{wd:Wo}{prs:bz}{pr:Int×Int}(h:pr∈bK wd prs):pr∈prs/\wd[pr.1.toNat]?=some none:=by
 unfold bK at h
 have:=jh.mp h
 exact⟨this.1,by simpa using this.2⟩
theorem SQ{p:Int}{prs:bz}{rest:Int}{wd:Wo}{a x:Int}(hp:0<p)(h:ic p prs rest wd=some (a,x)):∃pr∈prs,pr.1=a/\wd[a.toNat]?=some none/\0<=x/\x<p:=by
 unfold ic at h
 split at h
 ·rename_i pr e
  cases h
  have:=N7 (wd:=wd) (prs:=prs) (pr:=pr) (by rw[e];simp)
  exact⟨pr,this.1,rfl,this.2,Vv hp⟩
 ·cases h
theorem BC{n:Nat}{k:Int}(h0:0<=k)(h1:k<n):gV n k=some k.toNat:=by
 unfold gV;rw[if_pos h0,if_pos h1]
theorem iz{X:Cx}{K:PySem.W.Frag}{tg l:Expr}{tl:TE}(hK:X.K=K)(hl:PE X l tl):PI X tg l (qf K tl):=by subst hK;exact Z5 hl
end L2
set_option maxRecDepth 100000
set_option maxHeartbeats 4000000
namespace L2
open PySem PySem.Spec PyProof.Rows
section
variable{G:Gx}{ρ:Rh}{Φ:Pd}{ta tb te:TE}{E:DE}{K:PySem.W.Frag}
theorem Ev.slT{tl th:TO}(h:Ev G ρ te fun f x=>∃ds,x= .tuple ds/\Ov G ρ tl fun lo=>Ov G ρ th fun hi=>¬(HT.gm ds.length 0 lo=0/\HT.gm ds.length ds.length hi=ds.length)/\Φ f (.tuple (Ct ds lo hi))):Ev G ρ (GG (aaD K) te tl th) Φ:=fun nb σ H Q W z=>
 h nb σ H _ W fun f v H1 d ⟨ds,e,q⟩ s1 hv=>q nb σ H1 _ (W.step s1) fun lo H2 q2 s2=>q2 nb σ H2 _ ((W.step s1).step s2) fun hi H3 ⟨hn,q3⟩ s3=>by
  subst e
  obtain⟨a,xs,rfl,n,hx,hd⟩:=((hv.keep s2.dz).keep s3.dz).ofT
  have W3:=((W.step s1).step s2).step s3
  refine⟨a,xs,rfl, .of hx,by rw[hd.length];exact hn,fun p hp=>?_⟩
  exact z f _ _ _ q3 (s1.trans (s2.trans (s3.trans (.same W3.au (dD hp))))) (.tup (W3.fresh hp) aQ (hd.cut.keep (aZ.of (dD hp))))
theorem Ev.adE(h:Ev G ρ ta fun f x=>∃ds,x= .tuple ds/\ds≠[]/\Ev G ρ tb fun g y=>∃es,y= .tuple es/\es≠[]/\ds.length+es.length<=10000/\Φ (f && g) (.tuple (ds++es))):Ev G ρ (cP (UK K) ta tb) Φ:=fun nb σ H Q W z=>
 h nb σ H _ W fun f v H1 d ⟨ds,e,hne,q⟩ s1 hv=>q nb σ H1 _ (W.step s1) fun g u H2 d2 ⟨es,e2,abh,hl,p⟩ s2 hu=>by
  subst e e2
  obtain⟨a,xs,rfl,n,hx,hd⟩:=(hv.keep s2.dz).ofT
  obtain⟨c,ys,rfl,m,hy,hc⟩:=hu.ofT
  have W2:=(W.step s1).step s2
  have tN:=hd.length
  have hyl:=hc.length
  refine⟨a,c,xs,ys,rfl,rfl, .of hx, .of hy,fun z=>hne (o6.mp (by rw[<-tN,z];rfl)),cG (by rw[tN,hyl];exact hl) (by decide),fun z=>absurd (o6.mp (by rw[<-hyl,z];rfl)) abh,fun _ q hq=>?_⟩
  refine z (f && g) _ _ _ p (s1.trans (s2.trans (.same W2.au (dD hq)))) (.tup (W2.fresh hq) aQ ?_)
  exact(ah.append (hd.av (cL (fun z=>(fU _ _▸z).1) fun _ z=>z)) (hc.av (cL (fun z=>(fU _ _▸z).2) fun _ z=>z))).keep (aZ.of (dD hq))
end
end L2
set_option maxRecDepth 100000
set_option maxHeartbeats 4000000
namespace L2
open PySem PySem.Spec PyProof.Rows
def vB(es:List Fd):Bool:=es.all fun e=>e.1||i6 e.2
section
variable{G:Gx}{ρ:Rh}{Φ:Pd}{t:TA}{te:TE}
theorem kL.Pa{nb:Addr->Prop}{H:Hp}:∀{es:List Fd} {vs:List V} {f:Bool},kL G nb H es vs->(f=true->vB es=true)->ah (G.S nb f) H (es.map (·.2)) vs
  |[],_,_,h,_=>by unfold kL at h;subst h;exact .nil
  | e :: es, _, f, h, hf => by
    obtain⟨v,ws,rfl,h1,h2⟩:=h
    have hh:f=true->(e.1||i6 e.2)=true/\vB es=true:=fun z=>by
      have:=hf z
      unfold vB at this
      rw[nA,fU] at this
      exact this
    refine .cons ?_ (h2.Pa fun z=>(hh z).2)
    cases hs:i6 e.2 with
    |true=>exact h1.jw hs
    |false=>exact h1.av (cL (fun z=>by have:=(hh z).1;rw[hs,nO] at this;exact this) fun _ z=>z)
theorem Ev.DT(h:Av G ρ t fun es=>es.length<=10000/\Φ (vB es) (.tuple (es.map (·.2)))):Ev G ρ (uI t) Φ:=fun nb σ H Q W z=>
 h nb σ H _ W fun es vs H1 ⟨hl,p⟩ s1 q1=>⟨cG (by rw[q1.len];exact hl) (by decide),fun a ha=>z _ _ _ _ p (s1.trans (.same (W.step s1).au (dD ha)))
  (.tup ((W.step s1).fresh ha) aQ ((q1.Pa fun z=>z).keep (aZ.of (dD ha))))⟩
end
def Sq:R2:=fun x y H Q=>∃a b:Bool,x= .bl a/\y= .bl b/\Q (.bl (!(a==b))) H
theorem Ev.adO{G:Gx}{ρ:Rh}{ta:TE}{b:Bool}{Φ:Pd}(h:Ev G ρ ta fun _ x=>∃a,x= .bool a/\Φ true (.bool (!(a==b)))):Ev G ρ (cP Sq ta (tC (.bl b))) Φ:=fun nb σ H Q W z=>
 h nb σ H _ W fun f v H1 d ⟨a,e,q⟩ s1 hv=>by
  subst e
  unfold af at hv
  subst hv
  exact⟨a,b,rfl,rfl,z true _ H1 _ q s1 (.bl _)⟩
abbrev rL(r:List Int):PyData:= .list (r.map .int)
end L2
set_option maxRecDepth 100000
set_option maxHeartbeats 4000000
set_option maxRecDepth 100000
namespace L2
open PySem PySem.Spec PyProof.Rows
section
variable{κ:Type}[DecidableEq κ]
def gK(kvs:List (κ×V))(k:κ):Option V:=(kvs.find? fun kv=>decide (kv.1=k)).map (·.2)
def putK(kvs:List (κ×V))(k:κ)(v:V):List (κ×V):=
 if(kvs.any fun kv=>decide (kv.1=k))=true then kvs.map (fun kv=>if kv.1=k then(kv.1,v) else kv) else kvs++[(k,v)]
def mE(kvs:List (κ×V))(k:κ):List (κ×V):=kvs.filter fun kv=>decide (kv.1≠k)
theorem Ut{k:κ}:gK ([]:List (κ×V)) k=none:=rfl
theorem wN{p:κ×V}{r:List (κ×V)}{k:κ}(e:p.1=k):gK (p::r) k=some p.2:=by simp[gK,nq,e]
theorem yv{p:κ×V}{r:List (κ×V)}{k:κ}(e:¬p.1=k):gK (p::r) k=gK r k:=by simp[gK,nq,e]
theorem zd(k:κ):∀kvs:List (κ×V),(kvs.any fun kv=>decide (kv.1=k))=(gK kvs k).isSome
  |[]=>rfl
  | p :: r => by
    rw[kZ]
    by_cases e:p.1=k
    · simp only[wN e,decide_eq_true e,z0,Option.isSome_some]
    · rw[yv e,decide_eq_false e,se];exact zd k r
theorem Q0(kvs:List (κ×V))(k:κ)(v:V):(putK kvs k v).length<=kvs.length+1:=by
 unfold putK
 split
 ·rw[ao];omega
 ·rw[dW,fG,List.length_nil];omega
theorem iY.vG{o:Option V}{u:Option Value}(r:iY o u):o.isSome=u.isSome:=by
  cases o with
  | none => cases u with
    |none=>rfl
    |some _=>exact(show False from r).elim
  | some _ => cases u with
    |none=>exact(show False from r).elim
    |some _=>rfl
theorem KV.val{kvs:List (κ×V)}{vs:List (κ×Value)}(r:KV kvs vs)(k:κ):iY (gK kvs k) (valueAt vs k):=by
  unfold KV at r
  induction r with
  |nil=>exact True.intro
  | @cons p q ps qs h t ih =>
    obtain⟨h1,h2⟩:=h
    by_cases e:p.1=k
    · have e':q.1=k:=h1.symm.trans e
      have b:valueAt (q::qs) k=some q.2:=by simp[valueAt,nq,e']
      rw[wN e,b];exact h2
    · have e':¬q.1=k:=fun z=>e (h1.trans z)
      have b:valueAt (q::qs) k=valueAt qs k:=by simp[valueAt,nq,e']
      rw[yv e,b];exact ih
theorem KV.any{kvs:List (κ×V)}{vs:List (κ×Value)}(r:KV kvs vs)(k:κ):(kvs.any fun kv=>decide (kv.1=k))=vs.any fun kv=>decide (kv.1=k):=by
 unfold KV at r
 induction r with
 |nil=>rfl
 |cons h t ih=>rw[kZ,kZ,ih,h.1]
theorem KV.repl{kvs:List (κ×V)}{vs:List (κ×Value)}(r:KV kvs vs)(k:κ){y:V}{u:Value}(ry:RelV y u):
    KV (kvs.map fun kv=>if kv.1=k then(kv.1,y) else kv) (vs.map fun kv=>if kv.1=k then(kv.1,u) else kv):=by
  unfold KV at r⊢
  induction r with
  |nil=>exact .nil
  | @cons p q ps qs h t ih =>
    rw[bL,bL]
    refine .cons ?_ ih
    obtain⟨h1,h2⟩:=h
    by_cases e:p.1=k
    · rw[if_pos e,if_pos (h1.symm.trans e)];exact⟨h1,ry⟩
    · rw[if_neg e,if_neg (fun z=>e (h1.trans z))];exact⟨h1,h2⟩
theorem KV.put{kvs:List (κ×V)}{vs:List (κ×Value)}(r:KV kvs vs)(k:κ){y:V}{u:Value}(ry:RelV y u):KV (putK kvs k y) (stored vs k u):=by
 unfold putK stored
 rw[r.any k]
 by_cases e:(vs.any fun kv=>decide (kv.1=k))=true
 ·rw[if_pos e,if_pos e];exact r.repl k ry
 ·rw[if_neg e,if_neg e];exact Paired.snoc r ⟨rfl,ry⟩
theorem KV.drop{kvs:List (κ×V)}{vs:List (κ×Value)}(r:KV kvs vs)(k:κ):KV (mE kvs k) (without vs k):=by
  unfold KV at r⊢
  unfold mE without
  induction r with
  |nil=>exact .nil
  | @cons p q ps qs h t ih =>
    obtain⟨h1,h2⟩:=h
    rw[mS,mS]
    by_cases e:p.1=k
    · have a:¬decide (p.1≠k)=true:=by simp[e]
      have b:¬decide (q.1≠k)=true:=by simp[h1.symm.trans e]
      rw[if_neg a,if_neg b];exact ih
    · have e':¬q.1=k:=fun z=>e (h1.trans z)
      have a:decide (p.1≠k)=true:=by simp[e]
      have b:decide (q.1≠k)=true:=by simp[e']
      rw[if_pos a,if_pos b];exact .cons ⟨h1,h2⟩ ih
theorem KV.keys{kvs:List (κ×V)}{vs:List (κ×Value)}(r:KV kvs vs):kvs.map (·.1)=vs.map (·.1):=by
 unfold KV at r
 induction r with
 |nil=>rfl
 |cons h t ih=>rw[bL,bL,ih,h.1]
theorem KV.length{kvs:List (κ×V)}{vs:List (κ×Value)}(r:KV kvs vs):kvs.length=vs.length:=Paired.length r
theorem MU(kvs:List (κ×V))(k:κ):(mE kvs k).length<=kvs.length:=nM _ _
end
theorem n6{P:Program}{w:World}{k:Key}{u:Value}(r:RelV (kV k) u):(gk P w).is k u=true:=by
 cases k with
 |inl i=>obtain⟨t,e⟩:=(show∃t,u=Value.int i t from r);subst e;exact ZC P w i t
 |inr x=>obtain⟨t,e⟩:=(show∃t,u=Value.str x t from r);subst e;exact aaU P w x t
theorem QJ{P:Program}{w:World}:∀{ks:List Key} {us:List Value},Vals (ks.map kV) us->ItemsAre (gk P w) ks us
  |[],_,r=>by rw[vE] at r;cases r;exact .nil
  | k :: ks, _, r => by
    rw[bL] at r
    cases r with
    |cons h t=>exact .cons (n6 h) (QJ t)
abbrev KT(H:Hp):List (List Key×V)->List (List Key×Addr×Value)->Prop:=Paired fun p q=>p.1=q.1/\H q.2.1=some (.tup (p.1.map kV))/\RelV p.2 q.2.2
theorem KT.val{H:Hp}{kvs:List (List Key×V)}{xs:List (List Key×Addr×Value)}(r:KT H kvs xs)(k:List Key):iY (gK kvs k) ((atKey xs k).map (·.2)):=by
  induction r with
  |nil=>exact True.intro
  | @cons p q ps qs h t ih =>
    obtain⟨h1,_,h2⟩:=h
    by_cases e:p.1=k
    · have e':q.1=k:=h1.symm.trans e
      have b:atKey (q::qs) k=some q.2:=by simp[atKey,nq,e']
      rw[wN e,b];exact h2
    · have e':¬q.1=k:=fun z=>e (h1.trans z)
      have b:atKey (q::qs) k=atKey qs k:=by simp[atKey,nq,e']
      rw[yv e,b];exact ih
section
variable{P:Program}{w:World}{H:Hp}{h:Heap}{a:Addr}
theorem M9{u:HO}(ok:dX P w H h)(e:Rd H a u):cF P w H h a u:=e.ok ok
theorem lW{kvs:List (Key×V)}(ok:dX P w H h)(e:Rd H a (.dK kvs)):kvs.length<=sizeLine/\(a==sysModules)=false/\∃vs,KV kvs vs/\h.DictOf (gk P w) a vs:=
 show cF P w H h a (.dK kvs) from M9 ok e
theorem zB{kvs:List (Key×V)}(ok:dX P w H h)(e:H a=some (.dK kvs)):kvs.length<=sizeLine/\(a==sysModules)=false/\∃vs,KV kvs vs/\h.DictOf (gk P w) a vs:=lW ok (.inl e)
theorem Dt{ks:List Key}(ok:dX P w H h)(e:H a=some (.tup (ks.map kV))):(tupleKind (gk P w)).is h ks a:=by
 obtain⟨_,its,r,o,h1,h2,n,h3⟩:=(show cF P w H h a (.tup (ks.map kV)) from ok a _ e)
 exact⟨o,its.toArray,n,h1,h2,h3,by simpa using QJ r⟩
theorem Js{kvs:List (List Key×V)}(ok:dX P w H h)(e:Rd H a (.dT kvs)):kvs.length<=sizeLine/\(a==sysModules)=false/\
    ∃xs,KT H kvs xs/\h.DictOfH (tupleKind (gk P w)) a xs:=by
  obtain⟨z,y,xs,r,o,es,ep,h1,h2,h3,h4,h5⟩:=(show cF P w H h a (.dT kvs) from M9 ok e)
  refine⟨z,y,xs,r,o,es,ep,h1,h2,h3,h4,fun x hx=>?_,h5⟩
  have all:∀{l:List (List Key×V)} {m:List (List Key×Addr×Value)},KT H l m->∀x∈m,(tupleKind (gk P w)).is h x.1 x.2.1:=by
    intro l m q
    induction q with
    |nil=>intro x hx;exact nomatch hx
    | @cons p q ps qs hq t ih =>
      intro x hx
      rcases aL.mp hx with e|hx
      · subst e
        exact Dt ok (by rw[<-hq.1];exact hq.2.1)
      · exact ih x hx
  exact all r x hx
end
def p7(H:Hp)(a:Addr)(y:V)(r:Option V):Prop:=
 (∃kvs k,Rd H a (.dK kvs)/\y=kV k/\r=gK kvs k)\/∃kvs k b,Rd H a (.dT kvs)/\y= .ref b/\H b=some (.tup (k.map kV))/\r=gK kvs k
theorem p7.k{H:Hp}{a:Addr}{kvs:List (Key×V)}{k:Key}(e:H a=some (.dK kvs)):p7 H a (kV k) (gK kvs k):= .inl ⟨kvs,k, .inl e,rfl,rfl⟩
section
variable{X:Cx}{pins:List (Addr×Obj)}{σ:St}{H:Hp}{s:Shared}{a:Addr}{y v:V}{u r:Value}{o:Option V}{A:Around}{E:Value->Shared->Prop}
theorem Inv.big(I:Inv X pins σ H s):sysModules<s.heap.objs.size:=by
 have h:mainGlobals<s.heap.objs.size:=(I.mod.glob.keeps I.bk).lt
 exact um (by decide) h
theorem TV{Q:Value->Shared->Prop}(hu:A.units+1<cLine)(I:Inv X pins σ H s)(g:p7 H a y o)(ry:RelV y u)(h:∀s',Inv X pins σ H s'->Q (.bool o.isSome) s'):
  wpAny (model X.prog X.w) A (compareOp .In u (.ref a)) Q E s:=by
 rcases g with ⟨kvs,k,e,ey,l⟩|⟨kvs,k,b,e,ey,eb,l⟩
 ·subst ey
  obtain⟨z,hd,vs,rel,dd⟩:=lW I.hok e
  refine wpAny_in_of (n6 ry) hd dd.mapOf ?_
  rw[<-(rel.val k).vG,<-l]
  exact h _ (I.tok _)
 ·subst ey
  cases (show u=Value.ref b from ry)
  obtain⟨z,hd,xs,rel,dd⟩:=Js I.hok e
  refine wpAny_in_heap (tupleKind_room_in1 hu) (Dt I.hok eb) hd dd ?_
  have q:=(rel.val k).vG
  rw[Bh] at q
  rw[<-q,<-l]
  exact h _ (I.tok _)
theorem ZO{Q:Value->Shared->Prop}(hu:A.units+1<cLine)(I:Inv X pins σ H s)(g:p7 H a y o)(ry:RelV y u)(h:∀s',Inv X pins σ H s'->Q (.bool (!o.isSome)) s'):
  wpAny (model X.prog X.w) A (compareOp .NotIn u (.ref a)) Q E s:=by
 rcases g with ⟨kvs,k,e,ey,l⟩|⟨kvs,k,b,e,ey,eb,l⟩
 ·subst ey
  obtain⟨z,hd,vs,rel,dd⟩:=lW I.hok e
  refine wpAny_notIn_of (n6 ry) hd dd.mapOf ?_
  rw[<-(rel.val k).vG,<-l]
  exact h _ (I.tok _)
 ·subst ey
  cases (show u=Value.ref b from ry)
  obtain⟨z,hd,xs,rel,dd⟩:=Js I.hok e
  refine wpAny_notIn_heap (tupleKind_room_in1 hu) (Dt I.hok eb) hd dd ?_
  have q:=(rel.val k).vG
  rw[Bh] at q
  rw[<-q,<-l]
  exact h _ (I.tok _)
theorem Et{h':Heap}{t':Nat}{ob:HO}(I:Inv X pins σ H s)(mu:uJ (H a))(hs:Heap.SameBut a s.heap h')(he:∃q,h'.get? a=some q)(new:cF X.prog X.w (upd H a ob) h' a ob):
  Inv X pins σ (upd H a ob) {s with heap:=h',toks:=t'}:=
 I.write (x:=a) (e:=a) mu (.inl rfl) (fun b q hb z=>(hs.2 b hb).trans z) he new
theorem GH{P:Program}{w:World}{H':Hp}{h':Heap}{kvs:List (Key×V)}{vs:List (Key×Value)}(z:kvs.length<=sizeLine)(hd:(a==sysModules)=false)(rel:KV kvs vs)(dd:h'.DictOf (gk P w) a vs):
  cF P w H' h' a (.dK kvs):=⟨z,hd,vs,rel,dd⟩
end
section
variable{X:Cx}{pins:List (Addr×Obj)}{σ:St}{H:Hp}{s:Shared}{a:Addr}{kvs:List (Key×V)}{k:Key}{u:Value}{A:Around}{E:Value->Shared->Prop}
theorem adn{Q:Unit->Shared->Prop}(I:Inv X pins σ H s)(e:H a=some (.dK kvs))(ry:RelV (kV k) u)(l:(gK kvs k).isSome=true)(h:∀s',Inv X pins σ (upd H a (.dK (mE kvs k))) s'->Q () s'):
  wpAny (model X.prog X.w) A (delItem (.ref a) u) Q E s:=by
 obtain⟨z,hd,vs,rel,dd⟩:=zB I.hok e
 refine wpAny_delItem_slot dd.typeIs (by decide) MX
  (call_meetsIn MX dd.typeIs PySem.F.entry_dict_delitem (PySem.F.args_dict_delitem_2 _ _) (meets_dict_delitem_pairs (gk X.prog X.w) a (n6 ry)) ⟨vs,dd,by rw[<-rel.length];exact z,by rw[<-(rel.val k).vG];exact l,fun h' nG hs=>h _ ?_⟩)
 have he:∃q,h'.get? a=some q:=let ⟨q,_,_,hq,_⟩:=nG;⟨q,hq⟩
 exact Et I (by rw[e];exact True.intro) hs he (GH (cG (MU kvs k) z) hd (rel.drop k) nG)
theorem SD{v:V}{more:List Value}{Q:Value->Shared->Prop}(I:Inv X pins σ H s)(e:H a=some (.dK kvs))(ry:RelV (kV k) u)(l:gK kvs k=some v)(hm:more=[]\/∃x,more=[x])
  (h:∀w' s',Inv X pins σ (upd H a (.dK (mE kvs k))) s'->RelV v w'->Q w' s'):wpAny (model X.prog X.w) A (call (.builtin "dict.pop") (.ref a::u::more)) Q E s:=by
 obtain⟨z,hd,vs,rel,dd⟩:=zB I.hok e
 obtain⟨w',hw,rw'⟩:=iY.some_of (v:=v) (o:=valueAt vs k) (by rw[<-l];exact rel.val k)
 have hp:(keyPart u).isSome=true:=by
  cases k with
  |inl i=>obtain⟨t,q⟩:=(show∃t,u=Value.int i t from ry);subst q;rfl
  |inr x=>obtain⟨t,q⟩:=(show∃t,u=Value.str x t from ry);subst q;rfl
 have ha:argsOk "dict.pop" ⟨.ref a::u::more,[]⟩:=by
  rcases hm with q|⟨x,q⟩
  ·subst q;exact PySem.F.args_dict_pop_2 _ _
  ·subst q;exact PySem.F.args_dict_pop_3 _ _ _
 refine call_meetsIn Cf dd.typeIs PySem.F.entry_dict_pop ha (meets_dict_pop_there (gk X.prog X.w) a (n6 ry) more hm hp)
  ⟨vs,w',dd,by rw[<-rel.length];exact z,hw,fun h' nG hs=>h w' _ ?_ rw'⟩
 have he:∃q,h'.get? a=some q:=let ⟨q,_,_,hq,_⟩:=nG;⟨q,hq⟩
 exact Et I (by rw[e];exact True.intro) hs he (GH (cG (MU kvs k) z) hd (rel.drop k) nG)
end
theorem Wb{P:Program}{w:World}{H:Hp}(h:Heap)(hb:sysModules<h.objs.size):cF P w H (h.push {cls:= .type "dict",data:= .dict #[]}) h.objs.size (.dK []):=
 ⟨g8 _,beq_eq_false_iff_ne.mpr (cX (eG hb)),[], .nil,Heap.DictOf.new h⟩
def tU:TE:=fun _ H Q=>∀p,H p=none->Q (.ref p) (upd H p (.dK []))
section
variable{X:Cx}{pos:Pos}
theorem qj:PE X (.Dict [] [] pos) tU:=fun pins s σ H Q I h=>
 wpAny_Dict_empty ⟨.ref s.heap.objs.size,_,I.laid (a:=s.heap.objs.size) (o:= .dK []) (t':=s.toks) (fun _ _ q=>cM _ q) (aU _) (Wb s.heap I.big),rfl,h _ (I.hok.fresh (aU _))⟩
end
end L2
/-THE LAST THEOREM (shape;LID,My.*are yours):
   My.Adr:a structure of the addresses that your layer names (classes,functions);My.Txt K t:a structure (Prop) of the equations over K;
   My.txt_mk:{K} {implicit addresses ..} (e1:nsIn K mainGlobals "law"=some (some (.ref f))) (e2:K.lookup f=some ⟨oc,od, .func (fnOf "law" "law" params body scope dV kV doc pm an cdv ct),sl⟩) (e3:codeIn K cdv "law"=true) .. :∃t,My.Txt K t
set_option maxRecDepth 100000 in
set_option maxHeartbeats 0 in
(the tactic k_is has no namespace:write k_is)-/
set_option maxRecDepth 100000
set_option maxHeartbeats 4000000
namespace L2
open PySem PySem.Spec PyProof.Rows
section
variable{prog:Program}{w:World}{A:Around}{E:Value->Shared->Prop}{s:Shared}
theorem aaW{T:String}{r d:Addr}{n:Nat}{P:Nat->Value->Prop}{OK:Heap->Prop}{Q:List Value->Shared->Prop}(K:PySem.W.KdlSrc prog w T r d n P OK)(hh:A.handled=none)(hok:OK s.heap)(hn:n<=sizeLine)
  (hQ:∀h' tk' items,(∀b o,s.heap.get? b=some o->h'.get? b=some o)->s.heap.objs.size<=h'.objs.size->items.length=n->(∀(i:Nat) v,items[i]?=some v->P i v)->Q items {s with heap:=h',toks:=tk'}):wpAny (model prog w) A (collect (.ref r)) Q E s:=by
 obtain⟨lr,ld⟩:=K.there _ hok
 unfold collect
 refine wpAny_bind (wpAny_runValue (codeAny_builtin HJ ?_))
 rw[oS O6 _]
 show wpAny _ A.in1 (newList []>>=fun l=>again (.builtin "list.__iadd__" ⟨[l, .ref r],[]⟩)) _ _ s
 refine wpAny_bind (wpAny_newObj_type ?_)
 refine wpAny_pure ⟨plainId_quiet AG _,codeAny_builtin MI ?_⟩
 rw[oS AG _]
 have gL:(s.heap.push ({cls:= .type "list",data:= .seq ([]:List Value).toArray}:Obj)).get? s.heap.objs.size=some {cls:= .type "list",data:= .seq ([]:List Value).toArray}:=gh _ rfl
 show wpAny _ A.in1 (Builtin.List.listExtendWith (.ref s.heap.objs.size) (.ref r) (.ref s.heap.objs.size)) _ _ {s with heap:=s.heap.push ({cls:= .type "list",data:= .seq ([]:List Value).toArray}:Obj)}
 refine PySem.W.kdl_extend (A:=A) (R:=fun r s'=>match r with
    | .ok (.ret v)=>wpAny (model prog w) A (match v with| .ref x=>(do match(<-load x).data with| .seq xs _=>pure xs.toList|_=>unsupported "internal:collect")|_=>unsupported "internal:collect") Q E s'
    | .ok _=>False
    | .error e=>E e s') (s:={s with heap:=s.heap.push ({cls:= .type "list",data:= .seq ([]:List Value).toArray}:Obj)}) K hh (K.keep _ _ hok fun b _ o e=>cM _ e) s.heap.objs.size (rN lr) (rN ld) _ _ gL (fun h' tk acc' c' hk hS hacc=>?_) hn
 refine wpAny_bind (wpAny_load hS (wpAny_pure ?_))
 refine hQ h' tk acc'.toList (fun b o e=>hk b o (eG (cz e)) (cM _ e)) (j5 (cz hS)) (by rw[jW];exact hacc.1) fun i v e=>hacc.2 i v (by rw[<-mD];exact e)
theorem Va{a:Addr}{vs:List (Key×Value)}{ms:List Int}{Q:Value->Shared->Prop}(hh:A.handled=none)(lo:(a==sysModules)=false)(hd:s.heap.DictOf (gk prog w) a vs)(hk:vs.map (·.1)=ms.map Sum.inl)(h64:ms.length<64)
    (h:∀h' tk' (l:Addr) (out:List Value) (ns:List Int) (e:Nat),(∀b o,s.heap.get? b=some o->h'.get? b=some o)->s.heap.objs.size<=l->h'.get? l=some (seqObj "list" out.toArray e)->IntsAre out ns->ns.Pairwise (· <= ·)->ns.Perm ms->
      Q (.ref l) {s with heap:=h',toks:=tk'}):wpAny (model prog w) A (call (.builtin "sorted") [.ref a]) Q E s:=by
  obtain⟨ep,hat⟩:=hd.dictAt
  have hvl:vs.length=ms.length:=by have:=congrArg List.length hk;simpa using this
  refine Ex kind_sorted plain_sorted entry_sorted (args_sorted1 _) ?_
  unfold Builtin.«sorted»
  refine wpAny_bind (m:=checkCount "sorted" 1 1 _) (wpAny_pure (wpAny_bind ?_))
  refine aaW (A:=A.in1) (PySem.W.kdl_dict lo) hh hat (by rw[hvl];exact cG (j5 h64) (by decide)) fun h1 FT items k1 k2 hil hit=>?_
  have hI:IntsAre items ms:=by
    have key:∀(its:List Value) (us:List (Key×Value)) (ms:List Int),us.map (·.1)=ms.map Sum.inl->its.length=us.length->(∀(i:Nat) v,its[i]?=some v->∃k x,us[i]?=some (k,x)/\(gk prog w).is k v=true)->IntsAre its ms:=by
      intro its
      induction its with
      | nil =>
        intro us ms e l _
        cases us with
        | nil => cases ms with
          |nil=>exact .nil
          |cons _ _=>cases e
        |cons _ _=>cases l
      | cons v its ih =>
        intro us ms e l hp
        cases us with
        |nil=>cases l
        | cons u us => cases ms with
          |nil=>cases e
          | cons m ms =>
            have e1:u.1=Sum.inl m:=by injection e
            have e2:us.map (·.1)=ms.map Sum.inl:=by injection e
            obtain⟨k,x,q1,q2⟩:=hp 0 v rfl
            have q1:u=(k,x):=by simpa using q1
            subst q1
            have e1:k=Sum.inl m:=e1
            subst e1
            obtain⟨t,rfl⟩:=rY (k:=m) (v:=v) q2
            exact .cons m t (ih us ms e2 (by simpa using l) fun i v q=>by simpa using hp (i+1) v (by simpa using q))
    exact key items vs ms hk hil hit
  have hlen:items.length=ms.length:=by rw[hil,hvl]
  refine wpAny_bind (wpAny_newList ?_)
  have gL:(h1.push (seqObj "list" items.toArray 0)).get? h1.objs.size=some (seqObj "list" items.toArray 0):=gh _ rfl
  refine wpAny_bind (wpAny_holding (wpAny_call_entry slot_list_sort ⟨_,gL,rfl⟩ entry_list_sort (list_sort_tree gL hI (by omega) fun out ns' a1 a2 a3=>⟨_,rfl,?_⟩) (args_list_sort _)))
  obtain⟨e,he⟩:=sortedHeap_at (out:=out) gL
  refine wpAny_pure ⟨_,rfl,h _ FT h1.objs.size out.toList ns' e (fun b o q=>?_) k2 (by simpa using he) a1 a3 a2⟩
  have lb:=cz (k1 b o q)
  rw[sortedHeap_old (eG lb) (by rw[lR];exact qp lb)]
  exact cM _ (k1 b o q)
end
def AB:List V->Hp->VK->Prop:=fun xs H Q=>∃a,∃kvs:List (Key×V),∃ms:List Int,xs=[.ref a]/\Rd H a (.dK kvs)/\kvs.map (·.1)=ms.map Sum.inl/\ms.length<64/\
 ∀l (rs:List Int),H l=none->rs.Pairwise (· <= ·)->rs.Perm ms->Q (.ref l) (upd H l (.lst (rs.map V.int)))
theorem QA{X:Cx}(hc:X.calm=true):gn X (.builtin "sorted") AB:=by
 intro pins s σ H xs us Q I rv h
 obtain⟨a,kvs,ms,rfl,hH,hk,h64,q⟩:=h
 obtain⟨u,rfl,ru⟩:=vals1 rv
 cases ru
 obtain⟨z,hd,vs,rel,dd⟩:=lW I.hok hH
 refine Va (I.ok.hd hc) hd dd (by rw[<-rel.keys];exact hk) h64 fun h' tk' l out ns e kp hl gl hI pw pp=>?_
 have new:cF X.prog X.w (upd H l (.lst (ns.map V.int))) h' l (.lst (ns.map V.int)):=by
  refine⟨?_,out,e,ud hI,gl⟩
  rw[ao,pp.length_eq];exact cG (j5 h64) (by decide)
 exact⟨.ref l,_,I.laid (t':=tk') kp hl new,rfl,q _ _ (I.hok.fresh hl) pw pp⟩
section
variable{X:Cx}
def jb:R2:=fun x y H Q=>∃a kvs k v,x= .ref a/\y=kV k/\Rd H a (.dK kvs)/\gK kvs k=some v/\Q v H
theorem lu:mz X jb:=by
 intro value slice pins s σ H x y v u Q I rx ry h hs
 obtain⟨a,kvs,k,z,rfl,rfl,hH,hv,q⟩:=h
 cases rx
 obtain⟨hz,hd,vs,rel,dd⟩:=lW I.hok hH
 have hT:=dd.typeIs (s:=s)
 obtain⟨w',hw,rw'⟩:=iY.some_of (v:=z) (o:=valueAt vs k) (by rw[<-hv];exact rel.val k)
 unfold subscriptTail
 refine wpAny_bind ?_
 rw[getitemInPython_of_ne hT.not_modules]
 refine wpAny_bind (wpAny_specialOf hT PySem.F.slot_dict_getitem.lookup ?_)
 have fin:wpAny (model X.prog X.w) X.A (subscripted slice false (.ref a) u) (fun r s₃=>wpAny (model X.prog X.w) X.A (letTemporaryGo value (.ref a) r>>=fun _=>pure r) (EP X pins σ Q) X.xe s₃) X.xe s:=by
  rw[hs]
  refine wpAny_operating (wpAny_getItem_of (n6 ry) dd.mapOf hw ?_)
  exact wpAny_bind (wpAny_letTemporaryGo (wpAny_pure ⟨z,H,I.tok _,rw',q⟩))
 first
  |exact wpAny_pure (wpAny_bind fin)
  |exact wpAny_bind (wpAny_pure (wpAny_bind fin))
  |exact wpAny_bind fin
def yU:V->V->V->Hp->(Hp->Prop)->Prop:=fun o i v H Q=>∃a kvs k,o= .ref a/\i=kV k/\H a=some (.dK kvs)/\kvs.length<sizeLine/\Q (upd H a (.dK (putK kvs k v)))
theorem set_dict:w9 X yU:=by
 intro pins s σ H o i v ov iv u Q I ro ri rv h
 obtain⟨a,kvs,k,rfl,rfl,hH,hl0,q⟩:=h
 cases ro
 obtain⟨z,hd,vs,rel,dd⟩:=zB I.hok hH
 have hz:vs.length<=sizeLine:=by rw[<-rel.length];exact z
 have hl:(putK kvs k v).length<=sizeLine:=by have:=Q0 kvs k v;omega
 refine wpAny_setItem_pairs (hsz:=hz) (n6 ri) dd fun h' nG hs=>?_
 have he:∃q,h'.get? a=some q:=let ⟨q,_,_,hq,_⟩:=nG;⟨q,hq⟩
 exact⟨_,Et I (by rw[hH];exact True.intro) hs he (GH hl hd (rel.put k rv) nG),q⟩
end
end L2
set_option maxRecDepth 100000
set_option maxHeartbeats 4000000
set_option maxRecDepth 100000
set_option maxHeartbeats 4000000
namespace L2
abbrev Cn:=List (Int×Int)
structure Qq(cs:Cn):Prop where
 nT:∀c∈cs,0<=c.1/\c.1<=12/\0<=c.2/\c.2<=10^7
 nd:(cs.map (·.1)).Nodup
 len:cs.length<=14
 pos:∃c∈cs,0<c.1/\0<c.2
def Lq:Cn->Rat->Rat
 |[],_=>0
 |c::r,v=>(if 0<c.1 then((c.1*c.2:Int):Rat)*v^(c.1.toNat-1) else 0)+Lq r v
def OM:Cn->Int
 |[]=>0
 |c::r=>c.1*c.2+OM r
def P8(cs:Cn)(v:Rat):Rat:=Lq cs v/(OM cs:Int)
def Up(l c:Cn)(s v:Rat):Rat:=s*P8 l (1-P8 c (1-v))
section
variable{l c:Cn}{s:Rat}(hl:Qq l)(hc:Qq c)(s0:0<=s)
include hl hc s0
end
def Ma(x:Rat):Int:= -((-x).floor)
end L2
namespace L2
structure Gw where
 l:Cn
 c:Cn
 s:Rat
 u:Int
def Gw.gr(g:Gw)(x:Int):Rat:=Up g.l g.c g.s ((x:Rat)/g.u)*g.u
def Gw.lo(g:Gw):Nat->Int
 |0=>(g.s*g.u).floor
 |k+1=>(g.gr (g.lo k)).floor
def Gw.hi(g:Gw):Nat->Int
 |0=>Ma (g.s*g.u)
 |k+1=>Ma (g.gr (g.hi k))
end L2
set_option maxRecDepth 100000
set_option maxHeartbeats 4000000
namespace L2
open PySem PySem.Spec PyProof.Rows
@[reducible] def bdD(g:Gw)(k:Nat):PyData:= .tuple [.int (g.lo k), .int (g.hi k)]
@[reducible] def ac6(n:Nat):PyData:= .tuple [.str "falls", .int n]
@[reducible] def ac2(x:Int):PyData:= .tuple [.str "stays", .int x]
@[reducible] def ade:PyData:= .tuple [.str "open"]
def U7(K:PySem.W.Frag)(n:Nat)(t:jv):TG:=fun v σ H Q=>∃a xs,v= .ref a/\bh K H a xs/\xs.length=n/\t xs σ H Q
theorem Gv.lst{G:Gx}{ρ:Rh}{f:Bool}{ds:List PyData}{K:PySem.W.Frag}{Θ:Rh->Prop}{n:Nat}{u:jv}(hl:ds.length=n)(h:nD G ρ u f ds Θ):Gv G ρ (U7 K n u) f (.list ds) Θ:=fun nb σ H v Q W hv z=>by
 obtain⟨a,xs,rfl,m,hx,hd⟩:=hv.gy
 exact⟨a,xs,rfl, .of hx,by rw[hd.length];exact hl,h nb σ H xs Q W hd z⟩
end L2
set_option maxRecDepth 100000
set_option maxHeartbeats 4000000
namespace L2
open PySem PySem.Spec PyProof.Rows PySem.W
section
variable{n:Nat}{cmp:Nat->Nat->(Bool->Shared->Prop)->Shared->Prop}{s:Shared}
variable(h0:0<n)(hc:∀i j C,i<n->j<n->(∀b,C b s)->cmp i j C s)
include h0 hc
end
theorem aE.Si{G:Gx}{ρ:Rh}{te tb:TE}{Θ:Bool->List PyData->Prop}(h:Ev G ρ te fun f d=>Ev G ρ tb fun _ y=>∃k,y= .int k/\k<=10000/\ -(10000)<=k/\∀g,Θ g (List.replicate k.toNat d)):aE G ρ (cP ER (mw (aX te bE)) tb) Θ:=fun nb σ H Q W z=>
 h nb σ H _ W fun f v H1 d' q s1 hv=>by
  refine⟨by show 1<=sizeLine;decide,fun p hp=>?_⟩
  have W1:=W.step s1
  have s2:Step G.B H1 (upd H1 p (.lst [v])):= .same W1.au (dD hp)
  refine q nb σ _ _ (W1.step s2) fun g u H2 d2 ⟨k,e2,h1,h2,p2⟩ s3 hu=>?_
  subst e2
  have hN:NB G.B p:=fun b l e z=>by
   subst z
   exact NB.kB (B:=G.B) (a:=p) s1.2 (fun z=>z _ _ e rfl) hp
  refine⟨p,k,[v],rfl,hu.bD,s3.1 _ _ hN aQ,by omega,by omega,?_,fun a ha=>?_⟩
  ·show 1*k.toNat<=sizeLine
   exact cG (show 1*k.toNat<=10000 by omega) (by decide)
  ·have hv2:=(hv.keep s2.dz).keep s3.dz
   have hd:ah (G.S nb f) H2 (List.replicate k.toNat d') (List.replicate k.toNat [v]).flatten:=by
    induction k.toNat with
    |zero=>exact .nil
    |succ m ih=>rw[mU,mU,rm];exact .cons hv2 ih
   exact aE.fin (f:=f) W (s1.trans (s2.trans s3)) ha hd (p2 _) z
end L2
set_option maxRecDepth 100000
set_option maxHeartbeats 4000000
namespace L2
open PySem PySem.Spec PyProof.Rows PySem.W
section
variable{n:Nat}{key:Nat->Int}{cmp:Nat->Nat->(Bool->Shared->Prop)->Shared->Prop}{s:Shared}
variable(h0:0<n)(hc:∀i j C,i<n->j<n->C (decide (key i<key j)) s->cmp i j C s)
include h0 hc
end
end L2
set_option maxRecDepth 100000
set_option maxHeartbeats 4000000
set_option maxRecDepth 100000
set_option maxHeartbeats 4000000
namespace L2
open PySem PySem.Spec PyProof.Rows
@[reducible] def ada(l c:Cn)(u p:Int):Gw:=⟨l,c,(p:Rat)/u,u⟩
end L2
set_option maxRecDepth 100000
set_option maxHeartbeats 4000000
namespace L2
open PySem PySem.Spec PyProof.Rows
theorem Ev.lend{G:Gx}{ρ:Rh}{te:TE}{Φ:Pd}{a:Addr}{f:Bool}{ds:List PyData}(i:Nat)(e:ρ[i]?=some (.own a f ds))(h:Ev G (ρ.set i (.d f (.list ds))) te fun _ d=>i6 d=true/\Φ true d):Ev G ρ te Φ:=fun nb σ H Q W z=>
 h _ σ H Q (Sv.share W e) fun f v H' d ⟨hs,p⟩ st hv=>z true v H' d p st (hv.jw hs)
theorem Tv.lend{G:Gx}{ρ:Rh}{t:TT}{Θ:Bool->Prop}{a:Addr}{f:Bool}{ds:List PyData}(i:Nat)(e:ρ[i]?=some (.own a f ds))(h:Tv G (ρ.set i (.d f (.list ds))) t Θ):Tv G ρ t Θ:=fun nb σ H Q W z=>
 h _ σ H Q (Sv.share W e) z
end L2
set_option maxRecDepth 100000
set_option maxHeartbeats 4000000
set_option maxRecDepth 100000
set_option maxHeartbeats 4000000
set_option maxRecDepth 100000
set_option maxHeartbeats 4000000
namespace L2
open PySem PySem.Spec PyProof.Rows
abbrev Ks:=List (Int×PyData)
def bZ(ks:Ks)(k:Int):Option PyData:=(ks.find? fun p=>decide (p.1=k)).map (·.2)
def cT(ks:Ks)(k:Int):Bool:=ks.any fun p=>decide (p.1=k)
def eX(ks:Ks)(k:Int)(d:PyData):Ks:=if cT ks k then ks.map fun p=>if p.1=k then(p.1,d) else p else ks++[(k,d)]
def i7(ks:Ks)(k:Int):Ks:=ks.filter fun p=>decide (p.1≠k)
theorem mh(ks:Ks)(k:Int):(bZ ks k).isSome=cT ks k:=by
  unfold bZ cT
  rw[Bh]
  induction ks with
  |nil=>rfl
  | cons p r ih =>
    rw[nq,kZ]
    by_cases h:p.1=k
    · simp[h]
    · simp only[h,decide_false,se];exact ih
theorem lg{ks:Ks}{k:Int}:cT ks k=true↔k∈ks.map (·.1):=by
 unfold cT
 rw[pO,c9]
 constructor
 ·rintro⟨p,h1,h2⟩;exact⟨p,h1,by simpa using h2⟩
 ·rintro⟨p,h1,h2⟩;exact⟨p,h1,by simpa using h2⟩
theorem Za{k:Int}:bZ [] k=none:=rfl
theorem p6{p:Int×PyData}{r:Ks}{k:Int}:bZ (p::r) k=if p.1=k then some p.2 else bZ r k:=by
 unfold bZ
 rw[nq]
 by_cases h:p.1=k<;>simp[h]
theorem RK{ks:Ks}{k j:Int}{d:PyData}:bZ (ks.map fun p=>if p.1=k then(p.1,d) else p) j=if j=k then(if cT ks k=true then some d else none) else bZ ks j:=by
  induction ks with
  |nil=>simp[bZ,cT]
  | cons p r ih =>
    rw[bL,p6,ih,p6]
    unfold cT
    rw[kZ]
    by_cases h1:p.1=k<;>by_cases h2:j=k<;>by_cases h3:p.1=j<;>simp_all [cT]<;>rw[decide_eq_false (by assumption)]<;>rfl
theorem DJ{ks:Ks}{k j:Int}{d:PyData}:bZ (ks++[(k,d)]) j=match bZ ks j with|some x=>some x|none=>if j=k then some d else none:=by
  induction ks with
  | nil =>
    rw[List.nil_append,p6,Za]
    by_cases h:k=j
    · subst h;simp
    · have h':¬j=k:=fun z=>h z.symm
      simp[h,h']
  | cons p r ih =>
    rw[kI,p6,p6,ih]
    by_cases h:p.1=j<;>simp[h]
theorem U6{ks:Ks}{k j:Int}{d:PyData}:bZ (eX ks k d) j=if j=k then some d else bZ ks j:=by
 unfold eX
 split
 ·rename_i h
  rw[RK,h];simp
 ·rename_i h
  rw[DJ]
  by_cases e:j=k
  ·subst e
   have:bZ ks j=none:=by
    have:=mh ks j
    cases hv:bZ ks j with
    |none=>rfl
    |some x=>rw[hv] at this;exact absurd this.symm h
   simp[this]
  ·cases bZ ks j<;>simp[e]
section
variable{S:Addr->Prop}{H:Hp}
theorem aq.val:∀{ks:Ks} {ps:List (Key×V)} (k:Int),aq S H (ks.map aG) ps->match bZ ks k with|some d=>∃v,gK ps (Sum.inl k)=some v/\af S H d v|none=>gK ps (Sum.inl k)=none
  |[],ps,k,h=>by unfold aq at h;subst h;exact Ut
  | p :: r, ps, k, h => by
    rw[bL] at h
    unfold aq at h
    obtain⟨q,qs,rfl,h1,h2⟩:=h
    unfold c6 at h1
    obtain⟨h3,h4⟩:=h1
    have h3:q.1=Sum.inl p.1:=h3
    rw[p6]
    have ih:=aq.val k h2
    by_cases e:p.1=k
    · rw[if_pos e]
      refine⟨q.2,?_,h4⟩
      rw[wN (by rw[h3,e])]
    · rw[if_neg e,yv (fun z=>e (by rw[h3] at z;exact GX z))]
      exact ih
theorem aq.snoc:∀{ks:Ks} {ps:List (Key×V)} {k:Int} {d:PyData} {v:V},aq S H (ks.map aG) ps->af S H d v->aq S H ((ks++[(k,d)]).map aG) (ps++[(Sum.inl k,v)])
  | [], ps, k, d, v, h, hd => by
    unfold aq at h;subst h
    show aq S H [aG (k,d)] [(Sum.inl k,v)]
    unfold aq
    exact⟨_,_,rfl,by unfold c6;exact⟨rfl,hd⟩,by unfold aq;rfl⟩
  | p :: r, ps, k, d, v, h, hd => by
    rw[bL] at h
    unfold aq at h
    obtain⟨q,qs,rfl,h1,h2⟩:=h
    rw[kI,bL,kI]
    unfold aq
    exact⟨q,_,rfl,h1,aq.snoc h2 hd⟩
theorem aq.repl:∀{ks:Ks} {ps:List (Key×V)} {k:Int} {d:PyData} {v:V},aq S H (ks.map aG) ps->af S H d v->aq S H ((ks.map fun p=>if p.1=k then(p.1,d) else p).map aG) (ps.map fun kv=>if kv.1=Sum.inl k then(kv.1,v) else kv)
  |[],ps,k,d,v,h,hd=>by unfold aq at h;subst h;simp only[vE];unfold aq;rfl
  | p :: r, ps, k, d, v, h, hd => by
    rw[bL] at h
    unfold aq at h
    obtain⟨q,qs,rfl,h1,h2⟩:=h
    rw[bL,bL,bL]
    unfold c6 at h1
    obtain⟨h3,h4⟩:=h1
    have h3:q.1=Sum.inl p.1:=h3
    unfold aq
    refine⟨_,_,rfl,?_,aq.repl h2 hd⟩
    by_cases e:p.1=k
    · rw[if_pos e,if_pos (by rw[h3,e])]
      unfold c6
      exact⟨h3,hd⟩
    · rw[if_neg e,if_neg (fun z=>e (by rw[h3] at z;exact GX z))]
      unfold c6
      exact⟨h3,h4⟩
theorem aq.any:∀{ks:Ks} {ps:List (Key×V)} (k:Int),aq S H (ks.map aG) ps->(ps.any fun kv=>decide (kv.1=Sum.inl k))=cT ks k:=fun{ks ps} k h=>by
 rw[zd,<-mh]
 have:=aq.val k h
 cases hv:bZ ks k with
 |none=>rw[hv] at this;rw[this];rfl
 |some d=>rw[hv] at this;obtain⟨v,e,_⟩:=this;rw[e];rfl
theorem aq.put{ks:Ks}{ps:List (Key×V)}{k:Int}{d:PyData}{v:V}(h:aq S H (ks.map aG) ps)(hd:af S H d v):aq S H ((eX ks k d).map aG) (putK ps (Sum.inl k) v):=by
 unfold eX putK
 rw[aq.any k h]
 split
 ·exact aq.repl h hd
 ·exact aq.snoc h hd
theorem aq.len:∀{ks:Ks} {ps:List (Key×V)},aq S H (ks.map aG) ps->ps.length=ks.length
  |[],ps,h=>by unfold aq at h;subst h;rfl
  | p :: r, ps, h => by
    rw[bL] at h
    unfold aq at h
    obtain⟨q,qs,rfl,_,h2⟩:=h
    simp[aq.len h2]
theorem aq.keys:∀{ks:Ks} {ps:List (Key×V)},aq S H (ks.map aG) ps->ps.map (·.1)=(ks.map (·.1)).map Sum.inl
  |[],ps,h=>by unfold aq at h;subst h;rfl
  | p :: r, ps, h => by
    rw[bL] at h
    unfold aq at h
    obtain⟨q,qs,rfl,h1,h2⟩:=h
    unfold c6 at h1
    have h3:q.1=Sum.inl p.1:=h1.1
    simp[aq.keys h2,h3]
end
def ly(G:Gx)(ρ:Rh)(te:TE)(Φ:Bool->Ks->Prop):Prop:=∀nb σ H (Q:VK),Wd G nb ρ σ H->
 (∀f a ps H' ks,Φ f ks->Step G.B H H'->H a=none->H' a=some (.dK ps)->aq (fun x=>G.S nb f x\/x=a) H' (ks.map aG) ps->Q (.ref a) H')->te σ H Q
section
variable{G:Gx}{ρ cH:Rh}{Φ Ψ:Pd}{ta tb te:TE}{t:TA}{i:Nat}{f g:Bool}{d e:PyData}{ks:Ks}{K:PySem.W.Frag}{E:DE}{Θ:Bool->Ks->Prop}
theorem Wd.grow{nb:Addr->Prop}{σ:St}{H H1:Hp}{a:Addr}{o:HO}(W:Wd G nb ρ σ H)(s1:Step G.B H H1)(ha:H a=none)(e:H1 a=some o):Wd G (fun x=>nb x\/x=a) ρ σ H1/\NB G.B a/\∀f x,G.S (fun x=>nb x\/x=a) f x->(G.S nb f x\/x=a):=by
  have hN:NB G.B a:=NB.new W.au ha
  have hA:∀f x,G.S (fun x=>nb x\/x=a) f x->(G.S nb f x\/x=a):=fun f x z=>by
    rcases z with (z|z)|z|z|z
    · exact .inl (.inl z)
    · exact .inr z
    · exact .inl (.inr (.inl z))
    · exact .inl (.inr (.inr (.inl z)))
    · exact .inl (.inr (.inr (.inr z)))
  have W1:=W.step s1
  refine⟨?_,hN,hA⟩
  refine⟨W1.au,fun x n=>?_,W1.old,fun x n q=>?_,W.gA,W.len,W.gB,fun h m=>(((W.eE h m).fresh ha).keep (s1.but fun x z=> .inl (.inr (.inr (.inl z))))).av (hA h.1),fun j s e'=>?_,W.apart,W.fM,W.dU⟩
  · rcases n with n|n
    · exact W1.live x n
    · subst n;rw[e];exact eO _
  · rcases n with n|n
    · exact W.cY x n q
    · subst n
      cases z:G.H0 x with
      |none=>rfl
      |some o=>rw[W.old x o q z] at ha;cases ha
  · obtain⟨x,e1,h⟩:=W.ok j s e'
    refine⟨x,e1,?_⟩
    cases s with
    |no=>trivial
    |d f d=>obtain⟨v,e,h⟩:=h;exact⟨v,e,((h.fresh ha).keep (s1.but fun x z=> .inl (.inr (.inr (.inl z))))).av (hA f)⟩
    |own c f es=>obtain⟨e,n,q,xs,hx,hd⟩:=h;exact⟨e, .inl n,q,xs,s1.1 _ _ q hx,((hd.fresh ha).keep (s1.but fun x z=> .inl (.inr (.inr (.inl z))))).av (hA f)⟩
    |au=>exact h
    |raw v=>exact h
    |bN c f es=>obtain⟨e,n,q,xs,hx,hd⟩:=h;exact⟨e, .inl n,q,xs,s1.1 _ _ q hx,((hd.fresh ha).keep (s1.but fun x z=> .inl (.inr (.inr (.inl z))))).av (hA f)⟩
    | cu c =>
      obtain⟨e,n,q⟩:=h
      refine⟨e,fun a ha=>⟨.inl (n a ha).1,(n a ha).2⟩,c.av (hA c.f) (c.keep (.of fun x o hx e=>s1.1 x o ?_ e) (c.fresh ha q))⟩
      rcases hx with hx|hx
      · exact jJ fun z=>hx (.inl (.inr (.inr (.inl z))))
      · exact(n x hx).2
theorem Z4{nb:Addr->Prop}{σ:St}{H H1:Hp}{a:Addr}{ps:List (Key×V)}(W:Wd G nb ρ σ H)(s1:Step G.B H H1)(ha:H a=none)(e:H1 a=some (.dK ps))(hd:aq (fun x=>G.S nb f x\/x=a) H1 (ks.map aG) ps):
  Wd G (fun x=>nb x\/x=a) (ρ.set i (.bN a f ks)) (σ.set i (some (.ref a))) H1:=by
 obtain⟨W2,hN,hA⟩:=W.grow s1 ha e
 refine W2.set ⟨rfl, .inr rfl,hN,ps,e,hd.av (hA f)⟩ (fun _ _ _ z=>by cases z) ?_ (fun x hx j t hj ht hc=>?_)
 rotate_left
 ·have hx:x=a:=aK.mp hx
  subst hx
  rcases hc with ⟨c,z⟩|⟨c,rfl⟩
  ·cases z
  ·exact fun z=>W.live x ((W.ok j _ ht).choose_spec.2.2.1 x z).1 ha
 rintro a' f' ds' ⟨rfl,rfl,rfl⟩ j c g cs hj hc z
 subst z
 obtain⟨x,e1,h1,h2,h3,ys,hy,_⟩:=W.ok j _ hc
 rw[hy] at ha;cases ha
theorem Sv.OT(h:ly G ρ te fun f ks=>∀a,E.nx (ρ.set i (.bN a f ks))):Sv G ρ (fZ te (iK i)) E:=fun nb σ H D W K=>h nb σ H _ W fun f a ps H1 ks q s1 ha e hd=>K.nx _ _ _ H1 (q a) (Z4 W s1 ha e hd)
theorem ly.new(h:Θ true []):ly G ρ tU Θ:=fun nb σ H Q W z p hp=>z true p [] _ [] h (.same W.au (dD hp)) hp aQ (by unfold aq;rfl)
@[reducible] def itD(p:Int×PyData):PyData:= .tuple [.int p.1,p.2]
theorem UL{nb:Addr->Prop}{σ:St}{H:Hp}{a:Addr}{ps:List (Key×V)}{ks':Ks}(W:Wd G nb ρ σ H)(e:ρ[i]?=some (.bN a f ks))(hd:aq (G.S nb g) H (ks'.map aG) ps):Wd G nb (ρ.set i (.bN a g ks')) σ (upd H a (.dK ps)):=by
 obtain⟨x,e1,h1,h2,h3,ys,hy,_⟩:=W.ok i _ e
 subst h1
 have hil:i<ρ.length:=(bT.mp e).1
 have W0:Wd G nb (ρ.set i .no) (σ.set i (some (.ref a))) H:=W.set trivial fun _ _ _ z=>by cases z
 have W1:Wd G nb (ρ.set i .no) (σ.set i (some (.ref a))) (upd H a (.dK ps)):=W0.write h2 h3 (fun j c f' cs hc z=>by
   subst z
   have hij:i≠j:=fun z=>by subst z;rw[cU hil] at hc;cases hc
   rw[bO hij] at hc
   obtain⟨_,_,_,_,_,ps,hp,_⟩:=W.ok j _ hc
   rw[hy] at hp;cases hp) (fun j c f' cs hc=>by
   by_cases hij:i=j
   ·subst hij;rw[cU hil] at hc;cases hc
   ·rw[bO hij] at hc
    exact(W.fM i j _ _ _ _ _ _ hij e hc).symm) (fun j c hc z=>by
   have hij:i≠j:=fun z=>by subst z;rw[cU hil] at hc;cases hc
   rw[bO hij] at hc
   exact W.dU j i c _ (cX hij) hc e a z (aK.mpr rfl))
 have W2:=W1.set (i:=i) (s:= .bN a g ks') (x:=some (.ref a)) ⟨rfl,h2,h3,ps,aQ,hd.keep (aZ.set (.inl h2))⟩ (fun _ _ _ z=>by cases z) (by
  rintro a' f' ds' ⟨rfl,rfl,rfl⟩ j c g' cs hj hc
  rw[bO (cX hj)] at hc
  exact W.fM i j _ _ _ _ _ _ (cX hj) e hc) (fun x hx j t hj ht hc z=>by
  rw[bO (cX hj)] at ht
  have hx:x=a:=aK.mp hx
  subst hx
  rcases hc with ⟨c,q⟩|⟨c,rfl⟩
  ·cases q
  ·exact W.dU j i c _ hj ht e x z (aK.mpr rfl))
 rw[lV,lV] at W2
 have:σ.set i (some (.ref a))=σ:=by
  apply ja
  intro j
  by_cases hij:i=j
  ·subst hij;rw[cU (by rw[W.len];exact hil),e1]
  ·rw[bO hij]
 rwa[this] at W2
theorem Sv.OG{a:Addr}(e:ρ[i]?=some (.bN a f ks))(h:Ev G ρ te fun g d=>Ev G ρ tb fun _ y=>∃k,y= .int k/\ks.length<10000/\E.nx (ρ.set i (.bN a (f && g) (eX ks k d)))):Sv G ρ (fZ te (mJ (bf i) tb yU)) E:=fun nb σ H D W KK=>
 h nb σ H _ W fun g v H1 d q s1 hv=>by
  obtain⟨x,e1,h1,h2,h3,ps,hp,hd⟩:=(W.step s1).ok i _ e
  subst h1
  refine⟨.ref a,e1,q nb σ H1 _ (W.step s1) fun g' u H2 y ⟨k,ey,hl,p⟩ s2 hu=>?_⟩
  subst ey
  have W2:=(W.step s1).step s2
  have hlen:=hd.len
  refine⟨a,ps, .inl k,rfl,hu.bD,s2.1 _ _ h3 hp,fB (by rw[hlen];exact hl) (by decide),KK.nx nb _ _ _ p (UL W2 e ?_)⟩
  exact aq.put ((hd.keep s2.dz).av (cL (fun z=>(fU _ _▸z).1) fun _ z=>z)) ((hv.keep s2.dz).av (cL (fun z=>(fU _ _▸z).2) fun _ z=>z))
namespace Ev
theorem adN{a:Addr}(e:ρ[i]?=some (.bN a f ks))(h:Ev G ρ tb fun _ y=>∃k,y= .int k/\∃d,bZ ks k=some d/\Φ f d):Ev G ρ (cP jb (bf i) tb) Φ:=fun nb σ H Q W z=>by
 obtain⟨x,e1,h1,h2,h3,ps,hp,hd⟩:=W.ok i _ e
 subst h1
 refine⟨.ref a,e1,h nb σ H _ W fun g w H1 y ⟨k,ey,d,hv,p⟩ s1 hw=>?_⟩
 subst ey
 have:=aq.val k (hd.keep s1.dz)
 rw[hv] at this
 obtain⟨v,hv',hD⟩:=this
 exact⟨a,ps, .inl k,v,rfl,hw.bD, .inl (s1.1 _ _ h3 hp),hv',z f _ H1 _ p s1 hD⟩
end Ev
end
def AU(ng:Bool):R2:=fun x y H Q=>∃a o,y= .ref a/\p7 H a x o/\Q (.bl (o.isSome !=ng)) H
theorem Hl{X:Cx}(hu:X.A.units+64<cLine):dR X (compareOp .In) (AU false):=by
 intro pins s σ H x y v u Q I rx ry h
 obtain⟨a,o,rfl,g,q⟩:=h
 cases ry
 exact TV (by omega) I g rx fun s' I'=>⟨.bl o.isSome,H,I',rfl,by simpa using q⟩
theorem Qp{X:Cx}(hu:X.A.units+64<cLine):dR X (compareOp .NotIn) (AU true):=by
 intro pins s σ H x y v u Q I rx ry h
 obtain⟨a,o,rfl,g,q⟩:=h
 cases ry
 exact ZO (by omega) I g rx fun s' I'=>⟨.bl (!o.isSome),H,I',rfl,by simpa using q⟩
section
variable{G:Gx}{ρ:Rh}{Φ:Pd}{ta tb te:TE}{i:Nat}{f:Bool}{ks:Ks}{K:PySem.W.Frag}{E:DE}
theorem Ev.Li{a:Addr}{ng:Bool}(e:ρ[i]?=some (.bN a f ks))(h:Ev G ρ ta fun _ y=>∃k,y= .int k/\Φ true (.bool (cT ks k !=ng))):Ev G ρ (cP (AU ng) ta (bf i)) Φ:=fun nb σ H Q W z=>
 h nb σ H _ W fun g w H1 y ⟨k,ey,p⟩ s1 hw=>by
  obtain⟨x,e1,h1,h2,h3,ps,hp,hd⟩:=(W.step s1).ok i _ e
  subst h1 ey
  refine⟨.ref a,e1,a,_,rfl,by rw[hw.bD];exact p7.k (k:= .inl k) hp,?_⟩
  have:(gK ps (Sum.inl k)).isSome=cT ks k:=by rw[<-zd];exact aq.any k hd
  rw[this]
  exact z true _ H1 _ p s1 (.bl _)
theorem WG{nb:Addr->Prop}{σ:St}{H:Hp}{a:Addr}(W:Wd G nb ρ σ H)(e:ρ[i]?=some (.bN a f ks)):Wd G (fun x=>nb x/\x≠a) (ρ.set i (.d f (.dict (ks.map aG)))) σ H:=by
  obtain⟨x,e1,h1,h2,h3,xs,hx,hd⟩:=W.ok i _ e
  subst h1
  have hil:i<ρ.length:=(bT.mp e).1
  have W0:Wd G nb (ρ.set i .no) (σ.set i (some (.ref a))) H:=W.set trivial fun _ _ _ z=>by cases z
  have W1:Wd G (fun x=>nb x/\x≠a) (ρ.set i .no) (σ.set i (some (.ref a))) H:=by
    refine⟨W0.au,fun x n=>W0.live x n.1,W0.old,fun x n=>W0.cY x n.1,W0.gA,W0.len,W0.gB,fun h m=>(W0.eE h m).av (cL (fun z=>z) fun _ z=>z.1),fun j s e'=>?_,W0.apart,W0.fM,W0.dU⟩
    obtain⟨x,ny,h⟩:=W0.ok j s e'
    refine⟨x,ny,?_⟩
    have hij:s≠ .no->i≠j:=fun n z=>by subst z;rw[cU hil] at e';cases e';exact n rfl
    cases s with
    |no=>trivial
    |d f d=>obtain⟨v,e,h⟩:=h;exact⟨v,e,h.av (cL (fun z=>z) fun _ z=>z.1)⟩
    | own c f es =>
      obtain⟨e2,n,q,ys,hy,hd'⟩:=h
      have hca:c≠a:=fun z=>by subst z;rw[hx] at hy;cases hy
      exact⟨e2,⟨n,hca⟩,q,ys,hy,hd'.av (cL (fun z=>z) fun _ z=>z.1)⟩
    |au=>exact h
    |raw v=>exact h
    | bN c f es =>
      obtain⟨e2,n,q,ps,hp,hd'⟩:=h
      have hij:=hij (by intro z;cases z)
      rw[bO hij] at e'
      exact⟨e2,⟨n,(W.fM i j _ _ _ _ _ _ hij e e').symm⟩,q,ps,hp,hd'.av (cL (fun z=>z) fun _ z=>z.1)⟩
    | cu c =>
      obtain⟨e2,n,q⟩:=h
      have hij:=hij (by intro z;cases z)
      rw[bO hij] at e'
      exact⟨e2,fun x hx=>⟨⟨(n x hx).1,fun z=>W.dU j i c _ (cX hij) e' e x hx (by rw[z];exact aK.mpr rfl)⟩,(n x hx).2⟩,c.av (cL (fun z=>z) fun _ z=>z.1) q⟩
  have W2:=W1.qS (i:=i) (f:=f) (d:= .dict (ks.map aG)) (v:= .ref a) (by
    unfold af
    refine⟨a,xs,rfl,fun z=>?_, .inl hx,hd.av (cL (fun z=>z) fun _ z=>z.1)⟩
    rcases z with z|z|z|z
    · exact z.2 rfl
    · exact W.gA a z (W.cY a h2 h3)
    · exact z h3
    · exact z.2 (W.cY a h2 h3))
  rw[lV,lV] at W2
  have:σ.set i (some (.ref a))=σ:=by
    apply ja
    intro j
    by_cases hij:i=j
    · subst hij;rw[cU (by rw[W.len];exact hil),e1]
    · rw[bO hij]
  rwa[this] at W2
theorem Sv.Og{s:TS}{a:Addr}(i:Nat)(e:ρ[i]?=some (.bN a f ks))(h:Sv G (ρ.set i (.d f (.dict (ks.map aG)))) s E):Sv G ρ s E:=fun nb σ H D W K=>h _ σ H D (WG W e) K
theorem Ev.n9(h:Ev G ρ ta fun f x=>∃ks:Ks,x= .dict (ks.map aG)/\Ev G ρ tb fun _ y=>∃k,y= .int k/\∃d,bZ ks k=some d/\Φ f d):Ev G ρ (cP jb ta tb) Φ:=
 Ev.kR (h.mono fun f x ⟨ks,ex,q⟩=>q.mono fun g y ⟨k,ey,d,hv',p⟩ nb σ H u v Q W hu hv z=>by
  subst ex ey
  unfold af at hu
  obtain⟨a,ps,rfl,n,hp,hd⟩:=hu
  have:=aq.val k hd
  rw[hv'] at this
  obtain⟨w,hw,hD⟩:=this
  exact⟨a,ps, .inl k,w,rfl,hv.bD,hp,hw,z f _ H _ p (.refl W.au) hD⟩)
end
end L2
set_option maxRecDepth 100000
set_option maxHeartbeats 4000000
namespace L2
open PySem PySem.Spec PyProof.Rows
section
variable{prog:Program}{w:World}{A:Around}{E:Value->Shared->Prop}{s:Shared}
theorem S4{l:Addr}{vs:List Value}{ns:List Int}{Q:Value->Shared->Prop}(hl:s.heap.IsList l vs.toArray)(hI:IntsAre vs ns)(hz:vs.length<64)
  (h:∀(out:Array Value) (ns':List Int),IntsAre out.toList ns'->ns'.Perm ns->ns'.Pairwise (· <= ·)->Q (.ref (s.heap.objs.size+1)) {s with heap:=sortedAll s.heap vs out}):
  wpAny (model prog w) A (call (.builtin "sorted") [.ref l]) Q E s:=by
 have hZ:vs.length<=sizeLine:=by rw[sizeLine_eq];omega
 refine Ex kind_sorted plain_sorted entry_sorted (args_sorted1 _) ?_
 unfold Builtin.«sorted»
 refine wpAny_bind (m:=checkCount "sorted" 1 1 _) (wpAny_pure ?_)
 refine wpAny_bind (collect_list hl ?_ (hsz:=hZ))
 refine wpAny_bind (wpAny_newList ?_)
 have hsz:((s.heap.push (seqObj "list" #[] 0)).update s.heap.objs.size (Obj.mapSeq (· ++vs.toArray))).objs.size=s.heap.objs.size+1:=by
  rw[Heap.size_update,size_push']
 have BB:(((s.heap.push (seqObj "list" #[] 0)).update s.heap.objs.size (Obj.mapSeq (· ++vs.toArray))).push (seqObj "list" vs.toArray 0)).get? (s.heap.objs.size+1)=some (seqObj "list" vs.toArray 0):=by
  rw[<-hsz];exact gh _ rfl
 show wpAny _ _ _ _ _ {s with heap:=((s.heap.push (seqObj "list" #[] 0)).update s.heap.objs.size (Obj.mapSeq (· ++vs.toArray))).push (seqObj "list" vs.toArray 0)}
 rw[hsz]
 refine wpAny_bind (wpAny_holding (wpAny_call_entry slot_list_sort ⟨_,BB,rfl⟩ entry_list_sort (list_sort_tree BB hI hz fun out ns' a1 a2 a3=>⟨_,rfl,?_⟩) (args_list_sort _)))
 exact wpAny_pure ⟨_,rfl,h out ns' a1 a2 a3⟩
end
def FO(K:PySem.W.Frag):List V->Hp->VK->Prop:=fun xs H Q=>∃p,∃ns:List Int,xs=[.ref p]/\bh K H p (ns.map V.int)/\ns.length<64/\∀rs:List Int,rs.Perm ns->rs.Pairwise (· <= ·)->∀l,H l=none->Q (.ref l) (upd H l (.lst (rs.map V.int)))
theorem RV{X:Cx}:gn X (.builtin "sorted") (FO X.K):=by
 intro pins s σ H xs us Q I rv h
 obtain⟨p,ns,rfl,hp,hn,q⟩:=h
 obtain⟨u,rfl,ru⟩:=vals1 rv
 cases ru
 obtain⟨its,rs,il,hz⟩:=I.list hp
 have hI:=xJ rs
 have hlen:=hI.length
 refine S4 (vs:=its) il.isList hI (by omega) fun out ns' h1 h2 h3=>?_
 obtain⟨e,ge⟩:=sortedAll_at s.heap its out
 have new:cF X.prog X.w (upd H (s.heap.objs.size+1) (.lst (ns'.map V.int))) (sortedAll s.heap its out) (s.heap.objs.size+1) (.lst (ns'.map V.int)):=by
  refine⟨?_,out.toList,e,ud h1,by simpa using ge⟩
  rw[ao,h2.length_eq];exact cG (j5 hn) (by decide)
 exact⟨.ref (s.heap.objs.size+1),_,I.laid (t':=s.toks) (fun b o z=>sortedAll_old z) (oj _) new,rfl,q _ h2 h3 _ (I.hok.fresh (oj _))⟩
theorem aE.UJ{G:Gx}{ρ:Rh}{te:TE}{K:PySem.W.Frag}{Θ:Bool->List PyData->Prop}(h:Ev G ρ te fun _ x=>∃ns:List Int,x= .list (ns.map .int)/\ns.length<64/\∀rs:List Int,rs.Perm ns->rs.Pairwise (· <= ·)->Θ true (rs.map .int)):
  aE G ρ (fc (FO K) (aX te bE)) Θ:=fun nb σ H Q W z=>
 h nb σ H _ W fun f v H1 x ⟨ns,ex,hn,q⟩ s1 hv=>by
  subst ex
  obtain⟨a,xs,rfl,na,hx,hd⟩:=hv.gy
  have e:=qh hd
  subst e
  refine⟨a,ns,rfl, .of hx,hn,fun rs hp hw l hl=>?_⟩
  exact aE.fin (f:=true) W s1 hl (tG rs) (q rs hp hw) z
end L2
set_option maxRecDepth 100000
set_option maxHeartbeats 4000000
namespace L2
open PySem PySem.Spec PyProof.Rows
structure T3(n:Int)(cs:List bz):Prop where
 n0:1<=n
 n1:n<=10
 c0:cs≠[]
 c1:cs.length<=8
 ok:∀prs∈cs,prs≠[]/\prs.length<=4/\(prs.map (·.1)).Pairwise (· < ·)/\∀pr∈prs,0<=pr.1/\pr.1<n
section
variable{n:Int}{cs:List bz}(h:T3 n cs)
include h
end
end L2
set_option maxRecDepth 100000
set_option maxHeartbeats 4000000
set_option maxRecDepth 100000
set_option maxHeartbeats 4000000
namespace L2
open PySem PySem.Spec PyProof.Rows
theorem ah.era{nb:Addr->Prop}{H:Hp}:∀{ds:List PyData} {xs:List V} (m:Nat),ah nb H ds xs->ah nb H (ds.eraseIdx m) (xs.eraseIdx m)
 |[],_,m,h=>by unfold ah at h;subst h;exact .nil
 |e::ds,_,0,h=>by unfold ah at h;obtain⟨y,ys,rfl,h1,h2⟩:=h;exact h2
 |e::ds,_,m+1,h=>by unfold ah at h;obtain⟨y,ys,rfl,h1,h2⟩:=h;exact .cons h1 (ah.era m h2)
end L2
set_option maxRecDepth 100000
set_option maxHeartbeats 4000000
namespace L2
open PySem PySem.Spec PyProof.Rows
def yE(G:Gx)(ρ:Rh)(te:TE)(Φ:PyData->Prop):Prop:=∀nb σ H (Q:VK),Wd G nb ρ σ H->(∀v H' d,Φ d->Step G.B H H'->af (fun a=>H a≠none) H' d v->Q v H')->te σ H Q
end L2
set_option maxRecDepth 100000
set_option maxHeartbeats 1000000
set_option maxRecDepth 100000
set_option maxHeartbeats 4000000
namespace L2
open PySem PySem.Spec PyProof.Rows
def ZW(mY:List Int)(prs:bz):Nat:=(prs.filter fun pr=>decide (pr.1∈mY)).length
def Pk(cs:List bz)(mY:List Int):Bool:=cs.all fun prs=>decide (ZW mY prs≠1)
end L2
set_option maxRecDepth 100000
set_option maxHeartbeats 4000000
set_option maxRecDepth 100000
set_option maxHeartbeats 4000000
namespace L2
open PySem PySem.Spec PyProof.Rows
def MT:V->List V->Hp->VK->Prop:=fun x vs H Q=>∃a kvs k v,x= .ref a/\vs=[kV k]/\H a=some (.dK kvs)/\gK kvs k=some v/\Q v (upd H a (.dK (mE kvs k)))
theorem Lw{X:Cx}:zq X "dict.pop" MT:=by
 intro pins s σ H x vs v us Q I rx rv h
 obtain⟨a,kvs,k,w,rfl,rfl,hH,hv,q⟩:=h
 cases rx
 obtain⟨u,rfl,ru⟩:=rv.one
 exact SD I hH ru hv (.inl rfl) fun w' s' I' r'=>⟨w,_,I',r',q⟩
theorem aq.drop{S:Addr->Prop}{H:Hp}{k:Int}:∀{ks:Ks} {ps:List (Key×V)},aq S H (ks.map aG) ps->aq S H ((i7 ks k).map aG) (mE ps (Sum.inl k))
  |[],ps,h=>by unfold aq at h;subst h;unfold i7 mE;simp only[List.filter_nil,vE];unfold aq;rfl
  | p :: r, ps, h => by
    rw[bL] at h
    unfold aq at h
    obtain⟨q,qs,rfl,h1,h2⟩:=h
    have ih:=aq.drop (k:=k) h2
    have h0:=h1
    unfold c6 at h1
    have h3:q.1=Sum.inl p.1:=h1.1
    unfold i7 mE at ih⊢
    rw[mS,mS]
    by_cases e:p.1=k
    · rw[if_neg (by simpa using e),if_neg (by rw[h3,e];simp)]
      exact ih
    · rw[if_pos (by simpa using e),if_pos (by rw[h3];simpa using e),bL]
      unfold aq
      exact⟨q,_,rfl,h0,ih⟩
structure Km(cs:List bz)(mY g:List Int):Prop where
 sub:∃q:Int->Bool,g=mY.filter q
 out:Pk cs g=true
 max:∀T:List Int,(∀x∈T,x∈mY)->Pk cs T=true->∀x∈T,x∈g
@[reducible] def adw(S:List Int):Ks:=S.map fun x=>(x,PyData.bool true)
end L2
set_option maxRecDepth 100000
set_option maxHeartbeats 4000000
namespace L2
open PySem PySem.Spec PyProof.Rows
theorem KP:∀{a b:List Int},a.Pairwise (· < ·)->b.Pairwise (· < ·)->(∀k,k∈a↔k∈b)->a=b
  |[],[],_,_,_=>rfl
  |[],y::b,_,_,h=>absurd ((h y).mpr (cA ..)) (by simp)
  |x::a,[],_,_,h=>absurd ((h x).mp (cA ..)) (by simp)
  | x :: a, y :: b, ha, hb, h => by
    obtain⟨ha1,ha2⟩:=uY.mp ha
    obtain⟨hb1,hb2⟩:=uY.mp hb
    have e:x=y:=by
      rcases aL.mp ((h x).mp (cA ..)) with z|z
      · exact z
      · rcases aL.mp ((h y).mpr (cA ..)) with w|w
        · exact w.symm
        · have:=hb1 x z;have:=ha1 y w;omega
    subst e
    have:a=b:=KP ha2 hb2 fun k=>by
      constructor
      · intro hk
        rcases aL.mp ((h k).mp (bX _ hk)) with z|z
        · have:=ha1 k hk;omega
        · exact z
      · intro hk
        rcases aL.mp ((h k).mpr (bX _ hk)) with z|z
        · have:=hb1 k hk;omega
        · exact z
    rw[this]
theorem EM{a b:List Int}(h:b.Pairwise (· < ·))(hs:a.Pairwise (· <= ·))(hp:a.Perm b):a=b:=by
 have nd:a.Nodup:=hp.nodup_iff.mpr (h.imp fun h=>by omega)
 have hlt:a.Pairwise (· < ·):=(hs.and nd).imp fun⟨h1,h2⟩=>by omega
 exact KP hlt h fun k=>hp.mem_iff
theorem Km.mem{cs:List bz}{mY g:List Int}(h:Km cs mY g):∀x∈g,x∈mY:=fun x hx=>by
 obtain⟨q,e⟩:=h.sub
 rw[e] at hx
 exact(jh.mp hx).1
end L2
set_option maxRecDepth 100000
set_option maxHeartbeats 4000000
namespace L2
open PySem PySem.Spec PyProof.Rows
def N5(row:List Int):Int:=match row.getLast? with|none=>0|some l=>l+1
def Q4(n:Int)(row:List Int):List Int:=(List.range (n-N5 row).toNat).map fun(i:Nat)=>N5 row+(i:Int)
def ext(n:Int)(row:List Int):List (List Int):=(Q4 n row).map fun p=>row++[p]
@[reducible] def adb:Option (List Int)->PyData
 |none=> .none
 |some r=>rL r
end L2
set_option maxRecDepth 100000
set_option maxHeartbeats 4000000
set_option maxRecDepth 100000
set_option maxHeartbeats 4000000
set_option maxRecDepth 100000
set_option maxHeartbeats 4000000
set_option maxRecDepth 100000
set_option maxHeartbeats 4000000
namespace L2
open PySem PySem.Spec PyProof.Rows
def gI(r:List Int)(i:Nat):Int:=r.getD i 0
def co(prs:bz)(j:Nat):Int:=(prs.map fun pr=>if pr.1.toNat=j then pr.2 else 0).sum
def aag(p:Int)(m:Nat)(prs:bz):Prop:=(prs.map (·.1)).Nodup/\prs.length<=1000/\∀pr∈prs,0<=pr.1/\pr.1<m/\1<=pr.2/\pr.2<p
end L2
set_option maxRecDepth 100000
set_option maxHeartbeats 4000000
namespace L2
open PySem PySem.Spec PyProof.Rows
def nV(a:Addr)(o:Obj)(ps:List (Key×V)):It:=
 ⟨fun i H=>H a=some (.bQ o (.dK ps))/\i<ps.length,fun i H x H'=>H'=H/\∃p,ps[i]?=some p/\x=kV p.1,fun i H=>H a=some (.bQ o (.dK ps))/\ps.length=i⟩
theorem ZR{P:Program}{w:World}{k:Key}{v:Value}(h:(gk P w).is k v=true):RelV (kV k) v:=by
 cases k with
 |inl i=>obtain⟨t,rfl⟩:=rY (k:=i) (v:=v) h;exact⟨t,rfl⟩
 |inr x=>obtain⟨t,rfl⟩:=Value.isStrOf_shape (v:=v) h;exact⟨t,rfl⟩
theorem UN{P:Program}{w:World}{K:PySem.W.Frag}{tg:Expr}(a it:Addr)(hne:a≠it){o:Obj}{ps:List (Key×V)}{vs:List (Key×Value)}{ep:Nat}(rel:KV ps vs)
  (hD:∀h:Heap,h.get? a=some o->h.DictAt (gk P w) a vs ep):Turn P w K tg (nV a o ps) [it] it (fun i h=>h.IsKeyIter it a i vs.length ep) where
 mem:=by simp
 obj:=fun i h st b hb=>by
  have e:b=it:=by simpa using hb
  subst e
  obtain⟨o,e,c,d⟩:=st
  exact⟨o,e,fun v z=>by rw[d] at z;cases z⟩
 keep:=fun i h h' st k=>st.at fun o e=>k it (by simp) o e
 item:=by
  intro X hP hw hK hc i pins s σ H E I hf st hg
  subst hP hw hK
  obtain⟨hq,hi⟩:=hg
  obtain⟨ho,_⟩:=(show cF X.prog X.w H s.heap a (.bQ o (.dK ps)) from I.hok a _ hq)
  have W:=Walks.dictKeys (knd:=gk X.prog X.w) (A:=X.A) (I.ok.hd hc) it a hne vs ep
  obtain⟨f0,f1,f2,f3,f4,f5⟩:=hf it (by simp)
  refine W.item i s _ _ (by rw[<-rel.length];exact hi) ⟨st,hD _ ho⟩ fun v h' tk hv st' kp=>?_
  obtain⟨k,x,hk,hkv⟩:=hv
  have I1:Inv X pins σ H {s with heap:=h',toks:=tk}:=I.turned (t':=tk) (fun b o hb e=>kp b o (by simpa using hb) e) f0 f1 f3 f4 f5
  obtain⟨oi,e,c,d⟩:=id st'.1
  have hpk:∃p,ps[i]?=some p/\kV k=kV p.1:=by
   have h1:(ps.map (·.1))[i]?=(vs.map (·.1))[i]?:=by rw[rel.keys]
   rw[bI,bI,hk,bP hi] at h1
   exact⟨_,bP hi,congrArg kV (gf h1).symm⟩
  exact⟨v,rfl,DZ (s:={s with heap:=h',toks:=tk}) e c d (by decide) ⟨kV k,H,I1,ZR hkv,⟨rfl,hpk⟩,st'.1,fun b hb=>(hf b hb).1⟩⟩
 done:=by
  intro X hP hw hK hc i pins s σ H E I hf st hg
  subst hP hw hK
  obtain⟨hq,hi⟩:=hg
  obtain⟨ho,_⟩:=(show cF X.prog X.w H s.heap a (.bQ o (.dK ps)) from I.hok a _ hq)
  have W:=Walks.dictKeys (knd:=gk X.prog X.w) (A:=X.A) (I.ok.hd hc) it a hne vs ep
  obtain⟨f0,f1,f2,f3,f4,f5⟩:=hf it (by simp)
  have hl:=rel.length
  refine W.done s _ _ ⟨by rw[<-hl,hi];rw[<-hl,hi] at st;exact st,hD _ ho⟩ fun h' tk kp=>⟨rfl,?_⟩
  exact I.turned (t':=tk) (fun b o hb e=>kp b o (by simpa using hb) e) f0 f1 f3 f4 f5
 self:=fun _ _ _ _ _ st h=>wpAny_pyIter_keyiter st h
def tH(X:Cx)(a:Addr):Prop:=∀o u,X.H₀ a≠some (.bQ o u)
section
variable{X:Cx}{pins:List (Addr×Obj)}{σ:List (Option V)}{H:Hp}{s:Shared}
theorem Inv.freeze{a:Addr}{ps:List (Key×V)}{o:Obj}(I:Inv X pins σ H s)(h:H a=some (.dK ps))(ho:s.heap.get? a=some o):Inv X pins σ (upd H a (.bQ o (.dK ps))) s:=by
 have ne:∀b u,H b=some u->(∀z,u≠ .dK z)->b≠a:=fun b u q z e=>by subst e;rw[h] at q;cases q;exact z _ rfl
 have nn:∀b,H b=none->b≠a:=fun b q e=>by subst e;rw[h] at q;cases q
 refine I.step (h':=s.heap) (g':=s.gens) (d':=s.drawn) (t':=s.toks) (ch:=[]) (fun _ z=>nomatch z) (fun b o _ _ _ e _=>e) (fun b o _ _ _ e _=>⟨o.slots,e⟩) (fun b o _ e n=>by rw[aB (nn b n)];exact n) (fun b o _ e=>⟨o,e⟩)
  (fun b xs q=>by rw[aB (ne b _ q (fun z=>nofun))];exact q) (fun b o u q=>by rw[aB (ne b _ q (fun z=>nofun))];exact q) (fun b p q=>⟨#[],by rw[aB (ne b _ q (fun z=>nofun)),q];simp⟩) (fun m hm=>hm) (fun b u q=>?_) I.bare
 by_cases hb:b=a
 ·subst hb
  rw[aQ] at q;cases q
  refine⟨ho,(I.hok b _ h).stay (fun c v hc z=>z) (fun c z=>?_) fun c xs z=>?_⟩
  ·rw[aB (ne c _ z (fun z=>nofun))];exact z
  ·rw[aB (ne c _ z (fun z=>nofun))];exact z
 ·rw[aB hb] at q
  refine(I.hok b u q).stay (fun c v hc z=>z) (fun c z=>?_) fun c xs z=>?_
  ·rw[aB (ne c _ z (fun z=>nofun))];exact z
  ·rw[aB (ne c _ z (fun z=>nofun))];exact z
theorem Inv.kQ{a:Addr}{ps:List (Key×V)}{o:Obj}(I:Inv X pins σ H s)(h:H a=some (.bQ o (.dK ps)))(nf:tH X a):Inv X pins σ (upd H a (.dK ps)) s:=by
 have ne:∀b u,H b=some u->(∀z z',u≠ .bQ z z')->b≠a:=fun b u q z e=>by subst e;rw[h] at q;cases q;exact z _ _ rfl
 have nn:∀b,H b=none->b≠a:=fun b q e=>by subst e;rw[h] at q;cases q
 refine⟨I.ok,I.os,I.bare,⟨I.base.keep,I.base.slot,fun b o q n hx=>?_,I.base.there,fun b xs q=>?_,fun b o u q=>?_,fun b p q=>?_⟩,I.loc,I.cell,?_,fun x c e=>?_,fun p hp=>?_,fun b u q=>?_,I.len⟩
 ·have z:=I.base.free b o q n hx
  rw[aB (nn b z)];exact z
 ·have z:=I.base.tups b xs q
  rw[aB (ne b _ z (fun _ z=>nofun))];exact z
 ·have z:=I.base.kW b o u q
  have:b≠a:=fun e=>by subst e;exact nf _ _ q
  rw[aB this];exact z
 ·obtain⟨m,z⟩:=I.base.m5 b p q
  exact⟨m,by rw[aB (ne b _ z (fun _ z=>nofun))];exact z⟩
 ·rw[aB (nn _ I.free)];exact I.free
 ·rw[aB (nn _ (I.kc x c e))];exact I.kc x c e
 ·obtain⟨z1,z2,z3⟩:=I.pin p hp
  exact⟨z1,by rw[aB (nn _ z2)];exact z2,z3⟩
 ·by_cases hb:b=a
  ·subst hb
   rw[aQ] at q;cases q
   have w:=(show cF X.prog X.w H s.heap b (.dK ps) from(Rd.ok (.inr ⟨o,h⟩) I.hok))
   refine w.stay (fun c v hc z=>z) (fun c z=>?_) fun c xs z=>?_
   ·rw[aB (ne c _ z (fun _ z=>nofun))];exact z
   ·rw[aB (ne c _ z (fun _ z=>nofun))];exact z
  ·rw[aB hb] at q
   refine(I.hok b u q).stay (fun c v hc z=>z) (fun c z=>?_) fun c xs z=>?_
   ·rw[aB (ne c _ z (fun _ z=>nofun))];exact z
   ·rw[aB (ne c _ z (fun _ z=>nofun))];exact z
end
def kH(NF:Addr->Prop)(Q:Hp->Prop)(H:Hp):Prop:=Q H\/∃a o ps,H a=some (.bQ o (.dK ps))/\NF a/\Q (upd H a (.dK ps))
def Zn(NF:Addr->Prop)(D:Ends):Ends:={nx:=fun σ=>kH NF (D.nx σ),rt:=fun v=>kH NF (D.rt v),bk:=fun σ=>kH NF (D.bk σ),ct:=fun σ=>kH NF (D.ct σ)}
def IF(NF:Addr->Prop)(ts:TS):TS:=fun D σ H=>ts (Zn NF D) σ H
def D0(NF:Addr->Prop)(te:TE):TE:=fun σ H Q=>te σ H fun v=>kH NF (Q v)
section
variable{X:Cx}
theorem kH.inv{pins:List (Addr×Obj)}{σ:St}{H:Hp}{s:Shared}{Q:Hp->Prop}(I:Inv X pins σ H s)(h:kH (tH X) Q H):∃H',Inv X pins σ H' s/\Q H':=by
 rcases h with h|⟨a,o,ps,e,nf,q⟩
 ·exact⟨H,I,h⟩
 ·exact⟨_,I.kQ e nf,q⟩
theorem ab3{st:Stmt}{ts:TS}(h:PS X st ts):PS X st (IF (tH X) ts):=by
 intro pins s σ H D I q
 refine aP (h pins s σ H _ I q) fun f s7 q7=>?_
 cases f with
 |next=>obtain⟨g9,H7,I7,n7⟩:=q7;obtain⟨H8,I8,q8⟩:=kH.inv I7 n7;exact⟨g9,H8,I8,q8⟩
 |cont=>obtain⟨g9,H7,I7,n7⟩:=q7;obtain⟨H8,I8,q8⟩:=kH.inv I7 n7;exact⟨g9,H8,I8,q8⟩
 |brk=>obtain⟨g9,H7,I7,n7⟩:=q7;obtain⟨H8,I8,q8⟩:=kH.inv I7 n7;exact⟨g9,H8,I8,q8⟩
 |ret v=>obtain⟨x7,g9,H7,I7,r7,n7⟩:=q7;obtain⟨H8,I8,q8⟩:=kH.inv I7 n7;exact⟨x7,g9,H8,I8,r7,q8⟩
theorem T5{e:Expr}{te:TE}(h:PE X e te):PE X e (D0 (tH X) te):=by
 intro pins s σ H Q I q
 refine aP (h pins s σ H _ I q) fun u s1 ⟨x,H1,I1,r1,q1⟩=>?_
 obtain⟨H8,I8,q8⟩:=kH.inv I1 q1
 exact⟨x,H8,I8,r1,q8⟩
def xM(NF:Addr->Prop)(tl:TE):TI:=fun σ H R=>tl σ H fun x H1=>∃a ps,x= .ref a/\((H1 a=some (.dK ps)/\∀o,NF a->R (nV a o ps) (upd H1 a (.bQ o (.dK ps))))\/∃o,H1 a=some (.bQ o (.dK ps))/\R (nV a o ps) H1)
theorem JO{tg l:Expr}{tl:TE}(hl:PE X l tl):PI X tg l (xM (tH X) tl):=by
 intro pins s σ H R I h
 refine aP (hl pins s σ H _ I h) fun v s1 ⟨x,H1,I1,r1,q1⟩=>?_
 obtain⟨a,ps,e,q⟩:=q1
 subst e
 cases r1
 have key:∃o H2,s1.heap.get? a=some o/\H2 a=some (.bQ o (.dK ps))/\Inv X pins σ H2 s1/\R (nV a o ps) H2:=by
  rcases q with ⟨h1,q⟩|⟨o,h1,q⟩
  ·obtain⟨z,hd,vs,rel,o,es,ep,ho,r⟩:=zB I1.hok h1
   refine⟨o,_,ho,aQ,I1.freeze h1 ho,q o fun o' u' z=>?_⟩
   rw[I1.base.kW _ _ _ z] at h1;cases h1
  ·obtain⟨ho,_⟩:=(show cF X.prog X.w H1 s1.heap a (.bQ o (.dK ps)) from I1.hok a _ h1)
   exact⟨o,H1,ho,h1,I1,q⟩
 obtain⟨o,H2,ho,h2,I2,q⟩:=key
 obtain⟨z,hd,vs,rel,dd⟩:=lW I2.hok (.inr ⟨o,h2⟩)
 obtain⟨ep,hat⟩:=dd.dictAt
 refine wpAny_pyIter_dict hd hat ?_
 refine⟨s1.heap.objs.size,[s1.heap.objs.size],_,_,H2,rfl,I2.kept (t':=s1.toks) fun b o e=>cM _ e,UN a _ (eG (cz ho)) rel (fun h hh=>hat.at' fun o' e=>by rw[ho] at e;cases e;exact hh),⟨_,gh _ rfl,rfl,rfl⟩,fun b hb=>?_,q⟩
 have e:b=s1.heap.objs.size:=by simpa using hb
 subst e
 exact I2.xr (aU _) (I2.hok.fresh (aU _))
end
structure Mv(H H':Hp):Prop where
 lst:∀b xs,H b=some (.lst xs)->H' b=some (.lst xs)
 tup:∀b xs,H b=some (.tup xs)->H' b=some (.tup xs)
 bN:∀b ps,Rd H b (.dK ps)->Rd H' b (.dK ps)
mutual
theorem af.mv{S:Addr->Prop}{H H':Hp}(m:Mv H H'):∀{d:PyData} {v:V},af S H d v->af S H' d v
 | .none,_,h=>by unfold af at h⊢;exact h
 | .bool _,_,h=>by unfold af at h⊢;exact h
 | .int _,_,h=>by unfold af at h⊢;exact h
 | .str _,_,h=>by unfold af at h⊢;exact h
 | .list ds,_,h=>by unfold af at h⊢;obtain⟨a,xs,e,n,s,r⟩:=h;exact⟨a,xs,e,n,m.lst _ _ s,ah.mv m r⟩
 | .tuple ds,_,h=>by unfold af at h⊢;obtain⟨a,xs,e,n,s,r⟩:=h;exact⟨a,xs,e,n,m.tup _ _ s,ah.mv m r⟩
 | .dict kvs,_,h=>by unfold af at h⊢;obtain⟨a,xs,e,n,s,r⟩:=h;exact⟨a,xs,e,n,m.bN _ _ s,aq.mv m r⟩
theorem ah.mv{S:Addr->Prop}{H H':Hp}(m:Mv H H'):∀{ds:List PyData} {vs:List V},ah S H ds vs->ah S H' ds vs
 |[],_,h=>by unfold ah at h⊢;exact h
 |d::ds,_,h=>by unfold ah at h⊢;obtain⟨y,ys,e,h1,h2⟩:=h;exact⟨y,ys,e,af.mv m h1,ah.mv m h2⟩
theorem aq.mv{S:Addr->Prop}{H H':Hp}(m:Mv H H'):∀{ds:List (PyData×PyData)} {vs:List (Key×V)},aq S H ds vs->aq S H' ds vs
 |[],_,h=>by unfold aq at h⊢;exact h
 |d::ds,_,h=>by unfold aq at h⊢;obtain⟨y,ys,e,h1,h2⟩:=h;exact⟨y,ys,e,c6.mv m h1,aq.mv m h2⟩
theorem c6.mv{S:Addr->Prop}{H H':Hp}(m:Mv H H'):∀{d:PyData×PyData} {v:Key×V},c6 S H d v->c6 S H' d v
 |(k,d),_,h=>by unfold c6 at h⊢;exact⟨h.1,af.mv m h.2⟩
end
theorem Mv.bQ{H:Hp}{a:Addr}{o:Obj}{ps:List (Key×V)}(h:H a=some (.dK ps)):Mv H (upd H a (.bQ o (.dK ps))) where
 lst:=fun b xs q=>by rw[aB (fun e=>by subst e;rw[h] at q;cases q)];exact q
 tup:=fun b xs q=>by rw[aB (fun e=>by subst e;rw[h] at q;cases q)];exact q
 bN:=fun b qs q=>by
  by_cases e:b=a
  ·subst e
   rcases q with q|⟨u,q⟩
   ·rw[h] at q;cases q;exact .inr ⟨o,aQ⟩
   ·rw[h] at q;cases q
  ·rcases q with q|⟨u,q⟩
   ·exact .inl (by rw[aB e];exact q)
   ·exact .inr ⟨u,by rw[aB e];exact q⟩
theorem Mv.kQ{H:Hp}{a:Addr}{o:Obj}{ps:List (Key×V)}(h:H a=some (.bQ o (.dK ps))):Mv H (upd H a (.dK ps)) where
 lst:=fun b xs q=>by rw[aB (fun e=>by subst e;rw[h] at q;cases q)];exact q
 tup:=fun b xs q=>by rw[aB (fun e=>by subst e;rw[h] at q;cases q)];exact q
 bN:=fun b qs q=>by
  by_cases e:b=a
  ·subst e
   rcases q with q|⟨u,q⟩
   ·rw[h] at q;cases q
   ·rw[h] at q;cases q;exact .inl aQ
  ·rcases q with q|⟨u,q⟩
   ·exact .inl (by rw[aB e];exact q)
   ·exact .inr ⟨u,by rw[aB e];exact q⟩
def kq(a:Addr)(u:HO)(H:Hp):Hp:=fun b=>if b=a/\H a≠none then some u else H b
theorem r6{a b:Addr}{u:HO}{H:Hp}:kq a u H b=none↔H b=none:=by
 unfold kq
 by_cases c:b=a/\H a≠none
 ·rw[if_pos c]
  constructor
  ·intro z;cases z
  ·intro z;rw[c.1] at z;exact absurd z c.2
 ·rw[if_neg c]
theorem yL{a b:Addr}{u:HO}{H:Hp}(h:b≠a):kq a u H b=H b:=by
 unfold kq;rw[if_neg (fun z=>h z.1)]
abbrev Gx.fz(G:Gx)(a:Addr)(o:Obj)(ps:List (Key×V)):Gx:={G with H0:=kq a (.bQ o (.dK ps)) G.H0,hold:=(false, .fz o ps, .ref a)::G.hold}
section
variable{G:Gx}{ρ cH:Rh}{Φ Ψ:Pd}{ta tb te:TE}{t:TA}{i:Nat}{f g:Bool}{d e:PyData}{ds es:List PyData}{K:PySem.W.Frag}{nb:Addr->Prop}{σ:St}{H:Hp}{a:Addr}{o:Obj}{ps:List (Key×V)}
theorem Gx.rH{b:Addr}:(G.fz a o ps).S nb f b↔G.S nb f b:=by
 unfold Gx.S
 constructor
 ·rintro(z|z|z|⟨z,q⟩)
  ·exact .inl z
  ·exact .inr (.inl z)
  ·exact .inr (.inr (.inl z))
  ·exact .inr (.inr (.inr ⟨z,fun w=>q (r6.mpr w)⟩))
 ·rintro(z|z|z|⟨z,q⟩)
  ·exact .inl z
  ·exact .inr (.inl z)
  ·exact .inr (.inr (.inl z))
  ·exact .inr (.inr (.inr ⟨z,fun w=>q (r6.mp w)⟩))
theorem eg.mv{H H':Hp}{b l:Addr}(h:eg H b l)(k:∀c xs,H c=some (.lst xs)->H' c=some (.lst xs)):eg H' b l:=by
 obtain⟨ns,x1,x2,x3,x4,h1,h2,h3⟩:=h
 exact⟨ns,x1,x2,x3,x4,k _ _ h1,k _ _ h2,h3⟩
theorem Wd.freeze(W:Wd G nb ρ σ H)(h:H a=some (.dK ps))(hS:¬G.S nb false a)(hT:∀f c v,(f,HD.th c,v)∈G.hold->a∉c.F):Wd (G.fz a o ps) nb ρ σ (upd H a (.bQ o (.dK ps))):=by
  have mv:=Mv.bQ (o:=o) h
  have hN:NB G.B a:=jJ fun z=>hS (.inr (.inr (.inl z)))
  have hnb:¬nb a:=fun z=>hS (.inl z)
  have hG:∀u,G.H0 a=some u->u= .dK ps:=fun u e=>by have:=W.old a u hN e;rw[h] at this;exact(gf this).symm
  have toS:∀f b,(G.fz a o ps).S nb f b->G.S nb f b:=fun f b z=>Gx.rH.mp z
  refine⟨fun b l e=>(W.au b l e).mv mv.lst,fun b n=>?_,fun b u n e=>?_,fun b n q=>r6.mpr (W.cY b n q),fun b n e=>W.gA b n (r6.mp e),W.len,fun b l e=>(W.gB b l e).mv fun c xs q=>?_,fun x m=>?_,fun i s e=>?_,W.apart,W.fM,W.dU⟩
  · by_cases hb:b=a
    · subst hb;exact absurd n hnb
    · rw[aB hb];exact W.live b n
  · by_cases hb:b=a
    · subst hb
      rw[aQ]
      change kq b _ G.H0 b=some u at e
      unfold kq at e
      by_cases c:b=b/\G.H0 b≠none
      · rw[if_pos c] at e;exact e
      · rw[if_neg c] at e;exact absurd ⟨rfl,by rw[e];exact eO _⟩ c
    · rw[aB hb]
      change kq a _ G.H0 b=some u at e
      rw[yL hb] at e
      exact W.old b u n e
  · have hc:c≠a:=fun z=>by subst z;have:=hG _ q;cases this
    show kq a _ G.H0 c=_
    rw[yL hc];exact q
  · rcases aL.mp m with e|m
    · subst e
      exact⟨a,rfl,fun z=>hS (toS _ _ z),aQ⟩
    · have w:=W.eE x m
      obtain⟨f,x,v⟩:=x
      cases x with
      |d x=>exact(af.mv mv w).av (toS f)
      | fz u qs =>
        obtain⟨c,e1,e2,e3⟩:=w
        by_cases hc:c=a
        · subst hc
          rw[h] at e3;cases e3
        · exact⟨c,e1,fun z=>e2 (toS _ _ z),by rw[aB hc];exact e3⟩
      | th c =>
        have hc:=hT f c v m
        obtain⟨e,n,q⟩:=w
        exact⟨e,fun b hb=>⟨fun z=>(n b hb).1 (toS _ _ z),by rw[aB (fun z=>by subst z;exact hc hb)];exact(n b hb).2⟩,c.av (toS f) (c.keep ⟨fun b hb o e=>by rw[aB (fun z=>by subst z;exact hc hb)];exact e,fun b xs _=>mv.lst b xs,fun b xs _=>mv.tup b xs,fun b qs _=>mv.bN b qs⟩ q)⟩
  · obtain⟨x,e1,w⟩:=W.ok i s e
    refine⟨x,e1,?_⟩
    cases s with
    |no=>trivial
    |d f d=>obtain⟨v,e,w⟩:=w;exact⟨v,e,(af.mv mv w).av (toS f)⟩
    |own c f es=>obtain⟨e,n,q,xs,hx,hd⟩:=w;exact⟨e,n,q,xs,mv.lst _ _ hx,(ah.mv mv hd).av (toS f)⟩
    |au=>exact w
    |raw v=>exact w
    | bN c f es =>
      obtain⟨e,n,q,xs,hx,hd⟩:=w
      exact⟨e,n,q,xs,by rw[aB (fun z=>by subst z;exact hnb n)];exact hx,(aq.mv mv hd).av (toS f)⟩
    | cu c =>
      obtain⟨e,n,q⟩:=w
      exact⟨e,n,c.av (toS c.f) (c.keep ⟨fun b hb o e=>by rw[aB (fun z=>by subst z;exact hnb (n _ hb).1)];exact e,fun b xs _=>mv.lst b xs,fun b xs _=>mv.tup b xs,fun b qs _=>mv.bN b qs⟩ q)⟩
theorem Wd.kQ(W:Wd (G.fz a o ps) nb ρ σ H)(hG:∀u,G.H0 a=some u->u= .dK ps)(hF:∀f o' qs v,(f,HD.fz o' qs,v)∈G.hold->v≠ .ref a)(hT:∀f c v,(f,HD.th c,v)∈G.hold->a∉c.F):Wd G nb ρ σ (upd H a (.dK ps))/\H a=some (.bQ o (.dK ps)):=by
  obtain⟨a',ea,hS',h⟩:=(show fk ((G.fz a o ps).S nb false) H (.fz o ps) (.ref a) from W.eE _ (cA ..))
  cases ea
  have mv:=Mv.kQ h
  have toS:∀f b,G.S nb f b->(G.fz a o ps).S nb f b:=fun f b z=>Gx.rH.mpr z
  have hS:¬G.S nb false a:=fun z=>hS' (toS _ _ z)
  have hN:NB G.B a:=jJ fun z=>hS (.inr (.inr (.inl z)))
  have hnb:¬nb a:=fun z=>hS (.inl z)
  refine⟨⟨fun b l e=>(W.au b l e).mv mv.lst,fun b n=>?_,fun b u n e=>?_,fun b n q=>r6.mp (W.cY b n q),fun b n e=>W.gA b n (r6.mpr e),W.len,fun b l e=>(W.gB b l e).mv fun c xs q=>?_,fun x m=>?_,fun i s e=>?_,W.apart,W.fM,W.dU⟩,h⟩
  · by_cases hb:b=a
    · subst hb;exact absurd n hnb
    · rw[aB hb];exact W.live b n
  · by_cases hb:b=a
    · subst hb
      rw[aQ,hG u e]
    · rw[aB hb]
      exact W.old b u n (by show kq a _ G.H0 b=_;rw[yL hb];exact e)
  · change kq a _ G.H0 c=_ at q
    by_cases hc:c=a
    · subst hc
      unfold kq at q
      by_cases z:c=c/\G.H0 c≠none
      · rw[if_pos z] at q;cases q
      · rw[if_neg z] at q;exact q
    · rw[yL hc] at q;exact q
  · have w:=W.eE x (bX _ m)
    obtain⟨f,x,v⟩:=x
    cases x with
    |d x=>exact(af.mv mv w).av (toS f)
    | fz u qs =>
      obtain⟨c,e1,e2,e3⟩:=w
      subst e1
      have hc:c≠a:=fun z=>hF f u qs _ m (by rw[z])
      exact⟨c,rfl,fun z=>e2 (toS _ _ z),by rw[aB hc];exact e3⟩
    | th c =>
      have hc:=hT f c v m
      obtain⟨e,n,q⟩:=w
      exact⟨e,fun b hb=>⟨fun z=>(n b hb).1 (toS _ _ z),by rw[aB (fun z=>by subst z;exact hc hb)];exact(n b hb).2⟩,c.av (toS f) (c.keep ⟨fun b hb o e=>by rw[aB (fun z=>by subst z;exact hc hb)];exact e,fun b xs _=>mv.lst b xs,fun b xs _=>mv.tup b xs,fun b qs _=>mv.bN b qs⟩ q)⟩
  · obtain⟨x,e1,w⟩:=W.ok i s e
    refine⟨x,e1,?_⟩
    cases s with
    |no=>trivial
    |d f d=>obtain⟨v,e,w⟩:=w;exact⟨v,e,(af.mv mv w).av (toS f)⟩
    |own c f es=>obtain⟨e,n,q,xs,hx,hd⟩:=w;exact⟨e,n,q,xs,mv.lst _ _ hx,(ah.mv mv hd).av (toS f)⟩
    |au=>exact w
    |raw v=>exact w
    | bN c f es =>
      obtain⟨e,n,q,xs,hx,hd⟩:=w
      exact⟨e,n,q,xs,by rw[aB (fun z=>by subst z;exact hnb n)];exact hx,(aq.mv mv hd).av (toS f)⟩
    | cu c =>
      obtain⟨e,n,q⟩:=w
      exact⟨e,n,c.av (toS c.f) (c.keep ⟨fun b hb o e=>by rw[aB (fun z=>by subst z;exact hnb (n _ hb).1)];exact e,fun b xs _=>mv.lst b xs,fun b xs _=>mv.tup b xs,fun b qs _=>mv.bN b qs⟩ q)⟩
abbrev Gx.hz(G:Gx)(a:Addr)(o:Obj)(ps:List (Key×V)):Gx:={G with hold:=(false, .fz o ps, .ref a)::G.hold}
theorem Wd.hz(W:Wd G nb ρ σ H)(hS:¬G.S nb false a)(h:H a=some (.bQ o (.dK ps))):Wd (G.hz a o ps) nb ρ σ H:=
 ⟨W.au,W.live,W.old,W.cY,W.gA,W.len,W.gB,fun x m=>by
  rcases aL.mp m with e|m
  ·subst e;exact⟨a,rfl,hS,h⟩
  ·exact W.eE x m,fun i s e=>by
   obtain⟨x,e1,h⟩:=W.ok i s e
   refine⟨x,e1,?_⟩
   cases s<;>exact h,W.apart,W.fM,W.dU⟩
theorem Wd.vp(W:Wd (G.hz a o ps) nb ρ σ H):Wd G nb ρ σ H/\H a=some (.bQ o (.dK ps)):=by
 refine⟨⟨W.au,W.live,W.old,W.cY,W.gA,W.len,W.gB,fun x m=>W.eE x (bX _ m),fun i s e=>by
   obtain⟨x,e1,h⟩:=W.ok i s e
   refine⟨x,e1,?_⟩
   cases s<;>exact h,W.apart,W.fM,W.dU⟩,?_⟩
 obtain⟨a',ea,_,h⟩:=(show fk ((G.hz a o ps).S nb false) H (.fz o ps) (.ref a) from W.eE _ (cA ..))
 cases ea
 exact h
theorem LL{G':Gx}{ks:Ks}{D:Ends}{E:DE}{gt:TG}{s:TS}{dd:PyData}(W3:Wd (G'.hd f dd (.ref a)) nb ρ σ H)(hl:ps.map (·.1)=(ks.map (·.1)).map Sum.inl)
  (hz:∀{nb ρ σ H},Wd G' nb ρ σ H->H a=some (.bQ o (.dK ps))) (KK:xu G' {E with bk:=fun _=>False,ct:=fun _=>False} D)
  (q:Sv.rK (G'.hd f dd (.ref a)) ρ ks.length (fun i d=>∃p,ks[i]?=some p/\d= .int p.1) true gt s E):
  ∃W:Nat->Nat->St->Hp->Prop,(∃m,W 0 m σ H)/\∀i m σ H,W i m σ H->
   ((nV a o ps).stop i H/\D.nx σ H)\/((nV a o ps).go i H/\∃N:St->Hp->Prop,(∀σ' H',N σ' H'->∃m',m'<m/\W (i+1) m' σ' H')/\∀x H',(nV a o ps).lI i H x H'->gt x σ H' fun σ2 H2=>s {D with nx:=N,ct:=N,bk:=D.nx} σ2 H2):=by
 obtain⟨I,h0,ht,he⟩:=q
 have hlen:ps.length=ks.length:=by have:=congrArg List.length hl;simpa using this
 refine⟨fun i m σ H=>m=ks.length-i/\i<=ks.length/\∃nb ρ',I i ρ'/\Wd (G'.hd f dd (.ref a)) nb ρ' σ H,⟨ks.length,by simp,g8 _,nb,ρ,h0,W3⟩,?_⟩
 rintro i m σ H ⟨rfl,hi,nb,ρ',hI,W⟩
 have Of:=hz W.iX.1
 by_cases hlt:i<ks.length
 ·refine .inr ⟨⟨Of,by omega⟩,fun σ H=>∃nb ρ',I (i+1) ρ'/\Wd (G'.hd f dd (.ref a)) nb ρ' σ H,fun σ' H' q=>⟨ks.length-(i+1),by omega,rfl,hlt,q⟩,fun x H' y=>?_⟩
  obtain⟨e1,p,hpi,e2⟩:=y
  subst e1 e2
  have hk:p.1=Sum.inl ks[i].1:=by
   have h1:(ps.map (·.1))[i]?=((ks.map (·.1)).map Sum.inl)[i]?:=by rw[hl]
   rw[bI,bI,bI,hpi,bP hlt] at h1
   exact gf h1
  rw[hk]
  refine ht i _ ρ' ⟨_,bP hlt,rfl⟩ hI nb σ _ _ _ W (.int _) fun σ2 iW q W2=>q nb σ2 _ _ W2 ?_
  exact⟨fun nb ρ σ H q W=>⟨nb,ρ,q,W⟩,fun nb ρ σ H q W=>KK.nx nb ρ σ H q W.iX.1,fun nb ρ σ H q W=>⟨nb,ρ,q,W⟩,fun nb ρ σ f v H d q W hv=>KK.rt nb ρ σ f v H d q W.iX.1 hv,fun nb ρ σ v H q W=>KK.rw nb ρ σ v H q W.iX.1⟩
 ·have e:i=ks.length:=by omega
  subst e
  exact .inl ⟨⟨Of,hlen⟩,KK.nx nb ρ' σ H (he ρ' hI) W.iX.1⟩
theorem Sv.ZP{NF:Addr->Prop}{E:DE}{gt:TG}{s:TS}(h:Ev G ρ te fun f x=>∃ks:Ks,x= .dict (ks.map aG)/\∀G' v,rK (Gx.hd G' f x v) ρ ks.length (fun i d=>∃p,ks[i]?=some p/\d= .int p.1) true gt s {E with rw:=fun _ _ _ _=>False})(hnt:∀f c v,(f,HD.th c,v)∉G.hold:=by intro _ _ _ z;first|exact nomatch z|(simp at z;done)):
  Sv G ρ (IF NF (pQ (xM NF te) gt s)) E:=fun nb σ H D W KK=>
 h nb σ H _ W fun f v H1 x ⟨ks,ex,q⟩ s1 hv=>by
  subst ex
  have W1:=W.step s1
  have hv0:=hv
  unfold af at hv
  obtain⟨a,ps,rfl,n,hp,hd⟩:=hv
  have hkeys:=aq.keys hd
  have hS:¬G.S nb false a:=fun z=>n (cL (fun w=>by cases w) (fun _ w=>w) a z)
  have hN:NB G.B a:=jJ fun z=>hS (.inr (.inr (.inl z)))
  refine⟨a,ps,rfl,?_⟩
  rcases hp with hp|⟨o,hp⟩
  ·refine .inl ⟨hp,fun o nf=>?_⟩
   have hG:∀u,G.H0 a=some u->u= .dK ps:=fun u e=>by have:=W1.old a u hN e;rw[hp] at this;exact(gf this).symm
   have hF:∀f o' qs v,(f,HD.fz o' qs,v)∈G.hold->v≠ .ref a:=fun f o' qs v m e=>by
    obtain⟨c,e1,_,e3⟩:=(show fk (G.S nb f) H1 (.fz o' qs) v from W1.eE _ m)
    rw[e1] at e;cases e
    rw[hp] at e3;cases e3
   have W2:=W1.freeze (o:=o) hp hS fun f c v m=>absurd m (hnt f c v)
   have mv:=Mv.bQ (o:=o) hp
   have W3:=W2.hd (f:=f) (d:= .dict (ks.map aG)) (v:= .ref a) ((af.mv mv hv0).av fun b z=>Gx.rH.mp z)
   refine LL (E:={E with rw:=fun _ _ _ _=>False}) W3 hkeys (fun W=>(W.kQ hG hF fun f c v m=>absurd m (hnt f c v)).2) ⟨fun nb ρ σ H q W=>?_,fun _ _ _ _ q _=>q.elim,fun _ _ _ _ q _=>q.elim,fun nb ρ σ f v H d q W hv=>?_,fun _ _ _ _ _ q _=>q.elim⟩ (q _ _)
   ·obtain⟨W',hz⟩:=W.kQ hG hF fun f c v m=>absurd m (hnt f c v)
    exact .inr ⟨a,o,ps,hz,nf,KK.nx nb ρ σ _ q W'⟩
   ·obtain⟨W',hz⟩:=W.kQ hG hF fun f c v m=>absurd m (hnt f c v)
    exact .inr ⟨a,o,ps,hz,nf,KK.rt nb ρ σ f v _ d q W' ((af.mv (Mv.kQ hz) hv).av fun b z=>Gx.rH.mpr z)⟩
  ·refine .inr ⟨o,hp,?_⟩
   have W2:=W1.hz hS hp
   have W3:=W2.hd (f:=f) (d:= .dict (ks.map aG)) (v:= .ref a) hv0
   refine LL (E:={E with rw:=fun _ _ _ _=>False}) W3 hkeys (fun W=>W.vp.2) ⟨fun nb ρ σ H q W=> .inl (KK.nx nb ρ σ H q W.vp.1),fun _ _ _ _ q _=>q.elim,fun _ _ _ _ q _=>q.elim,fun nb ρ σ f v H d q W hv=> .inl (KK.rt nb ρ σ f v H d q W.vp.1 hv),fun _ _ _ _ _ q _=>q.elim⟩ (q _ _)
end
end L2
set_option maxRecDepth 100000
set_option maxHeartbeats 4000000
namespace L2
open PySem PySem.Spec PyProof.Rows
theorem Sv.lift{G:Gx}{ρ:Rh}{s:TS}{E:DE}{f:Bool}{ds:List PyData}{a:Addr}(i:Nat)(e:ρ[i]?=some (.own a f ds))(hs:fL ds=true)(h:Sv G (ρ.set i (.own a true ds)) s E):Sv G ρ s E:=fun nb σ H D W K=>by
 obtain⟨x,e1,h1,h2,h3,xs,hx,hd⟩:=W.ok i _ e
 have W':=Sv.Ag (g:=true) W e (ah.jw (aC:=G.S nb true) (H':=H) hs hd)
 have:upd H a (.lst xs)=H:=by
  funext b
  by_cases c:b=a
  ·subst c;rw[aQ,hx]
  ·rw[aB c]
 rw[this] at W'
 exact h nb σ H D W' K
end L2
set_option maxRecDepth 100000
set_option maxHeartbeats 4000000
set_option maxRecDepth 100000
set_option maxHeartbeats 4000000
namespace L2
open PySem PySem.Spec PyProof.Rows
theorem ko{P:(Addr->Prop)->Prop}{H:Hp}(hP:∀{S S':Addr->Prop},(∀a,S' a->S a)->P S->P S')(hf:∀{S:Addr->Prop} {p:Addr},H p=none->P S->P fun a=>S a\/a=p):∀{L:List Addr} {S:Addr->Prop},(∀a∈L,H a=none)->P S->P fun a=>S a\/a∈L
 |[],S,_,h=>hP (fun a z=>z.elim (fun z=>z) fun z=>by cases z) h
 | p :: L, S, hL, h => hP (fun a z => by
   rcases z with z|z
   ·exact .inl (.inl z)
   ·rcases aL.mp z with z|z
    ·exact .inr z
    ·exact .inl (.inr z)) (hf (hL p (cA ..)) (ko hP hf (L:=L) (fun a m=>hL a (bX _ m)) h))
section
variable{G:Gx}{ρ:Rh}{nb:Addr->Prop}{σ:St}{H H1:Hp}{i:Nat}{L:List Addr}{c c':Cu}{f:Bool}{d:PyData}{p:Addr}{o:HO}{E:DE}
theorem Wd.Cr(W:Wd G nb ρ σ H)(s1:Step G.B H H1)(ha:∀a∈L,H a=none)(e:∀a∈L,H1 a≠none):Wd G (fun x=>nb x\/x∈L) ρ σ H1/\(∀a∈L,NB G.B a)/\∀f x,G.S (fun x=>nb x\/x∈L) f x->(G.S nb f x\/x∈L):=by
  have hN:∀a∈L,NB G.B a:=fun a m=>NB.new W.au (ha a m)
  have hA:∀f x,G.S (fun x=>nb x\/x∈L) f x->(G.S nb f x\/x∈L):=fun f x z=>by
    rcases z with (z|z)|z|z|z
    · exact .inl (.inl z)
    · exact .inr z
    · exact .inl (.inr (.inl z))
    · exact .inl (.inr (.inr (.inl z)))
    · exact .inl (.inr (.inr (.inr z)))
  have W1:=W.step s1
  have fD:∀{S:Addr->Prop} {d:PyData} {v:V},af S H d v->af (fun a=>S a\/a∈L) H d v:=fun{S d v} h=>ko (P:=fun S=>af S H d v) (fun z h=>af.av z h) (fun hp h=>af.fresh hp h) ha h
  have D5:∀{S:Addr->Prop} {d:List PyData} {v:List V},ah S H d v->ah (fun a=>S a\/a∈L) H d v:=fun{S d v} h=>ko (P:=fun S=>ah S H d v) (fun z h=>ah.av z h) (fun hp h=>ah.fresh hp h) ha h
  have CG:∀{S:Addr->Prop} {d:List (PyData×PyData)} {v:List (Key×V)},aq S H d v->aq (fun a=>S a\/a∈L) H d v:=fun{S d v} h=>ko (P:=fun S=>aq S H d v) (fun z h=>aq.av z h) (fun hp h=>aq.fresh hp h) ha h
  have fH:∀{S:Addr->Prop} {d:HD} {v:V},fk S H d v->fk (fun a=>S a\/a∈L) H d v:=fun{S d v} h=>ko (P:=fun S=>fk S H d v) (fun z h=>fk.av h z) (fun hp h=>fk.fresh h hp) ha h
  refine⟨?_,hN,hA⟩
  refine⟨W1.au,fun x n=>?_,W1.old,fun x n q=>?_,W.gA,W.len,W.gB,fun h m=>((fH (W.eE h m)).keep (s1.but fun x z=> .inl (.inr (.inr (.inl z))))).av (hA h.1),fun j s e'=>?_,W.apart,W.fM,W.dU⟩
  · rcases n with n|n
    · exact W1.live x n
    · exact e x n
  · rcases n with n|n
    · exact W.cY x n q
    · cases z:G.H0 x with
      |none=>rfl
      |some o=>have:=ha x n;rw[W.old x o q z] at this;cases this
  · obtain⟨x,e1,h⟩:=W.ok j s e'
    refine⟨x,e1,?_⟩
    cases s with
    |no=>trivial
    |d f d=>obtain⟨v,e,h⟩:=h;exact⟨v,e,((fD h).keep (s1.but fun x z=> .inl (.inr (.inr (.inl z))))).av (hA f)⟩
    |own c f es=>obtain⟨e,n,q,xs,hx,hd⟩:=h;exact⟨e, .inl n,q,xs,s1.1 _ _ q hx,((D5 hd).keep (s1.but fun x z=> .inl (.inr (.inr (.inl z))))).av (hA f)⟩
    |au=>exact h
    |raw v=>exact h
    |bN c f es=>obtain⟨e,n,q,xs,hx,hd⟩:=h;exact⟨e, .inl n,q,xs,s1.1 _ _ q hx,((CG hd).keep (s1.but fun x z=> .inl (.inr (.inr (.inl z))))).av (hA f)⟩
    | cu c =>
      obtain⟨e,n,q⟩:=h
      refine⟨e,fun a ha=>⟨.inl (n a ha).1,(n a ha).2⟩,c.av (hA c.f) (c.keep (.of fun x o hx e=>s1.1 x o ?_ e) (ko (P:=fun S=>c.P S H) (fun z h=>c.av z h) (fun hp h=>c.fresh hp h) ha q))⟩
      rcases hx with hx|hx
      · exact jJ fun z=>hx (.inl (.inr (.inr (.inl z))))
      · exact(n x hx).2
theorem pK.vU{x:Option V}{s:Sl}(h:pK G nb H x s):∀a∈s.adr,nb a/\NB G.B a:=by
 cases s with
 |own a f ds=>intro x hx;rw[aK.mp hx];exact⟨h.2.1,h.2.2.1⟩
 |bN a f ds=>intro x hx;rw[aK.mp hx];exact⟨h.2.1,h.2.2.1⟩
 |cu c=>exact h.2.1
 |no=>intro _ z;cases z
 |d _ _=>intro _ z;cases z
 |au=>intro _ z;cases z
 |raw _=>intro _ z;cases z
theorem Wd.RU(W:Wd G nb ρ σ H)(s1:Step G.B H H1)(ha:∀a∈c.F,H a=none)(e:∀a∈c.F,H1 a≠none)(hP:c.P (fun x=>G.S nb c.f x\/x∈c.F) H1):Wd G (fun x=>nb x\/x∈c.F) (ρ.set i (.cu c)) (σ.set i (some c.v)) H1:=by
 obtain⟨W2,hN,hA⟩:=W.Cr s1 ha e
 refine W2.set ⟨rfl,fun a m=>⟨.inr m,hN a m⟩,c.av (hA c.f) hP⟩ (fun _ _ _ z=>by cases z) (fun _ _ _ z=>by cases z) (fun x hx j t hj ht hc z=>?_)
 obtain⟨y,e1,h⟩:=W.ok j _ ht
 exact W.live x (h.vU x z).1 (ha x hx)
theorem Wd.QH(W:Wd G nb ρ σ H)(e:ρ[i]?=some (.cu c))(hp:p∈c.F)(hv:c'.v=c.v)(hF:∀a∈c'.F,a∈c.F)(h:c'.P (G.S nb c'.f) (upd H p o)):Wd G nb (ρ.set i (.cu c')) σ (upd H p o):=by
 obtain⟨x,e1,h1,h2,h3⟩:=W.ok i _ e
 subst h1
 have hil:i<ρ.length:=(bT.mp e).1
 have W0:Wd G nb (ρ.set i .no) (σ.set i (some c.v)) H:=W.set trivial fun _ _ _ z=>by cases z
 have other:∀(j:Nat) s,(ρ.set i .no)[j]?=some s->s≠ .no->p∉s.adr:=fun j s hs hn=>by
  have hij:i≠j:=fun z=>by subst z;rw[cU hil] at hs;cases hs;exact hn rfl
  rw[bO hij] at hs
  exact W.dU i j c s hij e hs p hp
 have W1:Wd G nb (ρ.set i .no) (σ.set i (some c.v)) (upd H p o):=W0.write (h2 p hp).1 (h2 p hp).2 (fun j a f ds hs z=>other j _ hs (by intro z;cases z) (aK.mpr z.symm)) (fun j a f ds hs z=>other j _ hs (by intro z;cases z) (aK.mpr z.symm)) (fun j c hs=>other j _ hs (by intro z;cases z))
 have W2:=W1.set (i:=i) (s:= .cu c') (x:=some c.v) ⟨by rw[hv],fun a m=>h2 a (hF a m),h⟩ (fun _ _ _ z=>by cases z) (fun _ _ _ z=>by cases z) (fun x hx j t hj ht hc=>by
  rw[bO (cX hj)] at ht
  exact W.dU i j c t (cX hj) e ht x (hF x hx))
 rw[lV,lV] at W2
 have:σ.set i (some c.v)=σ:=by
  apply ja
  intro j
  by_cases hij:i=j
  ·subst hij;rw[cU (by rw[W.len];exact hil),e1]
  ·rw[bO hij]
 rwa[this] at W2
end
end L2
set_option maxRecDepth 100000
set_option maxHeartbeats 4000000
namespace L2
open PySem PySem.Spec PyProof.Rows
abbrev Q9:=Int×Addr×List PyData
section
variable{G:Gx}{ρ:Rh}{ta tb te tk:TE}{E:DE}{i:Nat}{f:Bool}{K:PySem.W.Frag}{Φ:Pd}{a:Addr}{rows:List Q9}
theorem aE.IA{Θ:Bool->List PyData->Prop}(h:Ev G ρ te fun _ x=>∃ks:Ks,x= .dict (ks.map aG)/\ks.length<64/\∀rs:List Int,rs.Pairwise (· <= ·)->rs.Perm (ks.map (·.1))->Θ true (rs.map .int)):aE G ρ (fc AB (aX te bE)) Θ:=fun nb σ H Q W z=>
 h nb σ H _ W fun f v H1 x ⟨ks,ex,hl,q⟩ s1 hv=>by
  subst ex
  unfold af at hv
  obtain⟨a,ps,rfl,n,hp,hd⟩:=hv
  refine⟨a,ps,ks.map (·.1),rfl,hp,aq.keys hd,by rw[ao];exact hl,fun l rs hl' hw ye=>?_⟩
  exact aE.fin (f:=true) W s1 hl' (tG rs) (q rs hw ye) z
end
end L2
set_option maxRecDepth 100000
set_option maxHeartbeats 4000000
namespace L2
open PySem PySem.Spec PyProof.Rows
def zU(prs:bz)(pl:Int):Option Int:=(prs.find? fun pr=>decide (pr.1=pl)).map (·.2)
noncomputable def Ht(p:Int)(c:Nat):Option Int->List (Int×Int)
 |some f=>[((c:Int),sol p f 1)]
 |none=>[]
noncomputable def B5(p:Int)(cs:List bz)(pl:Int)(i:Nat):List (Int×Int):=(List.range i).flatMap fun c=>Ht p c (zU (cs.getD c []) pl)
theorem Ss{p:Int}{cs:List bz}{pl:Int}{q:Int×Int}{i:Nat}(hi:i<=cs.length)(h:q∈B5 p cs pl i):∃(c:Nat) (prs:bz) (f:Int),cs[c]?=some prs/\c<i/\zU prs pl=some f/\q=((c:Int),sol p f 1):=by
  unfold B5 at h
  obtain⟨c,hc,hq⟩:=Aa.mp h
  have hc:=qC.mp hc
  have e:cs[c]?=some cs[c]:=bP (by omega)
  rw[lU,e] at hq
  cases hf:zU cs[c] pl with
  |none=>simp[Ht,hf] at hq
  | some f =>
    have hq:q∈Ht p c (zU cs[c] pl):=hq
    rw[hf] at hq
    exact⟨c,cs[c],f,e,hc,hf,aK.mp hq⟩
noncomputable def sS(p:Int)(cs:List bz)(ws:List Int)(pl:Int):List Int:=
 (B5 p cs pl cs.length).map fun q=>(ws.getD pl.toNat 0-dP (cs.getD q.1.toNat []) (ws.map some)%p*q.2)%p
structure B7(p n:Int)(cs:List bz):Prop where
 hp:gp p
 g7:p<10^40
 n0:1<=n
 n1:n<=400
 cl:cs.length<=400
 ok:∀prs∈cs,aag p n.toNat prs
end L2
set_option maxRecDepth 100000
set_option maxHeartbeats 4000000
namespace L2
open PySem PySem.Spec PyProof.Rows
def Jy(L:List Int)(w x:Int):Bool:=decide (x≠w) && decide (L.length<2*L.count x)
def wI(L:List Int)(w:Int):List Int:=(L.filter (Jy L w)).take 1
@[reducible] def trD(t:Int×Int×Int):PyData:= .tuple [.int t.1, .int t.2.1, .int t.2.2]
noncomputable def ME(p:Int)(cs:List bz)(ws:List Int)(i:Nat):List (Int×Int×Int):=(wI (sS p cs ws (i:Int)) (ws.getD i 0)).map fun x=>((i:Int),ws.getD i 0,x)
noncomputable def uN(p:Int)(cs:List bz)(ws:List Int)(m:Nat):List (Int×Int×Int):=(List.range m).flatMap (ME p cs ws)
end L2
set_option maxRecDepth 100000
set_option maxHeartbeats 4000000
namespace L2
open PySem PySem.Spec PyProof.Rows
def brk(p:Int)(cs:List bz)(ws:List Int):Nat:=cs.countP fun prs=>decide (dP prs (ws.map some)%p≠0)
abbrev Bst:=Int×Option (Int×Int×Int)
end L2
set_option maxRecDepth 100000
set_option maxHeartbeats 4000000
set_option maxRecDepth 100000
set_option maxHeartbeats 4000000
set_option maxRecDepth 100000
set_option maxHeartbeats 4000000
namespace L2
open PySem PySem.Spec PyProof.Rows
structure ff(P:Program)(w:World)(K:PySem.W.Frag)(mg:Str->Option Value)(base:Heap)(C:Addr)(m:Str)(k:Nat)(ps:List Str)(sp:Sp):Prop where
 cl:cg K C
 ex:∃f fd,bq P w K mg base bG k f fd ps sp/\Binds K fd ps []/\Meth K C m f
structure tu(P:Program)(w:World)(K:PySem.W.Frag)(mg:Str->Option Value)(base:Heap)(C:Addr)(x:Str)(k:Nat)(ps:List Str)(sp:Sp):Prop where
 ex:∃f fd,bq P w K mg base bG k f fd ps sp/\Binds K fd ps []/\Mk K C f/\mg x=some (.ref C)
section
variable{X:Cx}{C:Addr}{k:Nat}{ps:List Str}{sp:Sp}{x m:Str}{p pos apos:Pos}{e o:Expr}{es:List Expr}{ta:TE}{t:TA}
theorem oB{pl:Sem Bool}(c:ff X.prog X.w X.K X.mg X.base C m k ps sp)(he:PE X o ta)(hr:ez k X.A)(ha:PA X (e::es) t)
  (hst:starEach (e::es) X.env=(false,eval e X.env)::starEach es X.env:=by rfl) (hpl:(backTo pos (starEach es X.env)).any (·.1)=false:=by rfl)
  (ht : eval (.Call (.Attribute o m apos) (e :: es) [] pos) X.env = (do
   let ov<-eval o X.env
   standAt apos.atName
   let (f,first)<-holding [ov] (getMethod ov m pl)
   callWith pos f first (backTo pos (starEach (e::es) X.env)) (backToKw pos (keywordEach [] X.env))):=by rfl):
  PE X (.Call (.Attribute o m apos) (e::es) [] pos) (kP C m sp [] E0 ta t):=by
 obtain⟨f,fd,F,b,mm⟩:=c.ex
 exact Yu (pl:=pl) he c.cl mm F hr b .nil Az ha hst hpl ht
theorem pU{pl:Sem Bool}(c:ff X.prog X.w X.K X.mg X.base C m k ps sp)(he:PE X o ta)(hr:ez k X.A)
  (ht : eval (.Call (.Attribute o m apos) [] [] pos) X.env = (do
   let ov<-eval o X.env
   standAt apos.atName
   let (f,first)<-holding [ov] (getMethod ov m pl)
   callWith pos f first (backTo pos (starEach [] X.env)) (backToKw pos (keywordEach [] X.env))):=by rfl):
  PE X (.Call (.Attribute o m apos) [] [] pos) (kP C m sp [] E0 ta bE):=by
 obtain⟨f,fd,F,b,mm⟩:=c.ex
 exact acF (pl:=pl) he c.cl mm F hr b .nil Az ht
theorem Oj(c:tu X.prog X.w X.K X.mg X.base C x k ps sp)(hr:ez (k+1) X.A)(ha:PA X (e::es) t)(hg:Gl X x:=by rfl)
  (hdb:(x==("__debug__":Str))=false:=by decide) (he:starEach (e::es) X.env=(false,eval e X.env)::starEach es X.env:=by rfl) (hpl:(backTo pos (starEach es X.env)).any (·.1)=false:=by rfl):
  PE X (.Call (.Name x p) (e::es) [] pos) (Gs C sp [] E0 t):=by
 obtain⟨f,fd,F,b,M,m⟩:=c.ex
 exact aay M F hr hg m b .nil Az ha hdb he hpl
end
section
variable{G:Gx}{ρ:Rh}{nb:Addr->Prop}{σ:St}{H H':Hp}{i:Nat}{c c':Cu}{E:DE}
theorem Wd.rJ(W:Wd G nb ρ σ H)(e:ρ[i]?=some (.cu c))(hH:∀a o,a∉c.F->H a=some o->H' a=some o)(hv:c'.v=c.v)(hF:∀a∈c'.F,a∈c.F\/H a=none\/(nb a/\NB G.B a/\∀(j:Nat) s,ρ[j]?=some s->a∉s.adr))(hl:∀a,a∈c.F\/a∈c'.F->H' a≠none)
    (h:c'.P (G.S (fun x=>nb x\/x∈c'.F) c'.f) H'):Wd G (fun x=>nb x\/x∈c'.F) (ρ.set i (.cu c')) σ H':=by
  obtain⟨x0,e1,h1,h2,h3⟩:=W.ok i _ e
  subst h1
  have hil:i<ρ.length:=(bT.mp e).1
  obtain⟨L,hL⟩:∃L,L=c'.F.filter fun a=>(H a).isNone:=⟨_,rfl⟩
  have ha:∀a∈L,H a=none:=fun a m=>by
    rw[hL,jh] at m
    exact I0.mp m.2
  have Wj:∀a∈c'.F,nb a\/a∈L:=fun a m=>by
    rcases hF a m with z|z|z
    · exact .inl (h2 a z).1
    · exact .inr (by rw[hL];exact jh.mpr ⟨m,I0.mpr z⟩)
    · exact .inl z.1
  have hA:∀f x,G.S (fun x=>nb x\/x∈c'.F) f x->(G.S nb f x\/x∈L):=fun f x z=>by
    rcases z with (z|z)|z|z|z
    · exact .inl (.inl z)
    · exact(Wj x z).elim (fun z=> .inl (.inl z)) .inr
    · exact .inl (.inr (.inl z))
    · exact .inl (.inr (.inr (.inl z)))
    · exact .inl (.inr (.inr (.inr z)))
  have bt:∀f,aZ (G.S (fun x=>nb x\/x∈c'.F) f) H H':=fun f a o n q=>hH a o (fun z=>n (.inl (.inl (h2 a z).1))) q
  have fD:∀{S:Addr->Prop} {d:PyData} {v:V},af S H d v->af (fun a=>S a\/a∈L) H d v:=fun{S d v} h=>ko (P:=fun S=>af S H d v) (fun z h=>af.av z h) (fun hp h=>af.fresh hp h) ha h
  have D5:∀{S:Addr->Prop} {d:List PyData} {v:List V},ah S H d v->ah (fun a=>S a\/a∈L) H d v:=fun{S d v} h=>ko (P:=fun S=>ah S H d v) (fun z h=>ah.av z h) (fun hp h=>ah.fresh hp h) ha h
  have CG:∀{S:Addr->Prop} {d:List (PyData×PyData)} {v:List (Key×V)},aq S H d v->aq (fun a=>S a\/a∈L) H d v:=fun{S d v} h=>ko (P:=fun S=>aq S H d v) (fun z h=>aq.av z h) (fun hp h=>aq.fresh hp h) ha h
  have fH:∀{S:Addr->Prop} {d:HD} {v:V},fk S H d v->fk (fun a=>S a\/a∈L) H d v:=fun{S d v} h=>ko (P:=fun S=>fk S H d v) (fun z h=>fk.av h z) (fun hp h=>fk.fresh h hp) ha h
  have jk:∀a∈c'.F,NB G.B a:=fun a m=>(hF a m).elim (fun z=>(h2 a z).2) fun z=>z.elim (fun z=>NB.new W.au z) fun z=>z.2.1
  have abU:kO G.B H':=fun b l eb=>by
    obtain⟨ns,i0,c0,st,n,g1,g2,g3⟩:=W.au b l eb
    have hb:b∉c.F:=fun z=>(h2 b z).2 b l eb rfl
    have Fx:l∉c.F:=fun z=>by
      obtain⟨_,_,_,_,_,_,q2,_⟩:=W.gB b l eb
      rw[W.cY l (h2 l z).1 (h2 l z).2] at q2;cases q2
    exact⟨ns,i0,c0,st,n,hH _ _ hb g1,hH _ _ Fx g2,g3⟩
  have other:∀(j:Nat) s,i≠j->ρ[j]?=some s->∀a∈s.adr,a∉c.F:=fun j s hij hs a m z=>W.dU i j c s hij e hs a z m
  refine⟨abU,fun a n=>?_,fun a o n q=>?_,fun a n q=>?_,W.gA,by rw[jg];exact W.len,W.gB,fun h m=>((fH (W.eE h m)).av (hA h.1)).keep (bt h.1),fun j s e'=>?_,?_,?_,?_⟩
  · rcases n with n|n
    · by_cases z:a∈c.F
      · exact hl a (.inl z)
      · cases q:H a with
        |none=>exact absurd q (W.live a n)
        |some o=>rw[hH a o z q];exact eO _
    · exact hl a (.inr n)
  · refine hH a o (fun z=>?_) (W.old a o n q)
    rw[W.cY a (h2 a z).1 n] at q;cases q
  · rcases n with n|n
    · exact W.cY a n q
    · rcases hF a n with z|z|z
      · exact W.cY a (h2 a z).1 q
      · cases w:G.H0 a with
        |none=>rfl
        |some o=>rw[W.old a o q w] at z;cases z
      · exact W.cY a z.1 q
  · by_cases hij:i=j
    · subst hij
      rw[cU hil] at e'
      cases e'
      exact⟨some c.v,e1,by rw[hv],fun a m=>⟨.inr m,jk a m⟩,h⟩
    · rw[bO hij] at e'
      obtain⟨x,e2,q⟩:=W.ok j s e'
      refine⟨x,e2,?_⟩
      have ap:=other j s hij e'
      cases s with
      |no=>trivial
      |d f d=>obtain⟨v,e,h⟩:=q;exact⟨v,e,((fD h).av (hA f)).keep (bt f)⟩
      |own a f es=>obtain⟨e,n,q,xs,hx,hd⟩:=q;exact⟨e, .inl n,q,xs,hH _ _ (ap a (aK.mpr rfl)) hx,((D5 hd).av (hA f)).keep (bt f)⟩
      |au=>exact q
      |raw v=>exact q
      |bN a f es=>obtain⟨e,n,q,xs,hx,hd⟩:=q;exact⟨e, .inl n,q,xs,hH _ _ (ap a (aK.mpr rfl)) hx,((CG hd).av (hA f)).keep (bt f)⟩
      | cu c2 =>
        obtain⟨e,n,q⟩:=q
        refine⟨e,fun a ha=>⟨.inl (n a ha).1,(n a ha).2⟩,c2.keep (.of fun x o hx e=>hH x o ?_ e) (c2.av (hA c2.f) (ko (P:=fun S=>c2.P S H) (fun z h=>c2.av z h) (fun hp h=>c2.fresh hp h) ha q))⟩
        rcases hx with hx|hx
        · exact fun z=>hx (.inl (.inl (h2 x z).1))
        · exact ap x hx
  all_goals
    intro j k
  · intro a f as c2 g cs hjk q1 q2
    have hj:i≠j:=fun z=>by subst z;rw[cU hil] at q1;cases q1
    have hk:i≠k:=fun z=>by subst z;rw[cU hil] at q2;cases q2
    rw[bO hj] at q1
    rw[bO hk] at q2
    exact W.apart j k a f as c2 g cs hjk q1 q2
  · intro a f as c2 g cs hjk q1 q2
    have hj:i≠j:=fun z=>by subst z;rw[cU hil] at q1;cases q1
    have hk:i≠k:=fun z=>by subst z;rw[cU hil] at q2;cases q2
    rw[bO hj] at q1
    rw[bO hk] at q2
    exact W.fM j k a f as c2 g cs hjk q1 q2
  · intro c2 s hjk q1 q2 a m z
    have K0:∀(j:Nat) s,i≠j->ρ[j]?=some s->∀a∈s.adr,a∉c'.F:=fun j s hij hs a m z=>by
      rcases hF a z with w|w|w
      · exact other j s hij hs a m w
      · obtain⟨x,_,q⟩:=W.ok j s hs
        exact W.live a (q.vU a m).1 w
      · exact w.2.2 j s hs m
    by_cases hj:i=j
    · subst hj
      rw[cU hil] at q1
      cases q1
      rw[bO hjk] at q2
      exact K0 k s hjk q2 a z m
    · rw[bO hj] at q1
      by_cases hk:i=k
      · subst hk
        rw[cU hil] at q2
        cases q2
        exact K0 j _ hj q1 a m z
      · rw[bO hk] at q2
        exact W.dU j k c2 s hjk q1 q2 a m z
end
def bW(G:Gx)(ρ:Rh)(te:TE)(Φ:Rh->Pd):Prop:=∀nb σ H (Q:VK),Wd G nb ρ σ H->(∀aC ρ' f v H' d,Φ ρ' f d->Wd G aC ρ' σ H'->af (G.S aC f) H' d v->Q v H')->te σ H Q
def nP(G:Gx)(ρ:Rh)(tt:TT)(Φ:Rh->Bool->Prop):Prop:=∀nb σ H (Q:Bool->Hp->Prop),Wd G nb ρ σ H->(∀aC ρ' b H',Φ ρ' b->Wd G aC ρ' σ H'->Q b H')->tt σ H Q
def sO(G:Gx)(ρ:Rh)(ta:TA)(Φ:Rh->List Fd->Prop):Prop:=∀nb σ H (Q:List V->Hp->Prop),Wd G nb ρ σ H->(∀aC ρ' es vs H',Φ ρ' es->Wd G aC ρ' σ H'->kL G aC H' es vs->Q vs H')->ta σ H Q
section
variable{G:Gx}{ρ:Rh}{Φ:Rh->Pd}{ta tb te:TE}{t:TA}{c u:TT}{i:Nat}{E:DE}{s s':TS}
theorem bW.of(h:Ev G ρ te (Φ ρ)):bW G ρ te Φ:=fun nb σ H Q W z=>h nb σ H Q W fun f v H' d q st hv=>z nb ρ f v H' d q (W.step st) hv
theorem sO.cons{Θ:Rh->List Fd->Prop}(h:bW G ρ te fun ρ' f d=>Av G ρ' t fun es=>Θ ρ' ((f,d)::es)):sO G ρ (aX te t) Θ:=fun nb σ H Q W z=>
 h nb σ H _ W fun aC ρ' f v H1 d p1 W1 q1=>p1 aC σ H1 _ W1 fun es vs H2 p2 s2 q2=>z aC ρ' _ _ H2 p2 (W1.step s2) ⟨v,vs,rfl,q1.keep s2.dz,q2⟩
theorem bW.gG{n:Nat}{F:DF}(hm:fq F)(h:sO G ρ t fun ρ' es=>es.length=n/\F (es.map (·.2)) fun f d=>Φ ρ' (f||jT es) d):bW G ρ (iF (cK n F) [] E0 t) Φ:=fun nb σ H Q W z=>
 h nb σ H _ W fun aC ρ' es vs H1 ⟨hl,p⟩ W1 q1=>by
  rw[gH]
  refine⟨by rw[q1.len,hl],G.S aC (jT es),es.map (·.2),W1.iR,q1.all fun z=>z,hm _ _ _ p fun f d hp v H' sm hd=>z aC ρ' _ v H' d hp (W1.step (.same W1.au sm)) (hd.av fun a q=>?_)⟩
  cases f with
  |false=>rw[se] at q;exact .inl q
  |true=>exact .inr ⟨rfl,W1.iR a q⟩
theorem nP.uZ{K:PySem.W.Frag}{Θ:Rh->Bool->Prop}(h:bW G ρ te fun ρ' _ x=>∃b,x= .bool b/\Θ ρ' b):nP G ρ (Bd K te) Θ:=fun nb σ H Q W z=>
 h nb σ H _ W fun aC ρ' f v H1 d ⟨b,e,q⟩ W1 hv=>by subst e;exact⟨b,by unfold af at hv;subst hv;rfl,z aC ρ' b H1 q W1⟩
theorem nP.not{Θ:Rh->Bool->Prop}(h:nP G ρ c fun ρ' b=>Θ ρ' (!b)):nP G ρ (xY c) Θ:=fun nb σ H Q W z=>h nb σ H _ W fun aC ρ' b H1 q W1=>z aC ρ' _ H1 q W1
namespace Sv
theorem Ec{g:TG}(h:bW G ρ te fun ρ' f d=>Gv G ρ' g f d E.nx):Sv G ρ (fZ te g) E:=fun nb σ H D W K=>h nb σ H _ W fun aC ρ' f v H1 d q W1 hv=>q aC σ H1 v _ W1 hv fun σ' ρ' p W'=>K.nx aC ρ' σ' H1 p W'
theorem D7(h:bW G ρ te fun ρ' _ _=>E.nx ρ'):Sv G ρ (nB te) E:=fun nb σ H D W K=>h nb σ H _ W fun aC ρ' f v H1 d q W1 hv=>K.nx aC ρ' σ H1 q W1
theorem retS(h:bW G ρ te fun _=>E.rt):Sv G ρ (mW te) E:=fun nb σ H D W K=>h nb σ H _ W fun aC ρ' f v H1 d q W1 hv=>K.rt aC ρ' σ f v H1 d q W1 (hv.av (cL (fun z=>z) fun _ z=>z.elim))
theorem mO(h:bW G ρ te fun ρ' f d=>∀nb v H,af (G.S nb f) H d v->E.rw nb ρ' v H):Sv G ρ (mW te) E:=fun nb σ H D W K=>h nb σ H _ W fun aC ρ' f v H1 d q W1 hv=>K.rw aC ρ' σ v H1 (q aC v H1 hv) W1
theorem ab5(h:nP G ρ c fun ρ' b=>if b=true then Sv G ρ' s E else Sv G ρ' s' E):Sv G ρ (yr c s s') E:=fun nb σ H D W K=>h nb σ H _ W fun aC ρ' b H1 q W1=>by
 cases b with
 |true=>rw[if_pos rfl] at q⊢;exact q aC σ H1 D W1 K
 |false=>rw[if_neg bV] at q⊢;exact q aC σ H1 D W1 K
end Sv
end
structure iJ(c c':Cu)(H H':Hp):Prop where
 v:c'.v=c.v
 f:c'.f=false
 sub:∀a∈c.F,a∈c'.F
 new:∀a∈c'.F,a∈c.F\/H a=none
 kp:∀a o,a∉c.F->H a=some o->H' a=some o
 lv:∀a∈c'.F,H' a≠none
abbrev CF:=Cu->List PyData->(Cu->Pd)->Prop
def iV(F:CF):Prop:=∀c ds (Φ Ψ:Cu->Pd),F c ds Φ->(∀c f d,Φ c f d->Ψ c f d)->F c ds Ψ
def cB(n:Nat)(F:CF):Sp:=fun vs H Q _=>vs.length=n/\∃(nb:Addr->Prop) (c:Cu) (ws:List V) (ds:List PyData),vs=c.v::ws/\iE nb H/\(∀a∈c.F,nb a)/\c.f=false/\c.P nb H/\ah nb H ds ws/\
 F c ds fun c' f d=>∀v H',iJ c c' H H'->c'.P (fun a=>nb a\/a∈c'.F) H'->af (fun a=>nb a\/a∈c'.F\/(f=true/\H a≠none)) H' d v->Q v H'
section
variable{G:Gx}{ρ:Rh}{Φ:Rh->Pd}{ta tb te:TE}{t:TA}{i:Nat}{E:DE}{c:Cu}{C:Addr}{m:Str}{n:Nat}{F:CF}
theorem bW.PR{nb:Addr->Prop}{σ:St}{H1:Hp}{Q:VK}{es:List Fd}{vs:List V}(hm:iV F)(e:ρ[i]?=some (.cu c))(W1:Wd G nb ρ σ H1)(q1:kL G nb H1 es vs)(hl:es.length+1=n)(hcf:c.f=false)(p:F c (es.map (·.2)) fun c' f d=>Φ (ρ.set i (.cu c')) f d)
  (z:∀aC ρ' f v H' d,Φ ρ' f d->Wd G aC ρ' σ H'->af (G.S aC f) H' d v->Q v H'):cB n F (c.v::(vs++[])) H1 Q E0:=by
 rw[gH]
 obtain⟨x0,e1,h1,h2,h3⟩:=W1.ok i _ e
 refine⟨by rw[fG,q1.len,hl],G.S nb false,c,vs,es.map (·.2),rfl,W1.iR,fun a m=> .inl (h2 a m).1,hcf,by rw[hcf] at h3;exact h3,q1.all (f:=false) (fun z=>by cases z),hm _ _ _ _ p fun c' f d hp v H' to hP hd=>?_⟩
 refine z _ _ f v H' d hp (W1.rJ (c':=c') e to.kp to.v (fun a m=>(to.new a m).imp id .inl) (fun a m=>m.elim (fun m=>to.lv a (to.sub a m)) fun m=>to.lv a m) (c'.av (fun a y=>?_) hP)) (hd.av fun a y=>?_)
 ·rw[to.f] at y
  rcases y with (y|y)|y|y|y
  ·exact .inl (.inl y)
  ·exact .inr y
  ·exact .inl (.inr (.inl y))
  ·exact .inl (.inr (.inr (.inl y)))
  ·cases y.1
 ·rcases y with (y|y)|y|y|y
  ·exact .inl (.inl y)
  ·exact .inr (.inl y)
  ·exact .inl (.inr (.inl y))
  ·exact .inl (.inr (.inr (.inl y)))
  ·exact .inr (.inr ⟨y.1,W1.iR (f:=true) a (.inr (.inr (.inr ⟨rfl,y.2⟩)))⟩)
theorem bW.nE(hm:iV F)(e:ρ[i]?=some (.cu c))(hcf:c.f=false)(hi:∀S H,c.P S H->∃a dx fs,c.v= .ref a/\H a=some (.ins C dx fs)/\fs.lookup m=none)
  (h:Av G ρ t fun es=>es.length+1=n/\F c (es.map (·.2)) fun c' f d=>Φ (ρ.set i (.cu c')) f d):bW G ρ (kP C m (cB n F) [] E0 (bf i) t) Φ:=fun nb σ H Q W z=>by
 obtain⟨x0,e1,h1,h2,h3⟩:=W.ok i _ e
 subst h1
 obtain⟨a,dx,fs,g1,g2,g3⟩:=hi _ _ h3
 refine⟨c.v,e1,a,dx,fs,g1,g2,g3,h nb σ H _ W fun es vs H1 ⟨hl,p⟩ s1 q1=>?_⟩
 exact bW.PR hm e (W.step s1) q1 hl hcf p z
theorem bW.callC(hm:iV F)(e:ρ[i]?=some (.cu c))(hcf:c.f=false)(h:Av G ρ t fun es=>es.length+1=n/\F c (es.map (·.2)) fun c' f d=>Φ (ρ.set i (.cu c')) f d):bW G ρ (iF (cB n F) [] E0 (aX (bf i) t)) Φ:=fun nb σ H Q W z=>by
 obtain⟨x0,e1,h1,h2,h3⟩:=W.ok i _ e
 subst h1
 refine⟨c.v,e1,h nb σ H _ W fun es vs H1 ⟨hl,p⟩ s1 q1=>?_⟩
 exact bW.PR hm e (W.step s1) q1 hl hcf p z
end
def fT(F:List Addr)(H:Hp)(nb:Addr->Prop):Gx:=⟨none,fun a=>if a∈F then none else H a,fun a=>nb a/\a∉F,[]⟩
structure qG(c c':Cu):Prop where
 v:c'.v=c.v
 f:c'.f=false
 sub:∀a∈c.F,a∈c'.F
def objE(G:Gx)(c:Cu)(Φ:Cu->Pd):DE where
 nx:=fun ρ=>∃c',ρ[0]?=some (.cu c')/\qG c c'/\Φ c' true .none
 rt:=fun _ _=>False
 rw:=fun nb ρ v H=>∃c' f d,ρ[0]?=some (.cu c')/\qG c c'/\Φ c' f d/\af (G.S nb f) H d v
section
variable{ρ:Rh}{t:TS}{N:List Str}{ws:List V}{ds:List PyData}{nb:Addr->Prop}{H:Hp}{Q:VK}{Φ:Cu->Pd}{c:Cu}
theorem Sv.kX(hl:iE nb H)(hF:∀a∈c.F,nb a)(hf:c.f=false)(hP:c.P nb H)(hd:ah nb H ds ws)
    (az:∀c' f d v H',Φ c' f d->iJ c c' H H'->c'.P (fun a=>nb a\/a∈c'.F) H'->af (fun a=>nb a\/a∈c'.F\/(f=true/\H a≠none)) H' d v->Q v H')
    (dH:ρ= .cu c::ds.map (Sl.d false)++List.replicate (N.length-(ds.length+1)) .no) (h:Sv (fT c.F H nb) ρ t (objE (fT c.F H nb) c Φ)):t {nx:=fun _ H'=>Q .aI H',rt:=Q} (start N (c.v::ws)) H:=by
  have hlen:=hd.length
  have jk:∀a,NB (fT c.F H nb).B a:=fun a b l e=>by cases e
  have key:∀{aC ρ' σ' H' c'} {f:Bool} {d:PyData} {v:V},Wd (fT c.F H nb) aC ρ' σ' H'->ρ'[0]?=some (.cu c')->qG c c'->Φ c' f d->af ((fT c.F H nb).S aC f) H' d v->Q v H':=fun{aC ρ' σ' H' c' f d v} W e up p hv=>by
    obtain⟨x0,e1,h1,h2,h3⟩:=W.ok 0 _ e
    have uu:∀(f:Bool) a,nb a\/a∈c'.F\/(f=true/\H a≠none)->(fT c.F H nb).S aC f a:=fun f a z=>by
      by_cases m:a∈c'.F
      · exact .inl (h2 a m).1
      have m':a∉c.F:=fun z=>m (up.sub a z)
      rcases z with z|z|z
      · exact .inr (.inl ⟨z,m'⟩)
      · exact absurd z m
      · exact .inr (.inr (.inr ⟨z.1,by show(if a∈c.F then none else H a)≠none;rw[if_neg m'];exact z.2⟩))
    refine az c' f d v H' p ⟨up.v,up.f,up.sub,fun a m=>?_,fun a o n q=>?_,fun a m=>W.live a (h2 a m).1⟩ (c'.av (fun a z=>by rw[up.f];exact uu false a (z.elim .inl fun z=> .inr (.inl z))) h3) (hv.av (uu f))
    · have:=W.cY a (h2 a m).1 (h2 a m).2
      by_cases z:a∈c.F
      · exact .inl z
      · exact .inr (by have q:(if a∈c.F then none else H a)=none:=this;rwa[if_neg z] at q)
    · exact W.old a o (jk a) (by show(if a∈c.F then none else H a)=_;rw[if_neg n];exact q)
  refine h (fun a=>a∈c.F) _ H _ ⟨fun _ _ z=>(by cases z),fun a z=>hl a (hF a z),fun a o _ e=>?_,fun a z _=>by show(if a∈c.F then none else H a)=none;rw[if_pos z],fun a z=>?_,?_,fun _ _ z=>(by cases z),fun _ m=>(by cases m),fun i s e=>?_,?_,?_,?_⟩ ⟨fun aC ρ' σ' H' ⟨c',e,up,p⟩ W=>key W e up p .aI,fun _ _ _ _ q _=>q.elim,fun _ _ _ _ q _=>q.elim,fun _ _ _ _ _ _ _ q _ _=>q.elim,fun aC ρ' σ' v H' ⟨c',f,d,e,up,p,hv⟩ W=>key W e up p hv⟩
  · have e:(if a∈c.F then none else H a)=some o:=e
    by_cases z:a∈c.F
    · rw[if_pos z] at e;cases e
    · rwa[if_neg z] at e
  · show(if a∈c.F then none else H a)≠none
    rw[if_neg z.2];exact hl a z.1
  · rw[dH];unfold start;simp[hlen]
  · rw[dH] at e
    unfold start
    have av:∀a,(fT c.F H nb).S (fun a=>a∈c.F) false a->nb a:=fun a z=>by
      rcases z with z|z|z|z
      · exact hF a z
      · exact z.1
      · exact absurd (jk a) z
      · cases z.1
    cases i with
    |zero=>simp at e;subst e;exact⟨some c.v,by simp,rfl,fun a m=>⟨m,jk a⟩,by rw[hf];exact c.av av hP⟩
    | succ i =>
      simp only[kI,j3,bL,fG] at e⊢
      by_cases hi:i<ds.length
      · rw[gM (by rw[ao];exact hi)] at e
        obtain⟨v,d,hv,rfl,q⟩:=j7 hd e
        refine⟨some v,?_,v,rfl,q.av av⟩
        rw[gM (by rw[ao,hlen];exact hi),bI,hv];rfl
      · rw[iu (by rw[ao];omega),eY] at e
        split at e
        · rename_i h'
          cases e
          refine⟨none,?_,trivial⟩
          rw[ao] at h'
          rw[iu (by rw[ao];omega),eY,if_pos (by rw[ao,hlen];exact h')]
        · cases e
  all_goals
    have sl:∀{i:Nat} {s:Sl},ρ[i+1]?=some s->s.adr=[]:=fun{i s} e1=>by
      rw[dH] at e1
      simp only[kI,j3] at e1
      by_cases hi:i<ds.length
      · rw[gM (by rw[ao];exact hi)] at e1
        obtain⟨_,_,_,z,_⟩:=j7 hd e1
        subst z;rfl
      · rw[iu (by rw[ao];omega),eY] at e1
        split at e1
        · cases e1;rfl
        · cases e1
    have s0:∀{s:Sl},ρ[0]?=some s->s= .cu c:=fun{s} e1=>by rw[dH] at e1;simp at e1;exact e1.symm
  · intro i j a f as c2 g cs hij e1
    cases i with
    |zero=>cases s0 e1
    |succ i=>cases sl e1
  · intro i j a f as c2 g cs hij e1
    cases i with
    |zero=>cases s0 e1
    |succ i=>cases sl e1
  · intro i j c2 s hij e1 e2 a m
    cases i with
    | zero =>
      cases j with
      |zero=>exact absurd rfl hij
      |succ j=>rw[sl e2];exact fun z=>by cases z
    | succ i =>
      have:=sl e1
      rw[show Sl.adr (.cu c2)=c2.F from rfl] at this
      rw[this] at m;cases m
end
end L2
set_option maxRecDepth 100000
set_option maxHeartbeats 4000000
namespace L2
open PySem PySem.Spec PyProof.Rows
theorem Kp.sub{S:Addr->Prop}{F F':List Addr}{H H':Hp}(k:Kp S F H H')(h:∀a∈F',a∈F):Kp S F' H H':=⟨fun a m=>k.own a (h a m),k.lst,k.tup,k.bN⟩
def kC(a:Addr)(ds:List PyData):Cu where
 v:= .ref a
 F:=[a]
 f:=false
 P:=fun S H=>∃xs,H a=some (.lst xs)/\ah S H ds xs
 keep:=fun k ⟨xs,h,q⟩=>⟨xs,k.own _ (aK.mpr rfl) _ h,ah.kp k q⟩
 av:=fun z ⟨xs,h,q⟩=>⟨xs,h,q.av z⟩
 fresh:=fun z ⟨xs,h,q⟩=>⟨xs,h,q.fresh z⟩
def cD(a:Addr)(ks:List (Int×PyData)):Cu where
 v:= .ref a
 F:=[a]
 f:=false
 P:=fun S H=>∃ps,H a=some (.dK ps)/\aq S H (ks.map aG) ps
 keep:=fun k ⟨xs,h,q⟩=>⟨xs,k.own _ (aK.mpr rfl) _ h,aq.kp k q⟩
 av:=fun z ⟨xs,h,q⟩=>⟨xs,h,q.av z⟩
 fresh:=fun z ⟨xs,h,q⟩=>⟨xs,h,q.fresh z⟩
inductive Fl where
 |d (d:PyData)|cu (c:Cu)
def Fl.adr:Fl->List Addr
 | .d _=>[]
 | .cu c=>c.F
def lA(S:Addr->Prop)(H:Hp)(v:V):Fl->Prop
 | .d d=>af S H d v
 | .cu c=>v=c.v/\c.P S H
abbrev Fs:=List (Str×Fl)
def cE(S:Addr->Prop)(H:Hp):Fs->List (Str×V)->Prop
 |[],vs=>vs=[]
 |f::fs,vs=>∃v ws,vs=(f.1,v)::ws/\lA S H v f.2/\cE S H fs ws
def bH(x dx:Addr)(fs:Fs):List Addr:=x::dx::fs.flatMap fun f=>f.2.adr
theorem lA.map{S S':Addr->Prop}{H H':Hp}{v:V}{fl:Fl}(h:lA S H v fl)(hd:∀d v,af S H d v->af S' H' d v)(hc:∀c,fl= .cu c->c.P S H->c.P S' H'):lA S' H' v fl:=by
 cases fl with
 |d d=>exact hd _ _ h
 |cu c=>exact⟨h.1,hc c rfl h.2⟩
theorem cE.map{S S':Addr->Prop}{H H':Hp}:∀{fs:Fs} {vs:List (Str×V)},cE S H fs vs->(∀d v,af S H d v->af S' H' d v)->(∀f∈fs,∀c,f.2= .cu c->c.P S H->c.P S' H')->cE S' H' fs vs
 |[],_,h,_,_=>h
 |f::fs,_,⟨v,ws,e,h1,h2⟩,hd,hc=>⟨v,ws,e,h1.map hd (hc f (cA ..)),cE.map h2 hd fun g m=>hc g (bX _ m)⟩
theorem Jb{x dx:Addr}{fs:Fs}{f:Str×Fl}(h:f∈fs){a:Addr}(m:a∈f.2.adr):a∈bH x dx fs:=bX _ (bX _ (Aa.mpr ⟨f,h,m⟩))
def aA(C x dx:Addr)(fs:Fs):Cu where
 v:= .ref x
 F:=bH x dx fs
 f:=false
 P:=fun S H=>(bH x dx fs).Nodup/\H dx=some (.own x)/\fs.length<=900/\∃vs,H x=some (.ins C dx vs)/\cE S H fs vs
 keep:=fun k ⟨n,h,l,vs,q,r⟩=>⟨n,k.own _ (by simp[bH]) _ h,l,vs,k.own _ (by simp[bH]) _ q,r.map (fun d v z=>af.kp k z) fun f m c e z=>c.keep (k.sub fun a y=>Jb m (by rw[e];exact y)) z⟩
 av:=fun z ⟨n,h,l,vs,q,r⟩=>⟨n,h,l,vs,q,r.map (fun d v y=>y.av z) fun f m c e y=>c.av z y⟩
 fresh:=fun z ⟨n,h,l,vs,q,r⟩=>⟨n,h,l,vs,q,r.map (fun d v y=>y.fresh z) fun f m c e y=>c.fresh z y⟩
theorem cE.get{S:Addr->Prop}{H:Hp}{f:Str}{fl:Fl}:∀{fs:Fs} {vs:List (Str×V)},cE S H fs vs->fs.lookup f=some fl->∃v,vs.lookup f=some v/\lA S H v fl
  |[],_,h,e=>by simp at e
  | (g, x) :: fs, _, ⟨v, ws, e, h1, h2⟩, q => by
    subst e
    rw[fK] at q⊢
    cases hb:(f==g) with
    |true=>rw[hb] at q;cases q;exact⟨v,rfl,h1⟩
    |false=>rw[hb] at q;exact cE.get h2 q
theorem cE.no{S:Addr->Prop}{H:Hp}{f:Str}:∀{fs:Fs} {vs:List (Str×V)},cE S H fs vs->fs.lookup f=none->vs.lookup f=none
  |[],_,h,e=>by unfold cE at h;subst h;rfl
  | (g, x) :: fs, _, ⟨v, ws, e, h1, h2⟩, q => by
    subst e
    rw[fK] at q⊢
    cases hb:(f==g) with
    |true=>rw[hb] at q;cases q
    |false=>rw[hb] at q;exact cE.no h2 q
def dw(f:Str)(v:Fl):Fs->Fs
 |[]=>[(f,v)]
 |(g,x)::r=>if g=f then(g,v)::r else(g,x)::dw f v r
theorem cE.put{S:Addr->Prop}{H:Hp}{f:Str}{fl:Fl}{v:V}(hv:lA S H v fl):∀{fs:Fs} {vs:List (Str×V)},cE S H fs vs->cE S H (dw f fl fs) (fR f v vs)
  |[],_,h=>by unfold cE at h;subst h;exact⟨v,[],rfl,hv,rfl⟩
  | (g, x) :: fs, _, ⟨w, ws, e, h1, h2⟩ => by
    subst e
    unfold dw fR
    by_cases h:g=f
    · rw[if_pos h,if_pos h];exact⟨v,ws,rfl,hv,h2⟩
    · rw[if_neg h,if_neg h];exact⟨w,_,rfl,h1,cE.put hv h2⟩
theorem cE.len{S:Addr->Prop}{H:Hp}:∀{fs:Fs} {vs:List (Str×V)},cE S H fs vs->vs.length=fs.length
 |[],_,h=>by unfold cE at h;subst h;rfl
 |f::fs,_,⟨v,ws,e,h1,h2⟩=>by subst e;simp[cE.len h2]
theorem aA.is{C x dx:Addr}{fs:Fs}{m:Str}(hm:fs.lookup m=none):∀S H,(aA C x dx fs).P S H->∃a dx' vs,(aA C x dx fs).v= .ref a/\H a=some (.ins C dx' vs)/\vs.lookup m=none:=fun S H ⟨n,h,l,vs,q,r⟩=>⟨x,dx,vs,rfl,q,r.no hm⟩
section
variable{G:Gx}{ρ:Rh}{Φ:Pd}{ta tb te:TE}{t:TA}{i:Nat}{E:DE}{C x dx l:Addr}{fs:Fs}{K:PySem.W.Frag}{f m:Str}{d:PyData}{ds:List PyData}
theorem Wd.jB{nb:Addr->Prop}{σ:St}{H:Hp}(W:Wd G nb ρ σ H)(e:ρ[i]?=some (.cu (aA C x dx fs))):∃vs,σ[i]?=some (some (.ref x))/\(∀a∈bH x dx fs,nb a/\NB G.B a)/\(bH x dx fs).Nodup/\H dx=some (.own x)/\fs.length<=900/\H x=some (.ins C dx vs)/\cE (G.S nb false) H fs vs:=by
 obtain⟨x0,e1,h1,h2,n,h,l,vs,q,r⟩:=W.ok i _ e
 subst h1
 exact⟨vs,e1,h2,n,h,l,q,r⟩
theorem Ev.fld(e:ρ[i]?=some (.cu (aA C x dx fs)))(cl:cg K C)(na:aT K C f)(hl:fs.lookup f=some (.d d))(h:Φ false d):Ev G ρ (iZ K (bf i) f) Φ:=fun nb σ H Q W z=>by
 obtain⟨vs,e1,h2,n,h3,l,q,r⟩:=W.jB e
 obtain⟨v,g1,g2⟩:=r.get hl
 exact⟨.ref x,e1,x,C,dx,vs,v,rfl,q,cl,na,g1,z false v H d h (.refl W.au) g2⟩
theorem lookup_mem{fl:Fl}:∀{fs:Fs},fs.lookup f=some fl->(f,fl)∈fs
  |[],h=>by simp at h
  | (g, y) :: r, h => by
    rw[fK] at h
    cases hb:(f==g) with
    |true=>rw[hb] at h;cases h;rw[beq_iff_eq.mp hb];exact cA ..
    |false=>rw[hb] at h;exact bX _ (lookup_mem h)
theorem oY{fl:Fl}(hl:fs.lookup f=some fl){a:Addr}(m:a∈fl.adr):a∈bH x dx fs:=Jb (lookup_mem hl) m
theorem nJ{nb:Addr->Prop}{σ:St}{H:Hp}{Q:VK}{c:Cu}(W:Wd G nb ρ σ H)(e:ρ[i]?=some (.cu (aA C x dx fs)))(cl:cg K C)(na:aT K C f)(hl:fs.lookup f=some (.cu c))
  (z:(∀a∈c.F,nb a/\NB G.B a)->c.P (G.S nb false) H->Q c.v H):iZ K (bf i) f σ H Q:=by
 obtain⟨vs,e1,h2,n,h3,len,q,r⟩:=W.jB e
 obtain⟨v,g1,g2,g3⟩:=r.get hl
 exact⟨.ref x,e1,x,C,dx,vs,v,rfl,q,cl,na,g1,by rw[g2];exact z (fun a m=>h2 a (oY hl m)) g3⟩
theorem CB{fl qR:Fl}(h':qR.adr=fl.adr):∀{fs:Fs},fs.lookup f=some fl->((dw f qR fs).flatMap fun g=>g.2.adr)=fs.flatMap fun g=>g.2.adr
  |[],h=>by simp at h
  | (g, y) :: r, h => by
    unfold dw
    rw[fK] at h
    cases hb:(f==g) with
    | true =>
      rw[hb] at h;cases h
      rw[if_pos (beq_iff_eq.mp hb).symm,oV,oV,h']
    | false =>
      rw[hb] at h
      rw[if_neg (fun z=>by rw[z,beq_self_eq_true] at hb;cases hb),oV,oV,CB h' h]
theorem E1{fl qR:Fl}:∀{fs:Fs},fs.lookup f=some fl->(dw f qR fs).length=fs.length
  |[],h=>by simp at h
  | (g, y) :: r, h => by
    unfold dw
    rw[fK] at h
    cases hb:(f==g) with
    |true=>rw[if_pos (beq_iff_eq.mp hb).symm];rfl
    | false =>
      rw[hb] at h
      rw[if_neg (fun z=>by rw[z,beq_self_eq_true] at hb;cases hb),fG,fG,E1 h]
theorem lA.wr{S:Addr->Prop}{H:Hp}{v:V}{fl:Fl}{p:Addr}{o:HO}(hS:S p)(hp:p∉fl.adr)(h:lA S H v fl):lA S (upd H p o) v fl:=
 h.map (fun d v z=>z.keep (aZ.set hS)) fun c e z=>c.keep (.of fun a o' m q=>by
  rw[aB]
  ·exact q
  ·rintro rfl
   rcases m with m|m
   ·exact m hS
   ·rw[e] at hp;exact hp m) z
theorem cE.FH{S:Addr->Prop}{H:Hp}{p:Addr}{o:HO}(hS:S p):∀{fs:Fs} {vs:List (Str×V)},(p∉fs.flatMap fun g=>g.2.adr)->cE S H fs vs->cE S (upd H p o) fs vs
  |[],_,_,h=>h
  | g :: fs, _, hp, ⟨v, ws, e, h1, h2⟩ => by
    rw[oV,ir] at hp
    exact⟨v,ws,e,h1.wr hS fun z=>hp (.inl z),cE.FH hS (fun z=>hp (.inr z)) h2⟩
theorem cE.wr{S:Addr->Prop}{H:Hp}{p:Addr}{o:HO}{c c':Cu}(hS:S p)(hp:p∈c.F)(hv:c'.v=c.v)(hc:c'.P S (upd H p o)):∀{fs:Fs} {vs:List (Str×V)},(fs.flatMap fun g=>g.2.adr).Nodup->fs.lookup f=some (.cu c)->cE S H fs vs->cE S (upd H p o) (dw f (.cu c') fs) vs
  |[],_,_,h,_=>by simp at h
  | (g, y) :: r, _, hn, h, ⟨v, ws, e, h1, h2⟩ => by
    unfold dw
    rw[oV,lT] at hn
    rw[fK] at h
    cases hb:(f==g) with
    | true =>
      rw[hb] at h;cases h
      rw[if_pos (beq_iff_eq.mp hb).symm]
      exact⟨v,ws,e,⟨by rw[hv];exact h1.1,hc⟩,cE.FH hS (fun z=>hn.2.2 p hp p z rfl) h2⟩
    | false =>
      rw[hb] at h
      rw[if_neg (fun z=>by rw[z,beq_self_eq_true] at hb;cases hb)]
      exact⟨v,ws,e,h1.wr hS fun z=>hn.2.2 p z p (Aa.mpr ⟨_,lookup_mem h,hp⟩) rfl,cE.wr hS hp hv hc hn.2.1 h h2⟩
theorem Wd.vK{nb:Addr->Prop}{σ:St}{H:Hp}{c c':Cu}{p:Addr}{o:HO}(W:Wd G nb ρ σ H)(e:ρ[i]?=some (.cu (aA C x dx fs)))(hl:fs.lookup f=some (.cu c))(hp:p∈c.F)(hv:c'.v=c.v)(hF:c'.F=c.F)(h:c'.P (G.S nb false) (upd H p o)):
  Wd G nb (ρ.set i (.cu (aA C x dx (dw f (.cu c') fs)))) σ (upd H p o):=by
 obtain⟨vs,e1,h2,n,h3,len,q,r⟩:=W.jB e
 have ye:p∈bH x dx fs:=oY hl hp
 have hS:G.S nb false p:= .inl (h2 p ye).1
 have hn:=n
 unfold bH at hn
 obtain⟨n1,n2⟩:=gR.mp hn
 obtain⟨n3,n4⟩:=gR.mp n2
 have hin:p∈fs.flatMap fun g=>g.2.adr:=Aa.mpr ⟨_,lookup_mem hl,hp⟩
 have hpx:x≠p:=fun z=>n1 (by rw[z];exact bX _ hin)
 have hpd:dx≠p:=fun z=>n3 (by rw[z];exact hin)
 have eF:bH x dx (dw f (.cu c') fs)=bH x dx fs:=by unfold bH;rw[CB (fl:= .cu c) (qR:= .cu c') hF hl]
 refine W.QH (c':=aA C x dx (dw f (.cu c') fs)) e ye rfl (fun a m=>by rw[show(aA C x dx (dw f (.cu c') fs)).F=bH x dx fs from eF] at m;exact m) ?_
 exact⟨by rw[eF];exact n,by rw[aB hpd];exact h3,by rw[E1 hl];exact len,vs,by rw[aB hpx];exact q,cE.wr hS hp hv h n4 hl r⟩
theorem cE.Dl{S:Addr->Prop}{H:Hp}{fl:Fl}{v:V}{p:Addr}{o:HO}(hS:S p)(hv:lA S (upd H p o) v fl){fs:Fs}{vs:List (Str×V)}(hp:p∉fs.flatMap fun g=>g.2.adr)(h:cE S H fs vs):cE S (upd H p o) (dw f fl fs) (fR f v vs):=cE.put hv (cE.FH hS hp h)
theorem t8{fl:Fl}:∀{fs:Fs},fs.lookup f=none->dw f fl fs=fs++[(f,fl)]
  |[],_=>rfl
  | (g, y) :: r, h => by
    unfold dw
    rw[fK] at h
    cases hb:(f==g) with
    |true=>rw[hb] at h;cases h
    | false =>
      rw[hb] at h
      rw[if_neg (fun z=>by rw[z,beq_self_eq_true] at hb;cases hb),t8 h];rfl
theorem Sv.jN(e:ρ[i]?=some (.cu (aA C x dx fs)))(cl:cg K C)(na:aT K C f)(hl:fs.lookup f=none\/∃d0,fs.lookup f=some (.d d0))(hlen:fs.length<900)(h:Ev G ρ te fun _ d=>E.nx (ρ.set i (.cu (aA C x dx (dw f (.d d) fs))))):Sv G ρ (sF K (bf i) te f) E:=fun nb σ H D W KK=>
 h nb σ H _ W fun fg v H1 d q s1 hv=>by
  have W1:=W.step s1
  obtain⟨vs,e1,h2,n,h3,len,qx,r⟩:=W1.jB e
  have n5:G.S nb false x:= .inl (h2 x (by simp[bH])).1
  have hn:=n
  unfold bH at hn
  obtain⟨n1,n2⟩:=gR.mp hn
  have hdx:dx≠x:=fun z=>n1 (by rw[z];exact cA ..)
  have hx:x∉fs.flatMap fun g=>g.2.adr:=fun z=>n1 (bX _ z)
  have eF:bH x dx (dw f (.d d) fs)=bH x dx fs:=by
   unfold bH
   rcases hl with hl|⟨d0,hl⟩
   ·rw[t8 hl,Gn]
    show _::_::(_++([]++[]))=_
    rw[gH,gH]
   ·rw[CB (fl:= .d d0) (qR:= .d d) rfl hl]
  have eL:(dw f (.d d) fs).length<=900:=by
   rcases hl with hl|⟨d0,hl⟩
   ·rw[t8 hl,dW,kT];omega
   ·rw[E1 hl];exact len
  refine⟨.ref x,e1,x,C,dx,vs,rfl,qx,cl,na,by rw[r.len];omega,KK.nx nb _ _ _ q ?_⟩
  refine W1.QH (c':=aA C x dx (dw f (.d d) fs)) e (by show x∈bH x dx fs;simp[bH]) rfl (fun a m=>by rw[show(aA C x dx (dw f (.d d) fs)).F=bH x dx fs from eF] at m;exact m) ?_
  refine⟨by rw[eF];exact n,by rw[aB hdx];exact h3,eL,_,aQ,cE.Dl n5 ?_ hx r⟩
  exact(hv.av (cL (fun z=>by cases z) fun _ z=>z)).keep (aZ.set n5)
theorem Wd.FJ{nb:Addr->Prop}{σ:St}{H H1:Hp}{c:Cu}{vs:List (Str×V)}{l:Addr}(W:Wd G nb ρ σ H)(s1:Step G.B H H1)(e:ρ[i]?=some (.cu (aA C x dx fs)))(hl:fs.lookup f=none)(hlen:fs.length<900)(c5:c.F=[l])(hcv:c.v= .ref l)(jY:H l=none)(hl1:H1 l≠none)
  (hP:c.P (fun a=>G.S nb false a\/a=l) H1) (qx:H1 x=some (.ins C dx vs)):Wd G (fun a=>(nb a\/a∈[l])\/a∈bH x dx (fs++[(f, .cu c)])) (ρ.set i (.cu (aA C x dx (fs++[(f, .cu c)])))) σ (upd H1 x (.ins C dx (fR f c.v vs))):=by
 have Fb:∀a∈[l],H a=none:=fun a m=>by rw[aK.mp m];exact jY
 obtain⟨Td,e0,CL,_⟩:=W.jB e
 have fX:l∉bH x dx fs:=fun z=>W.live l (CL l z).1 jY
 obtain⟨W1,D8,Dv⟩:=W.Cr s1 Fb (fun a m=>by rw[aK.mp m];exact hl1)
 obtain⟨vs',e1,h2,n,h3,len,tE,r⟩:=W1.jB e
 rw[qx] at tE
 cases tE
 have hn:=n
 unfold bH at hn
 obtain⟨n1,n2⟩:=gR.mp hn
 have hdx:dx≠x:=fun z=>n1 (by rw[z];exact cA ..)
 have hx:x∉fs.flatMap fun g=>g.2.adr:=fun z=>n1 (bX _ z)
 have hlx:l≠x:=fun z=>fX (by rw[z];simp[bH])
 have vn:x∈bH x dx fs:=by simp[bH]
 have eF:bH x dx (fs++[(f, .cu c)])=bH x dx fs++[l]:=by
  unfold bH
  rw[Gn]
  show _::_::(_++(c.F++[]))=_
  rw[c5]
  rfl
 have hS:∀{a},G.S (fun y=>(nb y\/y∈[l])\/y∈bH x dx (fs++[(f, .cu c)])) false a->G.S (fun y=>nb y\/y∈[l]) false a:=fun{a} z=>by
  rcases z with (z|z)|z|z|z
  ·exact .inl z
  ·rw[eF,ir] at z
   rcases z with z|z
   ·exact .inl (h2 a z).1
   ·exact .inl (.inr z)
  ·exact .inr (.inl z)
  ·exact .inr (.inr (.inl z))
  ·exact .inr (.inr (.inr z))
 refine W1.rJ (c:=aA C x dx fs) (c':=aA C x dx (fs++[(f, .cu c)])) e (fun a o na q=>?_) rfl (fun a m=>?_) (fun a m=>?_) ?_
 ·rw[aB (fun z=>na (by rw[z];exact vn))];exact q
 ·rw[show(aA C x dx (fs++[(f, .cu c)])).F=bH x dx fs++[l] from eF,ir] at m
  rcases m with m|m
  ·exact .inl m
  ·rw[aK.mp m]
   refine .inr (.inr ⟨.inr (aK.mpr rfl),D8 l (aK.mpr rfl),fun j s hs z=>?_⟩)
   obtain⟨y,_,q⟩:=W.ok j s hs
   exact W.live l (q.vU l z).1 jY
 ·by_cases z:a=x
  ·rw[z,aQ];exact eO _
  ·rw[aB z]
   rcases m with m|m
   ·exact W1.live a (h2 a m).1
   ·rw[show(aA C x dx (fs++[(f, .cu c)])).F=bH x dx fs++[l] from eF,ir] at m
    rcases m with m|m
    ·exact W1.live a (h2 a m).1
    ·rw[aK.mp m];exact hl1
 ·refine⟨?_,by rw[aB hdx];exact h3,by rw[dW,kT];omega,_,aQ,?_⟩
  ·rw[eF,lT]
   exact⟨n,by simp,fun a m b m' z=>fX (by rw[aK.mp m'] at z;rw[<-z];exact m)⟩
  ·have n5:G.S (fun y=>nb y\/y∈[l]) false x:= .inl (h2 x vn).1
   have:=cE.Dl (f:=f) (fl:= .cu c) (v:=c.v) (o:= .ins C dx (fR f c.v vs)) n5 ⟨rfl,c.keep (S:=G.S (fun y=>nb y\/y∈[l]) false) (.of fun a o m q=>?_) (c.av (fun a z=>?_) hP)⟩ hx r
   ·rw[t8 hl] at this
    exact this.map (fun d v z=>z.av fun a=>hS) fun g m c' e z=>c'.av (fun a=>hS) z
   ·rw[aB]
    ·exact q
    ·rintro rfl
     rcases m with m|m
     ·exact m n5
     ·rw[c5] at m;exact hlx (aK.mp m).symm
   ·rcases Dv false a z with z|z
    ·exact .inl z
    ·exact .inr (aK.mp z)
theorem Sv.aaK(e:ρ[i]?=some (.cu (aA C x dx fs)))(cl:cg K C)(na:aT K C f)(hl:fs.lookup f=none)(hlen:fs.length<900)(h:aE G ρ te fun _ ds=>∀l,E.nx (ρ.set i (.cu (aA C x dx (fs++[(f, .cu (kC l ds))]))))):Sv G ρ (sF K (bf i) te f) E:=fun nb σ H D W KK=>
 h nb σ H _ W fun fg l xs H1 ds q s1 jY el hd=>by
  obtain⟨vs,e1,h2,n,h3,len,qx,r⟩:=(W.step s1).jB e
  refine⟨.ref x,e1,x,C,dx,vs,rfl,qx,cl,na,by rw[r.len];omega,KK.nx _ _ _ _ (q l) (W.FJ (c:=kC l ds) s1 e hl hlen rfl rfl jY (by rw[el];exact eO _) ⟨xs,el,hd.av fun a z=>?_⟩ qx)⟩
  rcases z with z|z
  ·exact .inl (cL (fun w=>by cases w) (fun _ w=>w) a z)
  ·exact .inr z
theorem Sv.Uk{l:Addr}(e:ρ[i]?=some (.cu (aA C x dx fs)))(cl:cg K C)(na:aT K C f)(hl:fs.lookup f=some (.cu (kC l ds)))(h:Ev G ρ te fun _ d=>Ev G ρ tb fun _ y=>∃k j,y= .int k/\gV ds.length k=some j/\E.nx (ρ.set i (.cu (aA C x dx (dw f (.cu (kC l (ds.set j d))) fs))))):Sv G ρ (fZ te (mJ (iZ K (bf i) f) tb tZ)) E:=fun nb σ H D W KK=>
 h nb σ H _ W fun g v H1 d q s1 hv=>nJ (W.step s1) e cl na hl fun hF ⟨xs,hx,hd⟩=>q nb σ H1 _ (W.step s1) fun g' u H2 y ⟨k,j,ey,hj,p⟩ s2 hu=>by
  subst ey
  have W2:=(W.step s1).step s2
  have fX:=hF l (aK.mpr rfl)
  have hS:G.S nb false l:= .inl fX.1
  refine⟨l,xs,k,j,rfl,hu.bD,s2.1 _ _ fX.2 hx,by rw[hd.length];exact hj,KK.nx nb _ _ _ p (W2.vK (c:=kC l ds) (c':=kC l (ds.set j d)) e hl (aK.mpr rfl) rfl rfl ⟨_,aQ,?_⟩)⟩
  exact(ah.set' ((hv.av (cL (fun z=>by cases z) fun _ z=>z)).keep s2.dz) j (hd.keep s2.dz)).keep (aZ.set hS)
def fh(G:Gx)(ρ:Rh)(ta:TA)(Φ:List PyData->Prop):Prop:=∀nb σ H (Q:List V->Hp->Prop),Wd G nb ρ σ H->(∀ds vs H',Φ ds->Step G.B H H'->ah (fun a=>¬NB G.B a) H' ds vs->Q vs H')->ta σ H Q
theorem fh.nil{Θ:List PyData->Prop}(h:Θ []):fh G ρ bE Θ:=fun nb σ H Q W z=>z [] [] H h (.refl W.au) .nil
theorem fh.cons{Θ:List PyData->Prop}(h:Ev G ρ te fun _ d=>fh G ρ t fun ds=>Θ (d::ds)):fh G ρ (aX te t) Θ:=fun nb σ H Q W z=>
 h nb σ H _ W fun f v H1 d p1 s1 q1=>p1 nb σ H1 _ (W.step s1) fun ds vs H2 p2 s2 q2=>z _ _ H2 p2 (s1.trans s2) (.cons ((q1.av fun a y=> .inr (.inr (.inl y))).keep (s2.but fun _ y=>y)) q2)
theorem fh.own{Θ:List PyData->Prop}{a:Addr}{g:Bool}(e:ρ[i]?=some (.own a g ds))(h:fh G ρ t fun es=>Θ (.list ds::es)):fh G ρ (aX (bf i) t) Θ:=fun nb σ H Q W z=>by
 obtain⟨x,e1,h1,h2,h3,xs,hx,hd⟩:=W.ok i _ e
 subst h1
 refine⟨.ref a,e1,h nb σ H _ W fun es vs H2 p2 s2 q2=>z _ _ H2 p2 s2 (.cons ?_ q2)⟩
 exact .lst (fun y=>y h3) (s2.1 _ _ h3 hx) ((hd.av fun a y=> .inr (.inr (.inl y))).keep (s2.but fun _ y=>y))
theorem Ev.Mx{n:Nat}{F:DF}(hm:fq F)(h:fh G ρ t fun ds=>ds.length=n/\F ds fun f d=>(f=true\/i6 d=true)/\Φ true d):Ev G ρ (iF (cK n F) [] E0 t) Φ:=fun nb σ H Q W z=>
 h nb σ H _ W fun ds vs H1 ⟨hl,p⟩ s1 q1=>by
  have W1:=W.step s1
  rw[gH]
  refine⟨by rw[q1.length,hl],fun a=>¬NB G.B a,ds,fun a y=>NB.kB W1.au y,q1,hm _ _ _ p fun f d ⟨hf,hp⟩ v H' sm hd=>z true v H' d hp (s1.trans (.same W1.au sm)) ?_⟩
  rcases hf with hf|hf
  ·exact hd.av fun a y=> .inr ⟨hf,W1.iR (f:=true) a y⟩
  ·exact hd.jw hf
theorem Sv.make{n:Nat}{F:CF}(hm:iV F)(h:Av G ρ t fun es=>es.length+1=n/\∀x dx,F (aA C x dx []) (es.map (·.2)) fun c' _ d=>d= .none/\E.nx (ρ.set i (.cu c'))):Sv G ρ (fZ (Gs C (cB n F) [] E0 t) (iK i)) E:=fun nb σ H D W KK=>
 h nb σ H _ W fun es vs H1 ⟨hl,p⟩ s1 q1 x dx hx hdx hne=>by
  have W1:=W.step s1
  have hsm:cS H1 (upd (upd H1 dx (.own x)) x (.ins C dx [])):=fun a o e=>by
   rw[aB (ji e hx),aB (ji e hdx)];exact e
  have lvS:∀a,G.S nb false a->H1 a≠none:=fun a y=>W1.iR a y
  have fD:ah (fun a=>G.S nb false a\/a∈[x,dx]) (upd (upd H1 dx (.own x)) x (.ins C dx [])) (es.map (·.2)) vs:=by
   have hq:=q1.all (f:=false) fun z=>by cases z
   generalize es.map (·.2)=dl at hq
   refine ah.keep (aZ.of hsm) ?_
   exact ko (P:=fun S=>ah S H1 dl vs) (fun z h=>ah.av z h) (fun hp h=>ah.fresh hp h) (L:=[x,dx]) (fun a m=>by
    rcases aL.mp m with m|m
    ·rw[m];exact hx
    ·rw[aK.mp m];exact hdx) hq
  rw[gH]
  refine⟨by rw[fG,q1.len,hl],fun a=>G.S nb false a\/a∈[x,dx],aA C x dx [],vs,es.map (·.2),rfl,fun a y=>?_,fun a m=> .inr m,rfl,?_,fD,hm _ _ _ _ (p x dx) fun c' f d ⟨hd0,hp⟩ v H' to hP hd=>?_⟩
  ·rcases y with y|y
   ·cases e:H1 a with
    |none=>exact absurd e (lvS a y)
    |some o=>rw[hsm a o e];exact eO _
   ·rcases aL.mp y with m|m
    ·rw[m,aQ];exact eO _
    ·rw[aK.mp m,aB hne,aQ];exact eO _
  ·refine⟨by simp[bH,cX hne],by rw[aB hne,aQ],by decide,[],aQ,rfl⟩
  ·subst hd0
   refine⟨hd.yJ,?_⟩
   have hfr:∀a∈c'.F,H1 a=none:=fun a m=>by
    rcases to.new a m with y|y
    ·rcases aL.mp y with m|m
     ·rw[m];exact hx
     ·rw[aK.mp m];exact hdx
    ·cases e:H1 a with
     |none=>rfl
     |some o=>rw[hsm a o e] at y;cases y
   have st:Step G.B H1 H':=by
    have sm:cS H1 H':=fun a o e=>to.kp a o (fun m=>by
     rcases aL.mp m with m|m
     ·rw[m,hx] at e;cases e
     ·rw[aK.mp m,hdx] at e;cases e) (hsm a o e)
    exact .same W1.au sm
   have:=W1.RU (i:=i) (c:=c') st hfr to.lv (c'.av (fun a y=>?_) hP)
   ·rw[to.v] at this
    exact KK.nx _ _ _ _ hp this
   ·rw[to.f] at y
    rcases y with y|y
    ·exact .inl (.inl y)
    ·exact .inr y
end
end L2
set_option maxRecDepth 100000
set_option maxHeartbeats 4000000
set_option maxRecDepth 100000
set_option maxHeartbeats 4000000
set_option maxRecDepth 100000
set_option maxHeartbeats 4000000
set_option maxRecDepth 100000
set_option maxHeartbeats 4000000
set_option maxRecDepth 100000
set_option maxHeartbeats 4000000
namespace L2
open PySem PySem.Spec PyProof.Rows
inductive Oi where
 |own (b:Addr)|dat (x:PyData)
inductive OO where
 |lst (xs:List Oi)|tup (xs:List Oi)|bN (ks:List (Int×Oi))
abbrev J5:=List (Addr×OO)
def qE(G:Gx)(ρ:Rh)(te:TE)(Ψ:Addr->Prop):Prop:=∀nb σ H (Q:VK),Wd G nb ρ σ H->(∀b H',Ψ b->Step G.B H H'->Q (.ref b) H')->te σ H Q
end L2
set_option maxRecDepth 100000
set_option maxHeartbeats 4000000
set_option maxRecDepth 100000
set_option maxHeartbeats 4000000
set_option maxRecDepth 100000
set_option maxHeartbeats 4000000
set_option maxRecDepth 100000
set_option maxHeartbeats 4000000
namespace L2
open PySem PySem.Spec PyProof.Rows
def Xx:TS:=fun _ _ _=>False
theorem zp{X:Cx}{st:Stmt}:PS X st Xx:=fun _ _ _ _ _ _ h=>h.elim
end L2
set_option maxRecDepth 100000
set_option maxHeartbeats 4000000
set_option maxRecDepth 100000
set_option maxHeartbeats 4000000
set_option maxRecDepth 100000
set_option maxHeartbeats 4000000
namespace L2
open PySem PySem.Spec PyProof.Rows
abbrev RF:=Cu->List PyData->Pd->Prop
def vI(F:RF):Prop:=∀c ds (Φ Ψ:Pd),F c ds Φ->(∀f d,Φ f d->Ψ f d)->F c ds Ψ
def lq(n:Nat)(F:RF):Sp:=fun vs H Q _=>vs.length=n/\∃(nb:Addr->Prop) (c:Cu) (ws:List V) (ds:List PyData),vs=c.v::ws/\iE nb H/\(∀a∈c.F,¬nb a/\H a≠none)/\c.P nb H/\ah nb H ds ws/\
 F c ds fun f d=>∀v H',cS H H'->af (fun a=>nb a\/(f=true/\H a≠none)) H' d v->Q v H'
theorem Ju{n:Nat}{F:RF}{vs:List V}{H:Hp}{Q:VK}{E:XK}(h:lq n F vs H Q E):∃(nb:Addr->Prop) (c:Cu) (ws:List V) (ds:List PyData) (Φ:Pd),vs=c.v::ws/\iE nb H/\(∀a∈c.F,¬nb a/\H a≠none)/\c.P nb H/\ah nb H ds ws/\(∀f d v H',Φ f d->cS H H'->af (fun a=>nb a\/(f=true/\H a≠none)) H' d v->Q v H')/\F c ds Φ:=by
 obtain⟨_,nb,c,ws,ds,e,h1,h2,h3,h4,h5⟩:=h
 exact⟨nb,c,ws,ds,_,e,h1,h2,h3,h4,fun f d v H' q=>q v H',h5⟩
section
variable{ρ:Rh}{t:TS}{N:List Str}{ws:List V}{ds:List PyData}{nb:Addr->Prop}{H:Hp}{Q:VK}{Φ:Pd}{c:Cu}
abbrev pD(H:Hp)(nb:Addr->Prop)(c:Cu):Gx:=⟨none,H,nb,[(false, .th c,c.v)]⟩
theorem Sv.Pw(hl:iE nb H)(hF:∀a∈c.F,¬nb a/\H a≠none)(hP:c.P nb H)(hd:ah nb H ds ws)(az:∀f d v H',Φ f d->cS H H'->af (fun a=>nb a\/(f=true/\H a≠none)) H' d v->Q v H')
    (dH:ρ= .raw c.v::ds.map (Sl.d false)++List.replicate (N.length-(ds.length+1)) .no) (h:Sv (pD H nb c) ρ t {nx:=fun _=>Φ true .none,rt:=Φ}):t {nx:=fun _ H'=>Q .aI H',rt:=Q} (start N (c.v::ws)) H:=by
  have hlen:=hd.length
  have jk:∀a,NB (pD H nb c).B a:=fun a b l e=>by cases e
  have sm:∀{aC ρ' σ' H'},Wd (pD H nb c) aC ρ' σ' H'->cS H H':=fun W a o e=>W.old a o (jk a) e
  have av:∀a,(pD H nb c).S (fun _=>False) false a->nb a:=fun a z=>by
    rcases z with z|z|z|z
    · exact z.elim
    · exact z
    · exact absurd (jk a) z
    · cases z.1
  have sl:∀{i:Nat} {s:Sl},ρ[i]?=some s->s.adr=[]:=fun{i s} e1=>by
    rw[dH] at e1
    cases i with
    |zero=>simp at e1;subst e1;rfl
    | succ i =>
      simp only[kI,j3] at e1
      by_cases hi:i<ds.length
      · rw[gM (by rw[ao];exact hi)] at e1
        obtain⟨_,_,_,z,_⟩:=j7 hd e1
        subst z;rfl
      · rw[iu (by rw[ao];omega),eY] at e1
        split at e1
        · cases e1;rfl
        · cases e1
  refine h (fun _=>False) _ H _ ⟨fun _ _ z=>(by cases z),fun _ z=>z.elim,fun _ _ _ e=>e,fun _ z=>z.elim,hl,?_,fun _ _ z=>(by cases z),fun x m=>?_,fun i s e=>?_,?_,?_,?_⟩ ⟨fun aC ρ' σ' H' q W=>az _ _ _ _ q (sm W) .aI,fun _ _ _ _ q _=>q.elim,fun _ _ _ _ q _=>q.elim,fun aC ρ' σ' f v H' d q W hv=>az f d v H' q (sm W) (hv.av fun a z=>?_),fun _ _ _ _ _ q _=>q.elim⟩
  · rw[dH];unfold start;simp[hlen]
  · rw[aK.mp m]
    exact⟨rfl,fun a m=>⟨fun z=>(hF a m).1 (av a z),(hF a m).2⟩,c.av av hP⟩
  · rw[dH] at e
    unfold start
    cases i with
    |zero=>simp at e;subst e;exact⟨some c.v,by simp,rfl⟩
    | succ i =>
      simp only[kI,j3,bL,fG] at e⊢
      by_cases hi:i<ds.length
      · rw[gM (by rw[ao];exact hi)] at e
        obtain⟨v,d,hv,rfl,q⟩:=j7 hd e
        refine⟨some v,?_,v,rfl,q.av av⟩
        rw[gM (by rw[ao,hlen];exact hi),bI,hv];rfl
      · rw[iu (by rw[ao];omega),eY] at e
        split at e
        · rename_i h'
          cases e
          refine⟨none,?_,trivial⟩
          rw[ao] at h'
          rw[iu (by rw[ao];omega),eY,if_pos (by rw[ao,hlen];exact h')]
        · cases e
  · intro i j a f as c2 g cs hij e1
    cases sl e1
  · intro i j a f as c2 g cs hij e1
    cases sl e1
  · intro i j c2 s hij e1 e2 a m
    have:=sl e1
    rw[show Sl.adr (.cu c2)=c2.F from rfl] at this
    rw[this] at m;cases m
  · rcases z with z|z
    · exact .inr (.inl z)
    · exact .inr (.inr (.inr z))
end
section
variable{G:Gx}{ρ:Rh}{Φ:Pd}{ta tb te:TE}{t:TA}{i n:Nat}{E:DE}{C x dx l:Addr}{fs:Fs}{K:PySem.W.Frag}{f m:Str}{d:PyData}{ds:List PyData}{c:Cu}{F:RF}
theorem WV{nb:Addr->Prop}{σ:St}{H1:Hp}{Q:VK}{vs:List V}(hm:vI F)(W1:Wd G nb ρ σ H1)(q1:ah (fun a=>¬NB G.B a) H1 ds vs)(c5:∀a∈c.F,NB G.B a/\H1 a≠none)(dM:c.P (fun a=>¬NB G.B a) H1)(hl:ds.length+1=n)(p:F c ds fun f d=>(f=true\/i6 d=true)/\Φ true d)
  (z:∀f v H' d,Φ f d->Step G.B H1 H'->af (G.S nb f) H' d v->Q v H'):lq n F (c.v::(vs++[])) H1 Q E0:=by
 rw[gH]
 refine⟨by rw[fG,q1.length,hl],fun a=>¬NB G.B a,c,vs,ds,rfl,fun a y=>NB.kB W1.au y,fun a m=>⟨fun y=>y (c5 a m).1,(c5 a m).2⟩,dM,q1,hm _ _ _ _ p fun f d ⟨hf,hp⟩ v H' sm hd=>z true v H' d hp (.same W1.au sm) ?_⟩
 rcases hf with hf|hf
 ·exact hd.av fun a y=> .inr ⟨hf,W1.iR (f:=true) a y⟩
 ·exact hd.jw hf
theorem NV{nb:Addr->Prop}{σ:St}{H:Hp}(W:Wd G nb ρ σ H)(e:ρ[i]?=some (.cu c))(hcf:c.f=false):(∀a∈c.F,NB G.B a/\H a≠none)/\c.P (fun a=>¬NB G.B a) H:=by
 obtain⟨x0,e1,h1,h2,h3⟩:=W.ok i _ e
 exact⟨fun a m=>⟨(h2 a m).2,W.live a (h2 a m).1⟩,c.av (fun a y=> .inr (.inr (.inl y))) h3⟩
theorem PZ{H H1:Hp}(st:Step G.B H H1)(h:(∀a∈c.F,NB G.B a/\H a≠none)/\c.P (fun a=>¬NB G.B a) H):(∀a∈c.F,NB G.B a/\H1 a≠none)/\c.P (fun a=>¬NB G.B a) H1:=by
 refine⟨fun a m=>⟨(h.1 a m).1,IZ (h.1 a m).1 st (h.1 a m).2⟩,c.keep (.of fun a o m q=>st.1 a o ?_ q) h.2⟩
 rcases m with m|m
 ·exact jJ m
 ·exact(h.1 a m).1
theorem Ev.DM(hm:vI F)(e:ρ[i]?=some (.cu c))(hcf:c.f=false)(hi:∀S H,c.P S H->∃a dx fs,c.v= .ref a/\H a=some (.ins C dx fs)/\fs.lookup m=none)
  (h:fh G ρ t fun ds=>ds.length+1=n/\F c ds fun f d=>(f=true\/i6 d=true)/\Φ true d):Ev G ρ (kP C m (lq n F) [] E0 (bf i) t) Φ:=fun nb σ H Q W z=>by
 obtain⟨x0,e1,h1,h2,h3⟩:=W.ok i _ e
 subst h1
 obtain⟨a,dx,fs,g1,g2,g3⟩:=hi _ _ h3
 refine⟨c.v,e1,a,dx,fs,g1,g2,g3,h nb σ H _ W fun ds vs H1 ⟨hl,p⟩ s1 q1=>?_⟩
 have k:=PZ s1 (NV W e hcf)
 exact WV hm (W.step s1) q1 k.1 k.2 hl p fun f v H' d hp st hv=>z f v H' d hp (s1.trans st) hv
theorem Wd.held{nb:Addr->Prop}{σ:St}{H:Hp}{v:V}(W:Wd G nb ρ σ H)(hh:(false,HD.th c,v)∈G.hold):v=c.v/\(∀a∈c.F,¬G.S nb false a/\H a≠none)/\c.P (G.S nb false) H:=W.eE _ hh
inductive uQ:Fl->PyData->Prop
 |d {d:PyData}:uQ (.d d) d
 |own {l:Addr} {ds:List PyData}:uQ (.cu (kC l ds)) (.list ds)
theorem uQ.is{S:Addr->Prop}{H:Hp}{v:V}{fl:Fl}(h:uQ fl d)(q:lA S H v fl)(hS:∀a∈fl.adr,¬S a):af S H d v:=by
 cases h with
 |d=>exact q
 |own=>obtain⟨e,xs,hx,hd⟩:=q;rw[e];exact .lst (hS _ (aK.mpr rfl)) hx hd
theorem Ev.uU{fl:Fl}(e:ρ[i]?=some (.raw (.ref x)))(hh:(false,HD.th (aA C x dx fs),V.ref x)∈G.hold)(cl:cg K C)(na:aT K C f)(hl:fs.lookup f=some fl)(hfl:uQ fl d)(h:Φ false d):Ev G ρ (iZ K (bf i) f) Φ:=fun nb σ H Q W z=>by
 obtain⟨x0,e1,h1⟩:=W.ok i _ e
 have h1:x0=some (.ref x):=h1
 subst h1
 obtain⟨_,h2,n,h3,len,vs,q,r⟩:=W.held hh
 obtain⟨v,g1,g2⟩:=r.get hl
 exact⟨.ref x,e1,x,C,dx,vs,v,rfl,q,cl,na,g1,z false v H d h (.refl W.au) (hfl.is g2 fun a m=>(h2 a (oY hl m)).1)⟩
end
end L2
set_option maxRecDepth 100000
set_option maxHeartbeats 4000000
namespace L2
open PySem PySem.Spec PyProof.Rows
section
variable{G:Gx}{ρ cH:Rh}{ta te:TE}{gt:TG}{K:PySem.W.Frag}{Θ:Bool->List PyData->Prop}{tc:TT}{mp:List (Option Nat)}{nb:Addr->Prop}{σ:St}{H H1:Hp}{a:Addr}{o:Obj}{ps:List (Key×V)}{f:Bool}
theorem Ir{J:It}{G':Gx}{n:Nat}{it:Nat->PyData->Prop}{fi:Bool}{acc:Addr}{Qe:Hp->Prop}(hgo:∀i H,H a=some (.bQ o (.dK ps))->i<n->J.go i H)(hst:∀H,H a=some (.bQ o (.dK ps))->J.stop n H)(hn:n<=10000)
  (hz:∀{nb ρ σ H},Wd G' nb ρ σ H->H a=some (.bQ o (.dK ps))) (hy:∀{nb ρ σ H i x H'},Wd G' nb ρ σ H->i<n->J.lI i H x H'->∃d,it i d/\Step G'.B H H'/\af (G'.S nb fi) H' d x)
  (W0:Wd G' nb cH σ H1) (hacc:H1 acc=none) (h:jD G' cH n it fi gt tc te Θ)
  (z:∀σ' H' ds xs fl,Wd G' (fun x=>nb x\/x=acc) cH σ' H'->Step G'.B H1 H'->H' acc=some (.lst xs)->ah (G'.S (fun x=>nb x\/x=acc) fl) H' ds xs->Θ (fl||fL ds) ds->Qe H'):rW J gt tc te acc Qe σ (upd H1 acc (.lst [])):=by
 obtain⟨fl,I,h0,ht,he⟩:=h
 have W1:=W0.more hacc (o:= .lst [])
 have hN:=NB.new W0.au hacc
 have hno:=Gh W0 hacc
 have nH:Step G'.B H1 (upd H1 acc (.lst [])):= .same W0.au (dD hacc)
 refine⟨fun i m σ H=>m=n-i/\i<=n/\∃ds xs,Wd G' (fun x=>nb x\/x=acc) cH σ H/\Step G'.B H1 H/\H acc=some (.lst xs)/\ah (G'.S (fun x=>nb x\/x=acc) fl) H ds xs/\ds.length<=i/\I i ds,⟨n,by simp,g8 _,[],[],W1,nH,aQ, .nil,aU _,h0⟩,?_⟩
 rintro i m σ H ⟨rfl,hi,ds,xs,W,st,hx,hd,hl,hI⟩
 by_cases hlt:i<n
 ·refine .inr ⟨hgo i H (hz W) hlt,fun σ H=>∃ds xs,Wd G' (fun x=>nb x\/x=acc) cH σ H/\Step G'.B H1 H/\H acc=some (.lst xs)/\ah (G'.S (fun x=>nb x\/x=acc) fl) H ds xs/\ds.length<=i+1/\I (i+1) ds,fun σ' H' q=>⟨n-(i+1),by omega,rfl,hlt,q⟩,fun x H' y=>?_⟩
  obtain⟨d,hit,s2,hdx⟩:=hy W hlt y
  exact Hg hn hlt (W.step s2) (.inr rfl) hN hno (st.trans s2) hacc (s2.1 _ _ hN hx) (hd.keep s2.dz) hl hdx (ht i d ds hit hl hI) fun σ' H' ds' xs' W' st' hx' hd' hl' hI'=>⟨ds',xs',W',st',hx',hd',hl',hI'⟩
 ·have e:i=n:=by omega
  subst e
  exact .inl ⟨hst H (hz W),z σ H ds xs fl W st hx hd (he ds hl hI)⟩
theorem aq.at{S:Addr->Prop}{H:Hp}:∀{ks:Ks} {ps:List (Key×V)} {i:Nat} {p:Int×PyData},aq S H (ks.map aG) ps->ks[i]?=some p->∃v,ps[i]?=some (Sum.inl p.1,v)/\af S H p.2 v
  |[],_,_,_,_,e=>by simp at e
  | q :: ks, ps, i, p, h, e => by
    rw[bL] at h
    unfold aq at h
    obtain⟨y,ys,rfl,h1,h2⟩:=h
    cases i with
    | zero =>
      simp at e
      subst e
      obtain⟨y1,y2⟩:=y
      unfold aG c6 at h1
      obtain⟨g1,g2⟩:=h1
      refine⟨y2,?_,g2⟩
      have uq:y1=Sum.inl q.1:=by
        have g:MW (PyData.int q.1) y1:=g1
        cases g;rfl
      rw[uq];rfl
    |succ i=>exact aq.at (i:=i) h2 (by simpa using e)
end
end L2
set_option maxRecDepth 100000
set_option maxHeartbeats 4000000
set_option maxRecDepth 100000
set_option maxHeartbeats 4000000
set_option maxRecDepth 100000
set_option maxHeartbeats 4000000
set_option maxRecDepth 100000
set_option maxHeartbeats 4000000
namespace L2
open PySem PySem.Spec PyProof.Rows
def bS:Nat->(Nat->Int)->Int
 |0,_=>0
 |n+1,f=>bS n f+f n
theorem Gk{n:Nat}{f:Nat->Int}:bS (n+1) f=bS n f+f n:=rfl
theorem xq{f g:Nat->Int}:∀{n:Nat},(∀k,k<n->f k=g k)->bS n f=bS n g
 |0,_=>rfl
 |n+1,h=>by unfold bS;rw[xq fun k hk=>h k (by omega),h n (by omega)]
theorem Ef{f g:Nat->Int}:∀{n:Nat},bS n (fun k=>f k+g k)=bS n f+bS n g
 |0=>rfl
 |n+1=>by rw[Gk,Gk,Gk,Ef];omega
theorem DO{a:Int}{f:Nat->Int}:∀{n:Nat},bS n (fun k=>a*f k)=a*bS n f
 |0=>by unfold bS;simp
 |n+1=>by unfold bS;rw[DO,yR]
theorem wG:∀{n:Nat},bS n (fun _=>0)=0
 |0=>rfl
 |n+1=>by unfold bS;rw[wG];rfl
theorem Ih{f:Nat->Nat->Int}{n:Nat}:∀{m:Nat},bS n (fun k=>bS m fun c=>f c k)=bS m fun c=>bS n (f c)
  |0=>wG
  | m + 1 => by
    show bS n (fun k=>bS m (fun c=>f c k)+f m k)=bS m (fun c=>bS n (f c))+bS n (f m)
    rw[Ef,Ih]
theorem Np{f:Nat->Int}{b:Int}:∀{n:Nat},(∀k,k<n->f k<=b)->bS n f<=n*b
  |0,_=>by unfold bS;simp
  | n + 1, h => by
    unfold bS
    have h1:=Np (n:=n) fun k hk=>h k (by omega)
    have h2:=h n (by omega)
    rw[show((n+1:Nat):Int)*b=n*b+b by rw[Int.natCast_add,Int.add_mul];simp]
    omega
theorem PN{f:Nat->Int}(hf:∀k,f k=0\/f k=1):∀{n:Nat},(∀k k',k<k'->k'<n->¬(f k=1/\f k'=1))->bS n f<=1
  |0,_=>by unfold bS;omega
  | n + 1, h => by
    unfold bS
    rcases hf n with e|e
    · have:=PN hf (n:=n) fun k k' a b=>h k k' a (by omega)
      omega
    · have:bS n f=0:=by
        rw[xq (g:=fun _=>0) fun k hk=>(hf k).resolve_right fun z=>h k n hk (by omega) ⟨z,e⟩]
        exact wG
      omega
theorem meet{I:Nat->Nat->Int}(hI:∀c k,I c k=0\/I c k=1){n:Nat}:∀{m:Nat},(∀c d k k',c<d->d<m->k<k'->k'<n->¬(I c k=1/\I d k=1/\I c k'=1/\I d k'=1))->
    bS n (fun k=>bS m (fun c=>I c k)*(bS m (fun c=>I c k)-1))<=m*(m-1)
  | 0, _ => by
    rw[xq (g:=fun _=>0) fun k _=>by unfold bS;simp,wG];simp
  | m + 1, h => by
    have ih:=meet hI (n:=n) (m:=m) fun c d k k' a b=>h c d k k' a (by omega)
    have e:bS n (fun k=>bS (m+1) (fun c=>I c k)*(bS (m+1) (fun c=>I c k)-1))=bS n (fun k=>bS m (fun c=>I c k)*(bS m (fun c=>I c k)-1)+2*bS m (fun c=>I m k*I c k)):=by
      refine xq fun k _=>?_
      rw[DO]
      show(bS m (fun c=>I c k)+I m k)*(bS m (fun c=>I c k)+I m k-1)=_
      generalize bS m (fun c=>I c k)=D
      rcases hI m k with z|z<;>rw[z]<;>grind
    rw[e,Ef,DO,Ih (f:=fun c k=>I m k*I c k)]
    have h2:bS m (fun c=>bS n fun k=>I m k*I c k)<=m*1:=Np fun c hc=>PN (fun k=>by rcases hI m k with z|z<;>rcases hI c k with y|y<;>rw[z,y]<;>simp) fun k k' hk hk' ⟨z1,z2⟩=>by
      refine h c m k k' hc (by omega) hk hk' ?_
      rcases hI m k with a|a<;>rcases hI c k with b|b<;>rcases hI m k' with a'|a'<;>rcases hI c k' with b'|b'<;>simp_all
    have e3:((m+1:Nat):Int)*((m+1:Nat)-1)=(m:Int)*(m-1)+2*m:=by rw[Int.natCast_add];grind
    omega
end L2
set_option maxRecDepth 100000
set_option maxHeartbeats 4000000
set_option maxRecDepth 100000
set_option maxHeartbeats 4000000
set_option maxRecDepth 100000
set_option maxHeartbeats 4000000
set_option maxRecDepth 100000
set_option maxHeartbeats 4000000
set_option maxRecDepth 100000
set_option maxHeartbeats 4000000
namespace L2
open PySem PySem.Spec PyProof.Rows
section
variable{p n m:Int}{c1 c2 cs:List bz}{u w:List Int}
theorem abk{ws:List Int}(hV:B7 p n cs)(hl:ws.length=n.toNat)(hw:∀x∈ws,0<=x/\x<p)(h:brk p cs ws=0):uN p cs ws n.toNat=[]:=by
  have hb:=List.countP_eq_zero.mp h
  refine List.flatMap_eq_nil_iff.mpr fun i hi=>?_
  have hi:=qC.mp hi
  unfold ME
  have hmj:wI (sS p cs ws (i:Int)) (ws.getD i 0)=[]:=by
    cases e:wI (sS p cs ws (i:Int)) (ws.getD i 0) with
    |nil=>rfl
    | cons x r =>
      exfalso
      have hx:x∈wI (sS p cs ws (i:Int)) (ws.getD i 0):=by rw[e];exact cA
      have Je:=jh.mp (List.mem_of_mem_take hx)
      have hg:=Je.2
      unfold Jy at hg
      rw[fU,decide_eq_true_eq] at hg
      refine hg.1 ?_
      have hm:=Je.1
      unfold sS at hm
      obtain⟨q,hq,rfl⟩:=c9.mp hm
      obtain⟨c,prs,f,hc,_,_,rfl⟩:=Ss (aU _) hq
      have hz:=hb prs (dg hc)
      have hz:dP prs (ws.map some)%p=0:=by simpa using hz
      show(ws.getD (i:Int).toNat 0-dP (cs.getD (c:Int).toNat []) (ws.map some)%p*sol p f 1)%p=_
      rw[wZ,wZ,show cs.getD c []=prs by rw[lU,hc];rfl,hz,qX,tL]
      have:=hw (ws.getD i 0) (by rw[lU,bP (by omega)];exact mj _)
      exact GP this.1 this.2
  rw[hmj];rfl
inductive Way(p:Int)(cs:List bz)(n k:Nat)(ws:List Int):Prop
 |held (hb:brk p cs ws=0) (ht:uN p cs ws n=[])
 |rest (hb:brk p cs ws≠0) (ht:uN p cs ws n=[])
 |on (hb:brk p cs ws≠0) (ht:uN p cs ws n≠[])
theorem way(hV:B7 p n cs){ws:List Int}(hl:ws.length=n.toNat)(hw:∀x∈ws,0<=x/\x<p)(k:Nat):Way p cs n.toNat k ws:=by
 by_cases h1:brk p cs ws=0
 ·exact .held h1 (abk hV hl hw h1)
 by_cases h2:uN p cs ws n.toNat=[]
 ·exact .rest h1 h2
 ·exact .on h1 h2
end
end L2
set_option maxRecDepth 100000
set_option maxHeartbeats 4000000
set_option maxRecDepth 100000
set_option maxHeartbeats 4000000
set_option maxRecDepth 100000
set_option maxHeartbeats 4000000
set_option maxRecDepth 100000
set_option maxHeartbeats 4000000
namespace L2
open PySem PySem.Spec PyProof.Rows
def YI(cs:List bz):Prop:=cs.Pairwise fun a b=>∀x y:Int,x≠y->x∈a.map (·.1)->y∈a.map (·.1)->x∈b.map (·.1)->y∈b.map (·.1)->False
structure aaX(p n:Int)(cs:List bz)(ws:List Int):Prop where
 v:B7 p n cs
 a:YI cs
 t:∀prs∈cs,dP prs (ws.map some)%p=0
 l:ws.length=n.toNat
 r:∀x∈ws,0<=x/\x<p
section
variable{p n:Int}{cs:List bz}{ws xs O:List Int}{i:Nat}
theorem wr(h:aaX p n cs ws)(hi:i<n.toNat):0<=ws.getD i 0/\ws.getD i 0<p:=by
 have:=h.l
 exact h.r _ (by rw[lU,bP (by omega)];exact mj _)
end
end L2
set_option maxRecDepth 100000
set_option maxHeartbeats 4000000
set_option maxRecDepth 100000
set_option maxHeartbeats 4000000
namespace L2
open PySem PySem.Spec PyProof.Rows
section
variable{p n:Int}{d:Nat}{cs:List bz}{ws L:List Int}
def only(cs:List bz)(L:List Int)(x:Int)(c:Nat):Prop:=((cs.getD c []).filter fun pr=>decide (pr.1∈L)).map (·.1)=[x]
end
end L2
set_option maxRecDepth 100000
set_option maxHeartbeats 4000000
set_option maxRecDepth 100000
set_option maxHeartbeats 4000000
namespace L2
open PySem PySem.Spec PyProof.Rows
section
variable{prog:Program}{w:World}{A:Around}{E:Value->Shared->Prop}{h:Heap}{g:Array GenState}{d:Drawn}{t:Nat}{os:OsState}{a:Addr}{o:Obj}{K:PySem.W.Frag}
 {nm q:Str} {C N:Addr} {bs bm:List Value} {hdct:Bool} {sn:List Str} {sub:List Value} {ab:Bool} {col:Option Bool} {dd:Option Addr} {k0 k1 k2 k3 k5:Option Value} {newId:String}
end
end L2
set_option maxRecDepth 100000
set_option maxHeartbeats 4000000
namespace L2
open PySem PySem.Spec PyProof.Rows
abbrev DXF:=List PyData->Pd->(Addr->Prop)->Prop
abbrev CXF:=Cu->List PyData->(Cu->Pd)->(Cu->Addr->Prop)->Prop
end L2
set_option maxRecDepth 100000
set_option maxHeartbeats 4000000
namespace L2
open PySem PySem.Spec PyProof.Rows
section
variable{ρ:Rh}{t:TS}{N:List Str}{us ws:List V}{ds:List PyData}{nb:Addr->Prop}{H:Hp}{Q:VK}{Φ:Cu->Pd}{c:Cu}{k:Nat}{σ:St}
theorem TJ(hl:iE nb H)(hF:∀a∈c.F,nb a)(hf:c.f=false)(hP:c.P nb H)(hlen:σ.length=ρ.length)(hk:ρ[k]?=some (.cu c))(hσ:σ[k]?=some (some c.v))
  (hs:∀(i:Nat) s,i≠k->ρ[i]?=some s->(s= .no/\∃x,σ[i]?=some x)\/∃d v,s= .d false d/\σ[i]?=some (some v)/\af nb H d v):Wd (fT c.F H nb) (fun a=>a∈c.F) ρ σ H:=by
 have jk:∀a,NB (fT c.F H nb).B a:=fun a b l e=>by cases e
 have av:∀a,(fT c.F H nb).S (fun a=>a∈c.F) false a->nb a:=fun a z=>by
  rcases z with z|z|z|z
  ·exact hF a z
  ·exact z.1
  ·exact absurd (jk a) z
  ·cases z.1
 have cs:∀{i:Nat} {s:Sl},ρ[i]?=some s->s.adr≠[]->i=k:=fun{i s} e z=>jJ fun h=>by
  rcases hs i s h e with ⟨rfl,_⟩|⟨d,v,rfl,_⟩<;>exact z rfl
 refine⟨fun _ _ z=>(by cases z),fun a z=>hl a (hF a z),fun a o _ e=>?_,fun a z _=>by show(if a∈c.F then none else H a)=none;rw[if_pos z],fun a z=>?_,hlen,fun _ _ z=>(by cases z),fun _ m=>(by cases m),fun i s e=>?_,fun i j a f as c2 g cs' hij e1 e2=>?_,fun i j a f as c2 g cs' hij e1 e2=>?_,fun i j c2 s hij e1 e2 a m z=>?_⟩
 ·have e:(if a∈c.F then none else H a)=some o:=e
  by_cases z:a∈c.F
  ·rw[if_pos z] at e;cases e
  ·rwa[if_neg z] at e
 ·show(if a∈c.F then none else H a)≠none
  rw[if_neg z.2];exact hl a z.1
 ·by_cases h:i=k
  ·subst h
   rw[hk] at e;cases e
   exact⟨_,hσ,rfl,fun a m=>⟨m,jk a⟩,by rw[hf];exact c.av av hP⟩
  ·rcases hs i s h e with ⟨rfl,x,hx⟩|⟨d,v,rfl,hv,q⟩
   ·exact⟨x,hx,trivial⟩
   ·exact⟨some v,hv,v,rfl,q.av av⟩
 ·have:=cs e1 (fun z=>by cases z);subst this;rw[hk] at e1;cases e1
 ·have:=cs e1 (fun z=>by cases z);subst this;rw[hk] at e1;cases e1
 ·have h1:=cs e1 (fun w=>by rw[show(Sl.cu c2).adr=c2.F from rfl] at w;rw[w] at m;cases m)
  have h2:=cs e2 (fun w=>by rw[w] at z;cases z)
  omega
theorem Xn{c':Cu}{aC:Addr->Prop}{ρ':Rh}{σ':St}{H':Hp}(W:Wd (fT c.F H nb) aC ρ' σ' H')(e:ρ'[k]?=some (.cu c'))(up:qG c c'):iJ c c' H H'/\c'.P (fun a=>nb a\/a∈c'.F) H'/\∀f a,nb a\/a∈c'.F\/(f=true/\H a≠none)->(fT c.F H nb).S aC f a:=by
 have jk:∀a,NB (fT c.F H nb).B a:=fun a b l e=>by cases e
 obtain⟨x0,e1,h1,h2,h3⟩:=W.ok k _ e
 have uu:∀(f:Bool) a,nb a\/a∈c'.F\/(f=true/\H a≠none)->(fT c.F H nb).S aC f a:=fun f a z=>by
  by_cases m:a∈c'.F
  ·exact .inl (h2 a m).1
  have m':a∉c.F:=fun z=>m (up.sub a z)
  rcases z with z|z|z
  ·exact .inr (.inl ⟨z,m'⟩)
  ·exact absurd z m
  ·exact .inr (.inr (.inr ⟨z.1,by show(if a∈c.F then none else H a)≠none;rw[if_neg m'];exact z.2⟩))
 refine⟨⟨up.v,up.f,up.sub,fun a m=>?_,fun a o n q=>?_,fun a m=>W.live a (h2 a m).1⟩,c'.av (fun a z=>by rw[up.f];exact uu false a (z.elim .inl fun z=> .inr (.inl z))) h3,uu⟩
 ·have:=W.cY a (h2 a m).1 (h2 a m).2
  by_cases z:a∈c.F
  ·exact .inl z
  ·exact .inr (by have q:(if a∈c.F then none else H a)=none:=this;rwa[if_neg z] at q)
 ·exact W.old a o (jk a) (by show(if a∈c.F then none else H a)=_;rw[if_neg n];exact q)
end
end L2
set_option maxRecDepth 100000
set_option maxHeartbeats 4000000
set_option maxRecDepth 100000
set_option maxHeartbeats 4000000
set_option maxRecDepth 100000
set_option maxHeartbeats 4000000
namespace L2
open PySem PySem.Spec PyProof.Rows PySem.NumText
abbrev nS(n:Int):Str:=Str.ofString (toString n)
end L2
set_option maxRecDepth 100000
set_option maxHeartbeats 4000000
set_option maxRecDepth 100000
set_option maxHeartbeats 4000000
namespace L2
open PySem PySem.Spec PyProof.Rows
def Bw(G:Gx)(ρ:Rh)(te:TE)(Θ:List (List PyData)->Prop):Prop:=∀nb σ H (Q:VK),Wd G nb ρ σ H->
 (∀ a0 (bs : List Addr) (rM : List (List PyData)) H', Θ rM -> Step G.B H H' -> (a0 :: bs).Nodup -> (∀ b ∈ a0 :: bs, H b = none) -> bs.length = rM.length -> H' a0 = some (.lst (bs.map .ref)) ->
  (∀(i:Nat) b ds,bs[i]?=some b->rM[i]?=some ds->∃xs,H' b=some (.lst xs)/\ah (fun x=>G.S nb true x\/x∈a0::bs) H' ds xs)->Q (.ref a0) H')->te σ H Q
end L2
set_option maxRecDepth 100000
set_option maxHeartbeats 4000000
namespace L2
open PySem PySem.Spec PyProof.Rows
theorem aar{prog:Program}{w:World}:∀{its:List Value} {us:List (Key×Value)} {ms:List Int},us.map (·.1)=ms.map Sum.inl->its.length=us.length->(∀(i:Nat) v,its[i]?=some v->∃k x,us[i]?=some (k,x)/\(gk prog w).is k v=true)->IntsAre its ms:=by
  intro its
  induction its with
  | nil =>
    intro us ms e l _
    cases us with
    | nil => cases ms with
      |nil=>exact .nil
      |cons _ _=>cases e
    |cons _ _=>cases l
  | cons v its ih =>
    intro us ms e l hp
    cases us with
    |nil=>cases l
    | cons u us => cases ms with
      |nil=>cases e
      | cons m ms =>
        have e1:u.1=Sum.inl m:=by injection e
        have e2:us.map (·.1)=ms.map Sum.inl:=by injection e
        obtain⟨k,x,q1,q2⟩:=hp 0 v rfl
        have q1:u=(k,x):=by simpa using q1
        subst q1
        have e1:k=Sum.inl m:=e1
        subst e1
        obtain⟨t,rfl⟩:=rY (k:=m) (v:=v) q2
        exact .cons m t (ih (us:=us) (ms:=ms) e2 (by simpa using l) fun i v q=>by simpa using hp (i+1) v (by simpa using q))
def zG:List V->Hp->VK->Prop:=fun xs H Q=>∃a,∃kvs:List (Key×V),∃ms:List Int,xs=[.ref a]/\Rd H a (.dK kvs)/\kvs.map (·.1)=ms.map Sum.inl/\∀l,H l=none->Q (.ref l) (upd H l (.lst (ms.map V.int)))
theorem OZ{X:Cx}(hc:X.calm=true):gn X (.type "list") zG:=by
 intro pins s σ H xs us Q I rv h
 obtain⟨a,kvs,ms,rfl,hH,hk,q⟩:=h
 obtain⟨u,rfl,ru⟩:=vals1 rv
 cases ru
 obtain⟨z,hd,ps,rel,dd⟩:=lW I.hok hH
 obtain⟨ep,hat⟩:=dd.dictAt
 have hz:ps.length<=sizeLine:=by rw[<-rel.length];exact z
 have u5:kvs.length=ms.length:=by have:=congrArg List.length hk;simpa using this
 refine PySem.W.kdl_call (PySem.W.kdl_dict hd) (I.ok.hd hc) hat hz fun h' tk acc' c' hkp hS hacc=>?_
 have hI:IntsAre acc'.toList ms:=aar (us:=ps) (by rw[<-rel.keys];exact hk) (by rw[jW];exact hacc.1) fun i v e=>hacc.2 i v (by rw[<-mD];exact e)
 have new:cF X.prog X.w (upd H s.heap.objs.size (.lst (ms.map V.int))) h' s.heap.objs.size (.lst (ms.map V.int)):=by
  refine⟨by rw[ao,<-u5];exact z,acc'.toList,c',ud hI,?_⟩
  rw[Array.toArray_toList];exact hS
 exact⟨.ref s.heap.objs.size,_,I.laid (t':=tk) hkp (aU _) new,rfl,q _ (I.hok.fresh (aU _))⟩
section
variable{G:Gx}{ρ:Rh}{Φ:Pd}{ta tb te:TE}{t:TA}{i:Nat}{E:DE}{C x dx l:Addr}{fs:Fs}{K:PySem.W.Frag}{f m:Str}{d:PyData}{ks:Ks}{Θ:Bool->List PyData->Prop}
theorem Sv.Dn(e:ρ[i]?=some (.cu (aA C x dx fs)))(cl:cg K C)(na:aT K C f)(hl:fs.lookup f=none)(hlen:fs.length<900)(h:ly G ρ te fun _ ks=>∀l,E.nx (ρ.set i (.cu (aA C x dx (fs++[(f, .cu (cD l ks))]))))):Sv G ρ (sF K (bf i) te f) E:=fun nb σ H D W KK=>
 h nb σ H _ W fun fg l ps H1 ks q s1 jY el hd=>by
  obtain⟨vs,e1,h2,n,h3,len,qx,r⟩:=(W.step s1).jB e
  refine⟨.ref x,e1,x,C,dx,vs,rfl,qx,cl,na,by rw[r.len];omega,KK.nx _ _ _ _ (q l) (W.FJ (c:=cD l ks) s1 e hl hlen rfl rfl jY (by rw[el];exact eO _) ⟨ps,el,hd.av fun a z=>?_⟩ qx)⟩
  rcases z with z|z
  ·exact .inl (cL (fun w=>by cases w) (fun _ w=>w) a z)
  ·exact .inr z
theorem Sv.Bx(e:ρ[i]?=some (.cu (aA C x dx fs)))(cl:cg K C)(na:aT K C f)(hl:fs.lookup f=some (.cu (cD l ks)))(h:Ev G ρ te fun _ d=>Ev G ρ tb fun _ y=>∃k,y= .int k/\ks.length<10000/\E.nx (ρ.set i (.cu (aA C x dx (dw f (.cu (cD l (eX ks k d))) fs))))):Sv G ρ (fZ te (mJ (iZ K (bf i) f) tb yU)) E:=fun nb σ H D W KK=>
 h nb σ H _ W fun g v H1 d q s1 hv=>nJ (W.step s1) e cl na hl fun hF ⟨ps,hp,hd⟩=>q nb σ H1 _ (W.step s1) fun g' u H2 y ⟨k,ey,hlk,p⟩ s2 hu=>by
  subst ey
  have W2:=(W.step s1).step s2
  have fX:=hF l (aK.mpr rfl)
  have hS:G.S nb false l:= .inl fX.1
  have hlen:=hd.len
  refine⟨l,ps, .inl k,rfl,hu.bD,s2.1 _ _ fX.2 hp,fB (by rw[hlen];exact hlk) (by decide),KK.nx nb _ _ _ p (W2.vK (c:=cD l ks) (c':=cD l (eX ks k d)) e hl (aK.mpr rfl) rfl rfl ⟨_,aQ,?_⟩)⟩
  exact(aq.put (hd.keep s2.dz) ((hv.av (cL (fun z=>by cases z) fun _ z=>z)).keep s2.dz)).keep (aZ.set hS)
theorem Sv.L8(e:ρ[i]?=some (.cu (aA C x dx fs)))(cl:cg K C)(na:aT K C f)(hl:fs.lookup f=some (.cu (cD l ks)))(h:Ev G ρ te fun _ y=>∃k,y= .int k/\cT ks k=true/\E.nx (ρ.set i (.cu (aA C x dx (dw f (.cu (cD l (i7 ks k))) fs))))):Sv G ρ (nB (pA K "dict" MT (iZ K (bf i) f) (aX te bE))) E:=fun nb σ H D W KK=>by
 unfold nB pA
 exact nJ W e cl na hl fun hF ⟨ps,hp,hd⟩=>⟨.inr (.inr (.inl ⟨rfl, .inl ⟨_,hp⟩⟩)),h nb σ H _ W fun g v H1 y ⟨k,ey,hk,q⟩ s1 hv=>by
  subst ey
  have hk':=hv.bD
  subst hk'
  have W1:=W.step s1
  have fX:=hF l (aK.mpr rfl)
  have hS:G.S nb false l:= .inl fX.1
  have hd1:=hd.keep s1.dz
  have:=aq.val k hd1
  rw[<-mh] at hk
  obtain⟨d,ed⟩:=pS.mp hk
  rw[ed] at this
  obtain⟨v,hv',_⟩:=this
  exact⟨l,ps, .inl k,v,rfl,rfl,s1.1 _ _ fX.2 hp,hv',KK.nx nb _ _ _ q (W1.vK (c:=cD l ks) (c':=cD l (i7 ks k)) e hl (aK.mpr rfl) rfl rfl ⟨_,aQ,(aq.drop hd1).keep (aZ.set hS)⟩)⟩⟩
theorem Ev.Fi{ng:Bool}(e:ρ[i]?=some (.cu (aA C x dx fs)))(cl:cg K C)(na:aT K C f)(hl:fs.lookup f=some (.cu (cD l ks)))(h:Ev G ρ ta fun _ y=>∃k,y= .int k/\Φ true (.bool (cT ks k !=ng))):Ev G ρ (cP (AU ng) ta (iZ K (bf i) f)) Φ:=fun nb σ H Q W z=>
 h nb σ H _ W fun g w H1 y ⟨k,ey,p⟩ s1 hw=>nJ (W.step s1) e cl na hl fun hF ⟨ps,hp,hd⟩=>by
  subst ey
  refine⟨l,_,rfl,by rw[hw.bD];exact p7.k (k:= .inl k) hp,?_⟩
  have:(gK ps (Sum.inl k)).isSome=cT ks k:=by rw[<-zd];exact aq.any k hd
  rw[this]
  exact z true _ H1 _ p s1 (.bl _)
theorem Ev.C5(e:ρ[i]?=some (.cu (aA C x dx fs)))(cl:cg K C)(na:aT K C f)(hl:fs.lookup f=some (.cu (cD l ks)))(h:Ev G ρ tb fun _ y=>∃k,y= .int k/\∃d,bZ ks k=some d/\Φ false d):Ev G ρ (cP jb (iZ K (bf i) f) tb) Φ:=fun nb σ H Q W z=>
 nJ W e cl na hl fun hF ⟨ps,hp,hd⟩=>h nb σ H _ W fun g w H1 y ⟨k,ey,d,hv,p⟩ s1 hw=>by
  subst ey
  have fX:=hF l (aK.mpr rfl)
  have:=aq.val k (hd.keep s1.dz)
  rw[hv] at this
  obtain⟨v,hv',hD⟩:=this
  exact⟨l,ps, .inl k,v,rfl,hw.bD, .inl (s1.1 _ _ fX.2 hp),hv',z false _ H1 _ p s1 hD⟩
theorem fh.jN{Θ:List PyData->Prop}(e:ρ[i]?=some (.cu (aA C x dx fs)))(cl:cg K C)(na:aT K C f)(hl:fs.lookup f=some (.cu (cD l ks)))(h:fh G ρ t fun es=>Θ (.dict (ks.map aG)::es)):fh G ρ (aX (iZ K (bf i) f) t) Θ:=fun nb σ H Q W z=>
 nJ W e cl na hl fun hF ⟨ps,hp,hd⟩=>h nb σ H _ W fun es vs H1 p s1 q1=>by
  have fX:=hF l (aK.mpr rfl)
  refine z _ _ H1 p s1 ?_
  refine ah.cons ?_ q1
  have hS:∀a,¬NB G.B a->G.S nb false a:=fun a z=> .inr (.inr (.inl z))
  have:=(hd.keep s1.dz).av hS
  unfold af
  exact⟨l,ps,rfl,fun z=>z fX.2, .inl (s1.1 _ _ fX.2 hp),this⟩
end
end L2
set_option maxRecDepth 100000
set_option maxHeartbeats 4000000
namespace L2
open PySem PySem.Spec PyProof.Rows
abbrev MF:=List Cu->List PyData->(List Cu->Pd)->Prop
end L2
set_option maxRecDepth 100000
set_option maxHeartbeats 4000000
namespace L2
open PySem PySem.Spec PyProof.Rows
inductive cQ where
 |lt (a b:Int)|ck (prs:bz) (r:Int)
abbrev aR:=List (Int×cQ)
def Ab(q:Int×cQ):Option (Int×PyData):=match q.2 with
 | .lt a b=>some (q.1, .tuple [.int a, .int b])
 | .ck _ _=>none
def wH(q:Int×cQ):Option (Int×PyData):=match q.2 with
 | .lt _ _=>none
 | .ck prs r=>some (q.1, .tuple [fE prs, .int r])
def ldK(ds:aR):Ks:=ds.filterMap Ab
def aY(ds:aR):Ks:=ds.filterMap wH
def uA(p n:Int):cQ->Prop
 | .lt a b=>0<=a/\a<n/\0<=b/\b<p
 | .ck prs r=>m8 p n prs/\0<=r/\r<p
structure aS(p n many:Int)(ds:aR):Prop where
 rise:(ds.map (·.1)).Pairwise (· < ·)
 rg:∀q∈ds,0<=q.1/\q.1<many
 ok:∀q∈ds,uA p n q.2
 len:ds.length<=63
theorem FY{q:Int×cQ}{r:Int×PyData}(h:Ab q=some r):r.1=q.1/\∃a b,q.2= .lt a b/\r.2= .tuple [.int a, .int b]:=by
 obtain⟨k,d⟩:=q
 cases d with
 |lt a b=>cases h;exact⟨rfl,a,b,rfl,rfl⟩
 |ck _ _=>cases h
theorem B4{q:Int×cQ}{r:Int×PyData}(h:wH q=some r):r.1=q.1/\∃prs x,q.2= .ck prs x/\r.2= .tuple [fE prs, .int x]:=by
 obtain⟨k,d⟩:=q
 cases d with
 |lt _ _=>cases h
 |ck prs x=>cases h;exact⟨rfl,prs,x,rfl,rfl⟩
theorem Ff{ds:aR}{k:Int}{d:PyData}:(k,d)∈ldK ds↔∃a b,(k,cQ.lt a b)∈ds/\d= .tuple [.int a, .int b]:=by
  unfold ldK
  rw[p8]
  constructor
  · rintro⟨q,hq,e⟩
    obtain⟨e1,a,b,e2,e3⟩:=FY e
    exact ⟨a, b, by have : q = (k, .lt a b) := Prod.ext e1.symm e2
                    rwa[<-this],e3⟩
  · rintro⟨a,b,h,rfl⟩
    exact⟨_,h,rfl⟩
theorem Hq{ds:aR}{k:Int}{d:PyData}:(k,d)∈aY ds↔∃prs r,(k,cQ.ck prs r)∈ds/\d= .tuple [fE prs, .int r]:=by
  unfold aY
  rw[p8]
  constructor
  · rintro⟨q,hq,e⟩
    obtain⟨e1,a,b,e2,e3⟩:=B4 e
    exact ⟨a, b, by have : q = (k, .ck a b) := Prod.ext e1.symm e2
                    rwa[<-this],e3⟩
  · rintro⟨a,b,h,rfl⟩
    exact⟨_,h,rfl⟩
theorem HQ{ks:Ks}{k:Int}:cT ks k=true↔∃d,(k,d)∈ks:=by
 rw[lg,c9]
 constructor
 ·rintro⟨⟨k',d⟩,h,rfl⟩;exact⟨d,h⟩
 ·rintro⟨d,h⟩;exact⟨_,h,rfl⟩
theorem qB{ds:aR}{k:Int}:cT (ldK ds) k=true↔∃a b,(k,cQ.lt a b)∈ds:=by
 rw[HQ]
 exact⟨fun⟨d,h⟩=>by obtain⟨a,b,h,_⟩:=Ff.mp h;exact⟨a,b,h⟩,fun⟨a,b,h⟩=>⟨_,Ff.mpr ⟨a,b,h,rfl⟩⟩⟩
theorem yk{ds:aR}{k:Int}:cT (aY ds) k=true↔∃prs r,(k,cQ.ck prs r)∈ds:=by
 rw[HQ]
 exact⟨fun⟨d,h⟩=>by obtain⟨a,b,h,_⟩:=Hq.mp h;exact⟨a,b,h⟩,fun⟨a,b,h⟩=>⟨_,Hq.mpr ⟨a,b,h,rfl⟩⟩⟩
theorem wg{ks:Ks}{k:Int}{d:PyData}(h:cT ks k≠true):eX ks k d=ks++[(k,d)]:=by unfold eX;rw[if_neg h]
theorem FN{ds:aR}(h:(ds.map (·.1)).Pairwise (· < ·)):∀{k:Int} {d e:cQ},(k,d)∈ds->(k,e)∈ds->d=e:=by
  induction ds with
  |nil=>intro k d e h;cases h
  | cons q r ih =>
    intro k d e h1 h2
    rw[bL] at h
    obtain⟨h3,h4⟩:=uY.mp h
    rcases aL.mp h1 with e1|e1<;>rcases aL.mp h2 with e2|e2
    · rw[<-e1] at e2;cases e2;rfl
    · have:=h3 k (c9.mpr ⟨_,e2,rfl⟩)
      rw[<-e1] at this
      exact absurd this (yC _)
    · have:=h3 k (c9.mpr ⟨_,e1,rfl⟩)
      rw[<-e2] at this
      exact absurd this (yC _)
    · exact ih h4 e1 e2
theorem uP{ks:Ks}{k:Int}{d:PyData}(h:(ks.map (·.1)).Nodup)(m:(k,d)∈ks):bZ ks k=some d:=by
  induction ks with
  |nil=>cases m
  | cons q r ih =>
    rw[bL] at h
    obtain⟨h1,h2⟩:=gR.mp h
    rw[p6]
    rcases aL.mp m with e|e
    · rw[<-e];exact if_pos rfl
    · rw[if_neg fun z=>h1 (c9.mpr ⟨_,e,z.symm⟩)]
      exact ih h2 e
theorem ND(ds:aR):((ldK ds).map (·.1)).Sublist (ds.map (·.1)):=by
  induction ds with
  |nil=>exact .slnil
  | cons q r ih =>
    unfold ldK at ih⊢
    rw[jI]
    split
    · exact ih.cons _
    · rename_i e
      rw[bL,bL,(FY e).1]
      exact ih.cons₂ _
theorem Pq(ds:aR):((aY ds).map (·.1)).Sublist (ds.map (·.1)):=by
  induction ds with
  |nil=>exact .slnil
  | cons q r ih =>
    unfold aY at ih⊢
    rw[jI]
    split
    · exact ih.cons _
    · rename_i e
      rw[bL,bL,(B4 e).1]
      exact ih.cons₂ _
section
variable{p n many:Int}{ds:aR}
theorem aS.nd(h:aS p n many ds):(ds.map (·.1)).Nodup:=h.rise.imp fun z=>Cj z
theorem aS.G0(h:aS p n many ds){k a b:Int}(m:(k,cQ.lt a b)∈ds):bZ (ldK ds) k=some (.tuple [.int a, .int b]):=uP (h.nd.sublist (ND ds)) (Ff.mpr ⟨a,b,m,rfl⟩)
theorem aS.Px(h:aS p n many ds){k r:Int}{prs:bz}(m:(k,cQ.ck prs r)∈ds):bZ (aY ds) k=some (.tuple [fE prs, .int r]):=uP (h.nd.sublist (Pq ds)) (Hq.mpr ⟨prs,r,m,rfl⟩)
theorem aS.T6(h:aS p n many ds):cT (ldK ds) many≠true:=fun z=>by
 obtain⟨a,b,m⟩:=qB.mp z
 exact absurd (h.rg _ m).2 (yC _)
theorem aS.acY(h:aS p n many ds):cT (aY ds) many≠true:=fun z=>by
 obtain⟨a,b,m⟩:=yk.mp z
 exact absurd (h.rg _ m).2 (yC _)
theorem aS.Q5(h:aS p n many ds)(a b:Int):eX (ldK ds) many (.tuple [.int a, .int b])=ldK (ds++[(many, .lt a b)])/\aY (ds++[(many, .lt a b)])=aY ds:=by
 rw[wg h.T6]
 unfold ldK aY
 rw[zI,zI]
 exact⟨rfl,gH _⟩
theorem aS.Ym(h:aS p n many ds)(prs:bz)(r:Int):eX (aY ds) many (.tuple [fE prs, .int r])=aY (ds++[(many, .ck prs r)])/\ldK (ds++[(many, .ck prs r)])=ldK ds:=by
 rw[wg h.acY]
 unfold ldK aY
 rw[zI,zI]
 exact⟨rfl,gH _⟩
theorem aS.snoc(h:aS p n many ds)(h0:0<=many){d:cQ}(hd:uA p n d)(hl:ds.length<63):aS p n (many+1) (ds++[(many,d)]):=by
 refine⟨?_,fun q m=>?_,fun q m=>?_,by rw[dW,kT];omega⟩
 ·rw[fF]
  refine EK.mpr ⟨h.rise,by simp,fun x hx y hy=>?_⟩
  obtain⟨q,hq,rfl⟩:=c9.mp hx
  have:y=many:=by simpa using hy
  rw[this];exact(h.rg q hq).2
 ·rcases ir.mp m with m|m
  ·have:=h.rg q m;omega
  ·rw[aK.mp m];exact⟨h0,by show many<many+1;omega⟩
 ·rcases ir.mp m with m|m
  ·exact h.ok q m
  ·rw[aK.mp m];exact hd
def iI(ds:aR)(k:Int):aR:=ds.filter fun q=>decide (q.1≠k)
theorem JP(g:Int×cQ->Option (Int×PyData))(hg:∀q r,g q=some r->r.1=q.1)(ds:aR)(k:Int):i7 (ds.filterMap g) k=(iI ds k).filterMap g:=by
  induction ds with
  |nil=>rfl
  | cons q r ih =>
    cases e:g q with
    | none =>
      rw[Kv e,ih]
      unfold iI
      by_cases hk:q.1=k
      · rw[om (by simpa using hk)]
      · rw[oF (by simpa using hk),Kv e]
    | some x =>
      rw[yI e]
      unfold iI i7 at ih⊢
      by_cases hk:q.1=k
      · rw[om (by rw[hg q x e];simpa using hk),om (by simpa using hk)]
        exact ih
      · rw[oF (by rw[hg q x e];simpa using hk),oF (by simpa using hk),yI e]
        exact congrArg _ ih
theorem Mn(ds:aR)(k:Int):i7 (ldK ds) k=ldK (iI ds k):=JP Ab (fun _ _ h=>(FY h).1) ds k
theorem JM(ds:aR)(k:Int):i7 (aY ds) k=aY (iI ds k):=JP wH (fun _ _ h=>(B4 h).1) ds k
theorem K7{ks:Ks}{k:Int}(h:cT ks k≠true):i7 ks k=ks:=by
 unfold i7
 refine Cw.mpr fun q m=>decide_eq_true fun z=>h ?_
 rw[lg]
 exact c9.mpr ⟨q,m,z⟩
theorem aS.out(h:aS p n many ds)(k:Int):aS p n many (iI ds k):=
 ⟨h.rise.sublist ((OB).map _),fun q m=>h.rg q (jh.mp m).1,fun q m=>h.ok q (jh.mp m).1,cG (nM ..) h.len⟩
theorem aS.Wh(h:aS p n many ds){k a b:Int}(m:(k,cQ.lt a b)∈ds):i7 (ldK ds) k=ldK (iI ds k)/\aY (iI ds k)=aY ds:=by
 refine⟨Mn ds k,?_⟩
 rw[<-JM]
 refine K7 fun z=>?_
 obtain⟨prs,r,m'⟩:=yk.mp z
 cases FN h.rise m m'
theorem aS.Wx(h:aS p n many ds){k r:Int}{prs:bz}(m:(k,cQ.ck prs r)∈ds):i7 (aY ds) k=aY (iI ds k)/\ldK (iI ds k)=ldK ds:=by
 refine⟨JM ds k,?_⟩
 rw[<-Mn]
 refine K7 fun z=>?_
 obtain⟨a,b,m'⟩:=qB.mp z
 cases FN h.rise m m'
theorem keys_perm(ds:aR):((ldK ds).map (·.1)++(aY ds).map (·.1)).Perm (ds.map (·.1)):=by
  induction ds with
  |nil=>exact .nil
  | cons q r ih =>
    obtain⟨k,d⟩:=q
    unfold ldK aY at ih⊢
    cases d with
    | lt a b =>
      rw[jI,jI]
      exact ih.cons k
    | ck prs x =>
      rw[jI,jI]
      exact List.perm_middle.trans (ih.cons k)
theorem aS.keys(h:aS p n many ds){rs:List Int}(hp:rs.Perm ((ldK ds).map (·.1)++(aY ds).map (·.1)))(hs:rs.Pairwise (· <= ·)):rs=ds.map (·.1):=EM h.rise hs (hp.trans (keys_perm ds))
end
structure Pc where
 wd:Wo
 wh:Int->Option PyData
def jC(k:Int):PyData:= .tuple [.str "letter", .int k]
def jz(k t:Int):PyData:= .tuple [.str "check", .int k, .int t]
def dB(ds:aR)(a:Int):Option (Int×Int):=ds.findSome? fun q=>match q.2 with
 | .lt a' b=>if a'=a then some (q.1,b) else none
 | .ck _ _=>none
noncomputable def cN(p:Int)(ds:aR)(wd:Wo)(a:Int):Option (Int×Int):=ds.findSome? fun q=>match q.2 with
  | .lt _ _=>none
  | .ck prs r => match ic p prs r wd with
    |some (a',x)=>if a'=a then some (q.1,x) else none
    |none=>none
def er(n:Int)(ds:aR):Pc where
 wd:=(List.range n.toNat).map fun(i:Nat)=>(dB ds i).map (·.2)
 wh:=fun a=>if 0<=a/\a<n then(dB ds a).map fun x=>jC x.1 else none
noncomputable def cV(p:Int)(ds:aR)(t:Int)(c:Pc):Pc where
 wd:=(List.range c.wd.length).map fun(i:Nat)=>match c.wd[i]? with
  |some (some x)=>some x
  |_=>(cN p ds c.wd i).map (·.2)
 wh:=fun a=>match c.wh a with
  |some w=>some w
  |none=>if 0<=a/\a<c.wd.length then(cN p ds c.wd a).map fun x=>jz x.1 t else none
noncomputable def bJ(p n:Int)(ds:aR):Nat->Pc
 |0=>er n ds
 |t+1=>cV p ds ((t:Int)+1) (bJ p n ds t)
noncomputable def eT(p n:Int)(ds:aR):Pc:=bJ p n ds (n.toNat+1)
def rD(p n:Int)(ds:aR)(d:PyData):Prop:=∃W:Ks,d= .tuple [dN (eT p n ds).wd, .dict (W.map aG)]/\∀a,bZ W a=(eT p n ds).wh a
def LastOk(p n:Int)(ds:aR)(d:PyData):Prop:=d= .none\/rD p n ds d
abbrev jc(p n:Int)(a b:Addr)(ds:aR)(many:Int)(last:PyData):Fs:=[("p", .d (.int p)),("n", .d (.int n)),("letter_deeds", .cu (cD a (ldK ds))),("check_deeds", .cu (cD b (aY ds))),("many", .d (.int many)),("last", .d last)]
abbrev dJ(C x dx a b:Addr)(p n:Int)(ds:aR)(many:Int)(last:PyData):Cu:=aA C x dx (jc p n a b ds many last)
def wQ:Option PyData->PyData
 |none=> .none
 |some d=>d
abbrev RY(d:PyData)(l:List Str):PyData:= .tuple [d, .list (l.map .str)]
section
variable{G:Gx}{ρ:Rh}{Φ:Pd}{te:TE}{t:TA}{i m:Nat}{C x dx l:Addr}{fs:Fs}{K:PySem.W.Frag}{f:Str}{ks:Ks}{Θ:Bool->List PyData->Prop}
theorem aE.Ii(h:Ev G ρ te fun _ x=>∃ks:Ks,x= .dict (ks.map aG)/\Θ true ((ks.map (·.1)).map .int)):aE G ρ (fc zG (aX te bE)) Θ:=fun nb σ H Q W z=>
 h nb σ H _ W fun fg v H1 d ⟨ks,ed,q⟩ s1 hv=>by
  subst ed
  unfold af at hv
  obtain⟨l,ps,rfl,hn,hp,hd⟩:=hv
  refine⟨l,ps,ks.map (·.1),rfl,hp,hd.keys,fun p oA=>?_⟩
  refine aE.fin (f:=true) (ds:=(ks.map (·.1)).map .int) W s1 oA ?_ (by rw[z0];exact q) z
  generalize ks.map (·.1)=ns
  induction ns with
  |nil=>exact .nil
  |cons n r ih=>exact .cons (.int n) ih
theorem Ev.Qm(e:ρ[i]?=some (.raw (.ref x)))(hh:(false,HD.th (aA C x dx fs),V.ref x)∈G.hold)(cl:cg K C)(na:aT K C f)(hl:fs.lookup f=some (.cu (cD l ks)))(h:Φ false (.dict (ks.map aG))):Ev G ρ (iZ K (bf i) f) Φ:=fun nb σ H Q W z=>by
 obtain⟨x0,e1,h1⟩:=W.ok i _ e
 have h1:x0=some (.ref x):=h1
 subst h1
 obtain⟨_,h2,n,h3,len,vs,q,r⟩:=W.held hh
 obtain⟨v,g1,g2,ps,hp,hd⟩:=r.get hl
 refine⟨.ref x,e1,x,C,dx,vs,v,rfl,q,cl,na,g1,z false v H _ h (.refl W.au) ?_⟩
 unfold af
 exact⟨l,ps,g2,(h2 l (oY (fl:= .cu (cD l ks)) hl (aK.mpr rfl))).1, .inl hp,hd⟩
end
end L2
set_option maxRecDepth 100000
set_option maxHeartbeats 4000000
namespace L2
open PySem PySem.Spec PyProof.Rows
section
variable{G:Gx}{ρ:Rh}{ta tb te:TE}{t:TA}{E:DE}{i j n:Nat}{v:V}{f:Bool}{L:J5}{K:PySem.W.Frag}{Φ:Pd}{Θ:List (Option PyData)->Prop}
theorem yE.DM{n:Nat}{F:RF}{c:Cu}{C:Addr}{m:Str}{Ψ:PyData->Prop}(hm:vI F)(e:ρ[i]?=some (.cu c))(hcf:c.f=false)(hi:∀S H,c.P S H->∃a dx fs,c.v= .ref a/\H a=some (.ins C dx fs)/\fs.lookup m=none)
  (h:fh G ρ t fun ds=>ds.length+1=n/\F c ds fun f d=>f=true/\Ψ d):yE G ρ (kP C m (lq n F) [] E0 (bf i) t) Ψ:=fun nb σ H Q W z=>by
 obtain⟨x0,e1,h1,h2,h3⟩:=W.ok i _ e
 subst h1
 obtain⟨a,dx,fs,g1,g2,g3⟩:=hi _ _ h3
 refine⟨c.v,e1,a,dx,fs,g1,g2,g3,h nb σ H _ W fun ds vs H1 ⟨hl,p⟩ s1 q1=>?_⟩
 have k:=PZ s1 (NV W e hcf)
 rw[gH]
 have W1:=W.step s1
 refine⟨by rw[fG,q1.length,hl],fun a=>¬NB G.B a,c,vs,ds,rfl,fun a y=>NB.kB W1.au y,fun a m=>⟨fun y=>y (k.1 a m).1,(k.1 a m).2⟩,k.2,q1,hm _ _ _ _ p fun f d ⟨hf,hp⟩ v H' sm hd=>z v H' d hp (s1.trans (.same W1.au sm)) ?_⟩
 refine hd.av fun a y=> .inr ⟨hf,fun w=>y ?_⟩
 exact W.none_of s1 w
end
structure adB(L:J5)(o o1 o2:Addr)(m:Int)(ns gs:List Int):Prop where
 nd:[o,o1,o2].Nodup
 h0:L.lookup o=some (.lst [.dat (.int m), .own o1, .own o2])
 h1:L.lookup o1=some (.lst (ns.map fun n=> .dat (.int n)))
 h2:L.lookup o2=some (.lst (gs.map fun n=> .dat (.int n)))
end L2
set_option maxRecDepth 100000
set_option maxHeartbeats 4000000
namespace L2
open PySem PySem.Spec PyProof.Rows
def Lg:R2:=fun x y H Q=>∃a b ps,x= .ref a/\y= .ref b/\Rd H a (.dK ps)/\Rd H b (.dK [])/\Q (.bl (!ps.isEmpty)) H
theorem RG{X:Cx}(hu:X.A.units+64<cLine):dR X (compareOp .NotEq) Lg:=by
  intro pins s σ H x y v u Q I rx ry h
  obtain⟨a,b,ps,rfl,rfl,ha,hb,q⟩:=h
  cases (show v=Value.ref a from rx)
  cases (show u=Value.ref b from ry)
  obtain⟨z1,hd1,vs,Q3,C9⟩:=lW I.hok ha
  obtain⟨z2,hd2,us,VD,dd2⟩:=lW I.hok hb
  have Vx:us=[]:=by have:=VD.length;simpa using this.symm
  subst Vx
  show wpAny _ _ (richCompare .NotEq (.ref a) (.ref b)) _ _ _
  refine wpAny_richCompare_same_room (T:="dict") (id:="dict.__ne__") C9.typeIs dd2.typeIs JV ?_ (by omega)
  refine wpAny_call_entry JV C9.typeIs PySem.F.entry_dict_ne ?_ (PySem.F.args_dict_ne_2 _ _)
  have e:Builtin.Dict.dictSlotArgs "__ne__" ⟨[.ref a, .ref b],[]⟩=pure (.ref a, .ref b):=by
    unfold Builtin.Dict.dictSlotArgs
    rfl
  unfold Builtin.«dict.__ne__»
  refine wpAny_bind (m:=Builtin.Dict.dictSlotArgs "__ne__" _) ?_
  rw[e]
  refine wpAny_pure ?_
  refine wpAny_bind (wpAny_isInstance (T:="dict") (U:="dict") (b:=true) dd2.typeIs (by rfl) ?_)
  refine wpAny_bind (m:=Builtin.Dict.addrOf (.ref a)) (wpAny_pure ?_)
  refine wpAny_bind (m:=Builtin.Dict.addrOf (.ref b)) (wpAny_pure ?_)
  obtain⟨oa,es,ep,ga,xa,da,ka,pa,na⟩:=C9
  obtain⟨ob,fs,eq,gb,xb,db,kb,pb,nb⟩:=dd2
  have hfs:fs.size=0:=by have:=pb.length;rw[jW] at this;simpa using this
  have hes:es.size=ps.length:=by have:=pa.length;rw[jW] at this;rw[this];exact Q3.length.symm
  have key:∀{Q':Bool->Shared->Prop} {E':Value->Shared->Prop} {M:Model} {A':Around},Q' ps.isEmpty s->wpAny M A' (Builtin.Dict.samePairs "dict.__ne__" a b) Q' E' s:=fun{Q' E' M A'} hq=>by
    unfold Builtin.Dict.samePairs
    refine wpAny_bind (m:=Builtin.Dict.showsAll a) ?_
    rw[show Builtin.Dict.showsAll a=pure () by unfold Builtin.Dict.showsAll;rw[if_neg (by rw[hd1];decide)]]
    refine wpAny_pure ?_
    refine wpAny_bind (m:=Builtin.Dict.showsAll b) ?_
    rw[show Builtin.Dict.showsAll b=pure () by unfold Builtin.Dict.showsAll;rw[if_neg (by rw[hd2];decide)]]
    refine wpAny_pure ?_
    refine wpAny_bind (wpAny_dictEntries ga da ?_)
    refine wpAny_bind (wpAny_dictEntries gb db ?_)
    rw[hfs,hes]
    cases ps with
    | nil =>
      rw[if_neg (by decide)]
      refine wpAny_bind (wpAny_dictEpoch ga da ?_)
      have e0:∀(f:Nat->Option Bool×Unit->Sem (ForInStep (Option Bool×Unit))),forIn [:([]:List (Key×V)).length] ((none,()):Option Bool×Unit) f=pure (none,()):=fun f=>by
        rw[show[:([]:List (Key×V)).length]=[:0] from rfl]
        simp
      rw[e0]
      exact wpAny_bind (wpAny_pure (wpAny_pure hq))
    | cons p ps =>
      rw[if_pos (by simp)]
      exact wpAny_bind (m:=rule _) (wpAny_rule (wpAny_pure hq))
  refine wpAny_bind (key ?_)
  refine wpAny_pure ⟨_,rfl,by simp, .bl _,H,I,rfl,?_⟩
  rw[show(ps.isEmpty==false)=!ps.isEmpty by cases ps<;>rfl]
  exact q
section
variable{G:Gx}{ρ cH:Rh}{ta te:TE}{gt:TG}{K:PySem.W.Frag}{Θ:Bool->List PyData->Prop}{tc:TT}{mp:List (Option Nat)}
theorem aE.Rb{NF:Addr->Prop}{t0:TE}(hm:(mp.filterMap id).Nodup)(dH:mR mp ρ=cH)(hnt:∀f c v,(f,HD.th c,v)∈G.hold->∀S H b ps,c.P S H->b∈c.F->¬Rd H b (.dK ps))
  (h:Ev G ρ t0 fun fi x=>∃ks:Ks,x= .dict (ks.map aG)/\ks.length<=10000/\∀G':Gx,(∀x∈G.hold,x∈G'.hold)->jD G' cH ks.length (fun i d=>∃p,ks[i]?=some p/\d= .int p.1) fi gt tc te Θ):aE G ρ (D0 NF (kY (xM NF t0) gt tc te mp)) Θ:=fun nb σ H Q W z=>by
 unfold D0 kY xM
 refine h nb σ H _ W fun fi v H1 x ⟨ks,ex,hn,q⟩ s1 hv=>?_
 subst ex
 have W1:=W.step s1
 have hv0:=hv
 unfold af at hv
 obtain⟨a,ps,rfl,n,hp,hd⟩:=hv
 have hlen:ps.length=ks.length:=by have:=congrArg List.length (aq.keys hd);simpa using this
 have hS:¬G.S nb false a:=fun z=>n (cL (fun w=>by cases w) (fun _ w=>w) a z)
 have hN:NB G.B a:=jJ fun z=>hS (.inr (.inr (.inl z)))
 have s2:Step G.B H1 H1:= .refl W1.au
 have W2:=W1
 have hv2:=hv0
 have hp2:=hp
 generalize hH2:H1=H2 at s1 s2 W1 W2 hv2 hp2 hv0 hp hd
 have yl:∀{G':Gx} {o:Obj} {nb ρ σ H i x H'},Wd (G'.hd fi (.dict (ks.map aG)) (.ref a)) nb ρ σ H->H a=some (.bQ o (.dK ps))->i<ks.length->(nV a o ps).lI i H x H'->∃d,(∃p,ks[i]?=some p/\d= .int p.1)/\Step (G'.hd fi (.dict (ks.map aG)) (.ref a)).B H H'/\af ((G'.hd fi (.dict (ks.map aG)) (.ref a)).S nb fi) H' d x:=fun{G' o nb ρ σ H i x H'} W ha hi hy=>by
  obtain⟨rfl,r,hr,rfl⟩:=hy
  obtain⟨a',ps',e',n',o8,hd'⟩:=(show af (G'.S nb fi) H' (.dict (ks.map aG)) (.ref a) from W.iX.2)|>fun h=>by unfold af at h;exact h
  cases e'
  have XA:ps'=ps:=by
   rcases o8 with o8|⟨o',o8⟩
   ·rw[ha] at o8;cases o8
   ·rw[ha] at o8;cases o8;rfl
  subst XA
  obtain⟨v,hv,hD⟩:=aq.at hd' (bP hi)
  rw[hr] at hv
  cases hv
  exact⟨_,⟨_,bP hi,rfl⟩, .refl W.au, .int _⟩
 refine⟨a,ps,rfl,?_⟩
 rcases hp2 with hp2|⟨o,hp2⟩
 ·refine .inl ⟨hp2,fun o nf acc hacc=>?_⟩
  have hG:∀u,G.H0 a=some u->u= .dK ps:=fun u e=>by have:=W2.old a u hN e;rw[hp2] at this;exact(gf this).symm
  have hF:∀f o' qs v,(f,HD.fz o' qs,v)∈G.hold->v≠ .ref a:=fun f o' qs v m e=>by
   obtain⟨c,e1,_,e3⟩:=(show fk (G.S nb f) H2 (.fz o' qs) v from W2.eE _ m)
   rw[e1] at e;cases e
   rw[hp2] at e3;cases e3
  have hT:∀f c v,(f,HD.th c,v)∈G.hold->a∉c.F:=fun f c v m z=>hnt f c v m _ _ _ _ (show fk _ H2 (.th c) v from W2.eE _ m).2.2 z (.inl hp2)
  have mv:=Mv.bQ (o:=o) hp2
  have W3:=(W2.freeze (o:=o) hp2 hS hT).hd (f:=fi) (d:= .dict (ks.map aG)) (v:= .ref a) ((af.mv mv hv2).av fun b z=>Gx.rH.mp z)
  have W4:Wd ((G.fz a o ps).hd fi (.dict (ks.map aG)) (.ref a)) nb cH (gW mp σ) (upd H2 a (.bQ o (.dK ps))):=by rw[<-dH];exact W3.gW hm
  have Qc:acc≠a:=fun e=>by subst e;rw[aQ] at hacc;cases hacc
  refine Ir (G':=(G.fz a o ps).hd fi (.dict (ks.map aG)) (.ref a)) (n:=ks.length) (fun i H h hi=>⟨h,by omega⟩) (fun H h=>⟨h,hlen⟩) hn (fun W=>(W.iX.1.kQ hG hF hT).2) (fun W hi hy=>yl (G':=G.fz a o ps) W (W.iX.1.kQ hG hF hT).2 hi hy) W4 hacc (q _ fun x m=>bX _ (bX _ m)) fun σ' H' ds xs fl W' st hx hds GV=>?_
  obtain⟨W5,hz⟩:=W'.iX.1.kQ hG hF hT
  refine .inr ⟨a,o,ps,hz,nf,?_⟩
  have Zh:H2 acc=none:=by rw[aB Qc] at hacc;exact hacc
  have mV:Step G.B H2 (upd H' a (.dK ps)):=⟨fun b u ZG e=>by
   by_cases hb:b=a
   ·subst hb
    rw[hp2] at e;cases e
    exact aQ
   ·rw[aB hb]
    exact st.1 b u ZG (by rw[aB hb];exact e),W5.au⟩
  refine Be W (s1.trans s2) Zh mV (by rw[aB Qc];exact hx) ((ah.mv (Mv.kQ hz) hds).av fun b z=>?_) GV z
  exact Gx.rH.mpr z
 ·refine .inr ⟨o,hp2,fun acc hacc=>?_⟩
  have W3:=(W2.hz hS hp2).hd (f:=fi) (d:= .dict (ks.map aG)) (v:= .ref a) hv2
  have W4:Wd ((G.hz a o ps).hd fi (.dict (ks.map aG)) (.ref a)) nb cH (gW mp σ) H2:=by rw[<-dH];exact W3.gW hm
  refine Ir (G':=(G.hz a o ps).hd fi (.dict (ks.map aG)) (.ref a)) (n:=ks.length) (fun i H h hi=>⟨h,by omega⟩) (fun H h=>⟨h,hlen⟩) hn (fun W=>W.iX.1.vp.2) (fun W hi hy=>yl (G':=G.hz a o ps) W W.iX.1.vp.2 hi hy) W4 hacc (q _ fun x m=>bX _ (bX _ m)) fun σ' H' ds xs fl W' st hx hds GV=>?_
  exact .inl (Be W (s1.trans s2) hacc st hx hds GV z)
end
section
variable{G:Gx}{ρ:Rh}{Φ:Pd}{ta te:TE}{t:TA}
theorem Ev.Q8(h:Ev G ρ ta fun _ d=>∃ks:Ks,d= .dict (ks.map aG)/\Φ true (.bool (!ks.isEmpty))):Ev G ρ (cP Lg ta tU) Φ:=fun nb σ H Q W z=>by
  refine h nb σ H _ W fun f v H1 x ⟨ks,ex,q⟩ s1 hv=>?_
  subst ex
  unfold af at hv
  obtain⟨a,ps,rfl,n,hp,hd⟩:=hv
  intro p oA
  have hpa:a≠p:=fun e=>by
    subst e
    rcases hp with hp|⟨o,hp⟩<;>rw[oA] at hp<;>cases hp
  have hlen:ps.length=ks.length:=by have:=congrArg List.length (aq.keys hd);simpa using this
  have W1:=W.step s1
  refine⟨a,p,ps,rfl,rfl,?_, .inl aQ,?_⟩
  · rcases hp with hp|⟨o,hp⟩
    · exact .inl (by rw[aB hpa];exact hp)
    · exact .inr ⟨o,by rw[aB hpa];exact hp⟩
  · have e:ps.isEmpty=ks.isEmpty:=by
      cases ps with
      | nil => cases ks with
        |nil=>rfl
        |cons=>simp at hlen
      | cons => cases ks with
        |nil=>simp at hlen
        |cons=>rfl
    rw[e]
    exact z true _ _ _ q (s1.trans (.same W1.au (dD oA))) (.bl _)
end
section
variable{G:Gx}{ρ:Rh}{Φ:Pd}{ta tb te:TE}{t:TA}{i j:Nat}{E:DE}{C x dx:Addr}{fs:Fs}{K:PySem.W.Frag}{f m:Str}{d:PyData}
theorem Wd.WT{nb:Addr->Prop}{σ:St}{H H1:Hp}{c:Cu}{vs:List (Str×V)}(W:Wd G nb ρ σ H)(s1:Step G.B H H1)(e:ρ[i]?=some (.cu (aA C x dx fs)))(hl:fs.lookup f=none)(hlen:fs.length<900)(hnd:c.F.Nodup)(jY:∀a∈c.F,H a=none)(hl1:∀a∈c.F,H1 a≠none)
  (hP:c.P (fun a=>G.S nb false a\/a∈c.F) H1) (qx:H1 x=some (.ins C dx vs)):Wd G (fun a=>(nb a\/a∈c.F)\/a∈bH x dx (fs++[(f, .cu c)])) (ρ.set i (.cu (aA C x dx (fs++[(f, .cu c)])))) σ (upd H1 x (.ins C dx (fR f c.v vs))):=by
 have Fb:∀a∈c.F,H a=none:=jY
 obtain⟨Td,e0,CL,_⟩:=W.jB e
 have fX:∀l∈c.F,l∉bH x dx fs:=fun l ml z=>W.live l (CL l z).1 (jY l ml)
 obtain⟨W1,D8,Dv⟩:=W.Cr s1 Fb hl1
 obtain⟨vs',e1,h2,n,h3,len,tE,r⟩:=W1.jB e
 rw[qx] at tE
 cases tE
 have hn:=n
 unfold bH at hn
 obtain⟨n1,n2⟩:=gR.mp hn
 have hdx:dx≠x:=fun z=>n1 (by rw[z];exact cA ..)
 have hx:x∉fs.flatMap fun g=>g.2.adr:=fun z=>n1 (bX _ z)
 have hlx:x∉c.F:=fun z=>fX x z (by simp[bH])
 have vn:x∈bH x dx fs:=by simp[bH]
 have eF:bH x dx (fs++[(f, .cu c)])=bH x dx fs++c.F:=by
  unfold bH
  rw[Gn]
  show _::_::(_++(c.F++[]))=_
  rw[gH]
  rfl
 have hS:∀{a},G.S (fun y=>(nb y\/y∈c.F)\/y∈bH x dx (fs++[(f, .cu c)])) false a->G.S (fun y=>nb y\/y∈c.F) false a:=fun{a} z=>by
  rcases z with (z|z)|z|z|z
  ·exact .inl z
  ·rw[eF,ir] at z
   rcases z with z|z
   ·exact .inl (h2 a z).1
   ·exact .inl (.inr z)
  ·exact .inr (.inl z)
  ·exact .inr (.inr (.inl z))
  ·exact .inr (.inr (.inr z))
 refine W1.rJ (c:=aA C x dx fs) (c':=aA C x dx (fs++[(f, .cu c)])) e (fun a o na q=>?_) rfl (fun a m=>?_) (fun a m=>?_) ?_
 ·rw[aB (fun z=>na (by rw[z];exact vn))];exact q
 ·rw[show(aA C x dx (fs++[(f, .cu c)])).F=bH x dx fs++c.F from eF,ir] at m
  rcases m with m|m
  ·exact .inl m
  ·refine .inr (.inr ⟨.inr m,D8 a m,fun j s hs z=>?_⟩)
   obtain⟨y,_,q⟩:=W.ok j s hs
   exact W.live a (q.vU a z).1 (jY a m)
 ·by_cases z:a=x
  ·rw[z,aQ];exact eO _
  ·rw[aB z]
   rcases m with m|m
   ·exact W1.live a (h2 a m).1
   ·rw[show(aA C x dx (fs++[(f, .cu c)])).F=bH x dx fs++c.F from eF,ir] at m
    rcases m with m|m
    ·exact W1.live a (h2 a m).1
    ·exact hl1 a m
 ·refine⟨?_,by rw[aB hdx];exact h3,by rw[dW,kT];omega,_,aQ,?_⟩
  ·rw[eF,lT]
   exact⟨n,hnd,fun a m b m' z=>fX b m' (by rw[<-z];exact m)⟩
  ·have n5:G.S (fun y=>nb y\/y∈c.F) false x:= .inl (h2 x vn).1
   have:=cE.Dl (f:=f) (fl:= .cu c) (v:=c.v) (o:= .ins C dx (fR f c.v vs)) n5 ⟨rfl,c.keep (S:=G.S (fun y=>nb y\/y∈c.F) false) (.of fun a o m q=>?_) (c.av (fun a z=>?_) hP)⟩ hx r
   ·rw[t8 hl] at this
    exact this.map (fun d v z=>z.av fun a=>hS) fun g m c' e z=>c'.av (fun a=>hS) z
   ·rw[aB]
    ·exact q
    ·rintro rfl
     rcases m with m|m
     ·exact m n5
     ·exact hlx m
   ·rcases Dv false a z with z|z
    ·exact .inl z
    ·exact .inr z
def jR(a0:Addr)(bs:List Addr)(rs:List (List Int)):Cu where
 v:= .ref a0
 F:=a0::bs
 f:=false
 P:=fun _ H=>H a0=some (.lst (bs.map .ref))/\bs.length=rs.length/\∀(i:Nat) b r,bs[i]?=some b->rs[i]?=some r->H b=some (.lst (r.map V.int))
 keep:=fun k ⟨h1,h2,h3⟩=>⟨k.own _ cA _ h1,h2,fun i b r e1 e2=>k.own _ (bX _ (dg e1)) _ (h3 i b r e1 e2)⟩
 av:=fun _ h=>h
 fresh:=fun _ h=>h
theorem Sv.acB(e:ρ[i]?=some (.cu (aA C x dx fs)))(cl:cg K C)(na:aT K C f)(hl:fs.lookup f=none)(hlen:fs.length<900)
  (h:Bw G ρ te fun rM=>∃rs:List (List Int),rM=rs.map (·.map .int)/\∀a0 bs,bs.length=rs.length->E.nx (ρ.set i (.cu (aA C x dx (fs++[(f, .cu (jR a0 bs rs))]))))):Sv G ρ (sF K (bf i) te f) E:=fun nb σ H D W KK=>
 h nb σ H _ W fun a0 bs rM H1 ⟨rs,ed,q⟩ s1 nd hn fY h0 hr=>by
  subst ed
  rw[ao] at fY
  obtain⟨vs,e1,h2,n,h3,len,qx,r⟩:=(W.step s1).jB e
  have qA:∀(i:Nat) b r,bs[i]?=some b->rs[i]?=some r->H1 b=some (.lst (r.map V.int)):=fun i b r e1 e2=>by
   obtain⟨xs,g1,g2⟩:=hr i b (r.map .int) e1 (by rw[bI,e2];rfl)
   rw[g1,qh g2]
  refine⟨.ref x,e1,x,C,dx,vs,rfl,qx,cl,na,by rw[r.len];omega,KK.nx _ _ _ _ (q a0 bs fY) (W.WT (c:=jR a0 bs rs) s1 e hl hlen nd hn (fun a m=>?_) ⟨h0,fY,qA⟩ qx)⟩
  rcases aL.mp m with rfl|m
  ·rw[h0];exact eO _
  ·obtain⟨k,hk⟩:=qd m
   have hlt:k<rs.length:=by rw[<-fY];exact(bT.mp hk).1
   rw[qA k a _ hk (bP hlt)];exact eO _
end
section
variable{G:Gx}{ρ:Rh}{te:TE}{Θ:List (List PyData)->Prop}
theorem Bw.ack(h:Ev G ρ te fun _ x=>∃n:Int,x= .int n/\0<=n/\n<=9999/\Θ (List.replicate n.toNat [])):
  Bw G ρ (kY (tV (aX te bE)) (iK 0) qi (mw bE) [none]) Θ:=fun nb σ H Q W KK=>
 h nb σ H _ W fun f v H1 x ⟨n,ex,n0,n1,q⟩ s1 hv=>by
  subst ex
  rw[hv.bD]
  refine⟨n,rfl,by omega,by omega,fun acc hacc=>?_⟩
  refine R.EI (fun j σ H2=>∃bs:List Addr,bs.length=j/\H2 acc=some (.lst (bs.map V.ref))/\bs.Nodup/\(∀b∈bs,H1 b=none/\H2 b=some (.lst []))/\acc∉bs/\∀b o,H1 b=some o->H2 b=some o) ?_ ?_ ?_
  ·exact⟨[],rfl,aQ,List.nodup_nil,(fun _ z=>by cases z),(fun z=>by cases z),fun b o e=>by rw[aB (fun z=>by rw[z,hacc] at e;cases e)];exact e⟩
  ·rintro j σ H2 hj ⟨bs,fY,hA,hnd,hb,hab,hk⟩
   refine⟨g8 _,fun b hb0=>?_⟩
   have hba:b≠acc:=fun z=>by rw[z,hA] at hb0;cases hb0
   have IC:b∉bs:=fun z=>by have:=(hb b z).2;rw[hb0] at this;cases this
   have RC:H1 b=none:=by
    cases e:H1 b with
    |none=>rfl
    |some o=>rw[hk b o e] at hb0;cases hb0
   refine⟨bs.map V.ref,by rw[aB (cX hba)];exact hA,by rw[ao,fY];exact fB (show j<10000 by omega) (by decide),bs++[b],by rw[dW,fY];rfl,by rw[aQ,fF];rfl,?_,?_,?_,?_⟩
   ·rw[lT]
    exact⟨hnd,by simp,fun x hx y hy z=>by rw[aK.mp hy] at z;exact IC (z▸hx)⟩
   ·intro x hx
    rcases ir.mp hx with z|z
    ·obtain⟨g1,g2⟩:=hb x z
     refine⟨g1,?_⟩
     rw[aB (fun y=>hab (by rw[<-y];exact z)),aB (fun y=>IC (by rw[<-y];exact z))];exact g2
    ·rw[aK.mp z]
     exact⟨RC,by rw[aB hba,aQ]⟩
   ·intro z
    rcases ir.mp z with z|z
    ·exact hab z
    ·exact hba (aK.mp z).symm
   ·intro x o e
    have:=hk x o e
    rw[aB (fun z=>by rw[z,hacc] at e;cases e),aB (fun y=>by rw[y,hb0] at this;cases this)]
    exact this
  ·rintro σ2 H2 ⟨bs,fY,hA,hnd,hb,hab,hk⟩
   have s2:Step G.B H H2:=s1.trans (.same s1.2 hk)
   refine KK acc bs _ H2 q s2 (gR.mpr ⟨hab,hnd⟩) (fun b hb'=>?_) (by rw[rj,fY]) hA fun j b l e1 e2=>?_
   ·rcases aL.mp hb' with z|z
    ·rw[z];exact W.none_of s1 hacc
    ·exact W.none_of s1 (hb b z).1
   ·have el:l=[]:=by
     rw[eY] at e2
     split at e2
     ·cases e2;rfl
     ·cases e2
    subst el
    exact⟨[],(hb b (dg e1)).2, .nil⟩
end
section
variable{G:Gx}{ρ:Rh}{Φ:Pd}{ta tb te:TE}{t:TA}{i j:Nat}{E:DE}{C x dx a0:Addr}{fs:Fs}{K K':PySem.W.Frag}{f m:Str}{d:PyData}{bs:List Addr}{rs:List (List Int)}{Ψ:Addr->Prop}
theorem qE.ID(e:ρ[i]?=some (.cu (aA C x dx fs)))(cl:cg K C)(na:aT K C f)(hl:fs.lookup f=some (.cu (jR a0 bs rs)))(h:Ev G ρ tb fun _ y=>∃k j b,y= .int k/\gV bs.length k=some j/\bs[j]?=some b/\Ψ b):
  qE G ρ (cP (dS K') (iZ K (bf i) f) tb) Ψ:=fun nb σ H Q W z=>
 nJ W e cl na hl fun hF hP=>h nb σ H _ W fun g u H1 y ⟨k,j,b,ey,hj,hb,p⟩ s1 hu=>by
  subst ey
  refine⟨a0,bs.map .ref,k, .ref b,rfl,hu.bD,bh.of (s1.1 _ _ (hF a0 cA).2 hP.1),?_,z b H1 p s1⟩
  unfold cO
  rw[ao,hj]
  show(bs.map V.ref)[j]?=_
  rw[bI,hb];rfl
theorem Wd.rows{nb:Addr->Prop}{σ:St}{H:Hp}(W:Wd G nb ρ σ H)(e:ρ[i]?=some (.cu (aA C x dx fs)))(hl:fs.lookup f=some (.cu (jR a0 bs rs))):(a0::bs).Nodup/\(∀a∈a0::bs,nb a/\NB G.B a)/\(jR a0 bs rs).P (G.S nb false) H:=by
  obtain⟨vs,e1,h2,n,h3,len,q,r⟩:=W.jB e
  obtain⟨v,g1,g2,g3⟩:=r.get hl
  refine⟨?_,fun a m=>h2 a (oY hl m),g3⟩
  unfold bH at n
  have n2:=(gR.mp (gR.mp n).2).2
  have key:∀{fs:Fs},(fs.flatMap fun g=>g.2.adr).Nodup->fs.lookup f=some (.cu (jR a0 bs rs))->(a0::bs).Nodup:=fun{fs}=>by
    induction fs with
    |nil=>intro _ h;cases h
    | cons g r ih =>
      obtain⟨g1,g2⟩:=g
      intro hn h
      rw[oV,lT] at hn
      rw[fK] at h
      cases hb:(f==g1) with
      |true=>rw[hb] at h;cases h;exact hn.1
      |false=>rw[hb] at h;exact ih hn.2.1 h
  exact key n2 hl
theorem Sv.Ug(e:ρ[i]?=some (.cu (aA C x dx fs)))(hl:fs.lookup f=some (.cu (jR a0 bs rs)))
  (h:qE G ρ ta fun b=>∃(j:Nat) (r:List Int),bs[j]?=some b/\rs[j]?=some r/\r.length<10000/\Ev G ρ te fun _ d=>∃n,d= .int n/\E.nx (ρ.set i (.cu (aA C x dx (dw f (.cu (jR a0 bs (rs.set j (r++[n])))) fs))))):
  Sv G ρ (nB (pA K "list" C8 ta (aX te bE))) E:=fun nb σ H D W KK=>
 h nb σ H _ W fun b H1 ⟨j,r,hb,hr,hlr,q⟩ s1=>by
  have W1:=W.step s1
  obtain⟨nd,hF,h0,fY,qA⟩:=W1.rows e hl
  refine⟨.inl ⟨rfl,_,bh.of (qA j b r hb hr)⟩,?_⟩
  refine q nb σ H1 _ W1 fun g u H2 d ⟨n,ed,p⟩ s2 hu=>?_
  subst ed
  have W2:=W1.step s2
  obtain⟨_,_,h0',_,Kc⟩:=W2.rows e hl
  have hbm:b∈a0::bs:=bX _ (dg hb)
  have ha0:a0≠b:=fun z=>(gR.mp nd).1 (by rw[z];exact dg hb)
  refine⟨b,r.map .int,u,rfl,rfl,Kc j b r hb hr,fB (by rw[ao];exact hlr) (by decide),KK.nx nb _ _ _ p (W2.vK (c:=jR a0 bs rs) (c':=jR a0 bs (rs.set j (r++[n]))) e hl hbm rfl rfl ⟨?_,?_,fun i' b' r' e1 e2=>?_⟩)⟩
  ·rw[aB ha0];exact h0'
  ·rw[jg];exact fY
  ·by_cases c:j=i'
   ·subst c
    rw[hb] at e1;cases e1
    rw[cU (bT.mp hr).1] at e2
    cases e2
    rw[aQ,hu.bD,fF];rfl
   ·rw[bO c] at e2
    have:b'≠b:=fun z=>by
     subst z
     have l1:=(bT.mp hb)
     have l2:=(bT.mp e1)
     exact c ((List.getElem?_inj l1.1 (gR.mp nd).2).mp (hb.trans e1.symm))
    rw[aB this];exact Kc i' b' r' e1 e2
theorem Sv.Sw{s:TS}(e:ρ[i]?=some (.cu (aA C x dx fs)))(hl:fs.lookup f=some (.cu (jR a0 bs rs)))(h:qE G ρ ta fun b=>∃(q:Nat) (r:List Int),bs[q]?=some b/\rs[q]?=some r/\∃I:Nat->Rh->Prop,I 0 ρ/\
   (∀m ρ',I m ρ'->∃fs',ρ'[i]?=some (.cu (aA C x dx fs'))/\fs'.lookup f=some (.cu (jR a0 bs rs)))/\
   (∀m n ρ',r[m]?=some n->I m ρ'->Sv G (ρ'.set j (.d true (.int n))) s {nx:=I (m+1),rt:=E.rt,bk:=E.nx,ct:=I (m+1),rw:=E.rw})/\∀ρ',I r.length ρ'->E.nx ρ'):
  Sv G ρ (pQ (qf K ta) (iK j) s) E:=fun nb σ H D W KK=>
 h nb σ H _ W fun b H1 ⟨q0,r,hb,hr,I,h0,hI,ht,he⟩ s1=>by
  have W1:=W.step s1
  have key:∀{nb ρ' σ H m},Wd G nb ρ' σ H->I m ρ'->H b=some (.lst (r.map .int)):=fun{nb ρ' σ H m} W q=>by
   obtain⟨fs',e',hl'⟩:=hI m ρ' q
   exact(W.rows e' hl').2.2.2.2 q0 b r hb hr
  refine⟨b,rfl,⟨_,bh.of (key W1 h0)⟩,?_⟩
  refine GO (xs:=r.map .int) (fun m σ H=>∃nb ρ',I m ρ'/\Wd G nb ρ' σ H) ⟨nb,ρ,h0,W1⟩ (fun m σ H _ ⟨nb,ρ',q,W⟩=>bh.of (key W q)) ?_ ?_
  ·rintro m x σ H hx ⟨nb,ρ',q,W⟩
   rw[bI] at hx
   obtain⟨c,hc,rfl⟩:=jo.mp hx
   refine ht m c ρ' hc q nb _ H _ (W.set (s:= .d true (.int c)) (x:=some (.int c)) ⟨_,rfl, .int c⟩ (fun _ _ _ z=>by cases z)) ?_
   exact⟨fun nb ρ σ H q W=>⟨nb,ρ,q,W⟩,KK.nx,fun nb ρ σ H q W=>⟨nb,ρ,q,W⟩,KK.rt,KK.rw⟩
  ·rintro σ H ⟨nb,ρ',q,W⟩
   rw[ao] at q
   exact KK.nx nb ρ' σ H (he ρ' q) W
end
theorem ab4{X:Cx}:M4 X jb:=by
 intro pins s σ H o i ov iv Q I ro ri h
 obtain⟨a,kvs,k,z,rfl,rfl,hH,hv,q⟩:=h
 cases ro
 obtain⟨hz,hd,vs,rel,dd⟩:=lW I.hok hH
 obtain⟨w',hw,rw'⟩:=iY.some_of (v:=z) (o:=valueAt vs k) (by rw[<-hv];exact rel.val k)
 exact wpAny_getItem_of (n6 ri) dd.mapOf hw ⟨z,H,I.tok _,rw',q⟩
theorem Sv.R8{G:Gx}{ρ:Rh}{tb:TE}{i:Nat}{E:DE}{C x0 dx l:Addr}{fs:Fs}{K:PySem.W.Frag}{f:Str}{ks:Ks}{g:Int->Int->Int}{c:Int}(e:ρ[i]?=some (.cu (aA C x0 dx fs)))(cl:cg K C)(na:aT K C f)(hl:fs.lookup f=some (.cu (cD l ks)))
  (h:Ev G ρ tb fun _ y=>∃k x,y= .int k/\bZ ks k=some (.int x)/\ks.length<=10000/\E.nx (ρ.set i (.cu (aA C x0 dx (dw f (.cu (cD l (eX ks k (.int (g x c))))) fs))))):Sv G ρ (IM (iZ K (bf i) f) tb (tC (.int c)) jb (Jo g) yU) E:=fun nb σ H D W KK=>
 nJ W e cl na hl fun hF ⟨ps,hp,hd⟩=>h nb σ H _ W fun g' u H2 y ⟨k,m,ey,hk,hlk,p⟩ s2 hu=>by
  subst ey
  have W2:=W.step s2
  have fX:=hF l (aK.mpr rfl)
  have hS:G.S nb false l:= .inl fX.1
  have hp2:=s2.1 _ _ fX.2 hp
  have hd2:=hd.keep s2.dz
  have hv:=aq.val k hd2
  rw[hk] at hv
  obtain⟨v,e',hD⟩:=hv
  have CI:=hD.bD
  subst CI
  have hlen:=hd2.len
  refine⟨l,ps, .inl k,_,rfl,hu.bD, .inl hp2,e',m,c,rfl,rfl,l,ps, .inl k,rfl,hu.bD,hp2,oq (by rw[hlen];exact hlk) (by decide),KK.nx nb _ _ _ p (W2.vK (c:=cD l ks) (c':=cD l (eX ks k (.int (g m c)))) e hl (aK.mpr rfl) rfl rfl ⟨_,aQ,?_⟩)⟩
  exact(aq.put hd2 (.int _)).keep (aZ.set hS)
end L2
set_option maxRecDepth 100000
set_option maxHeartbeats 4000000
namespace L2
open PySem PySem.Spec PyProof.Rows
abbrev LT:=Int×Int×Int
abbrev CT:=Int×bz×Int
def EW(q:Int×cQ):Option LT:=match q.2 with
 | .lt a b=>some (q.1,a,b)
 | .ck _ _=>none
def Ig(q:Int×cQ):Option CT:=match q.2 with
 | .lt _ _=>none
 | .ck prs r=>some (q.1,prs,r)
def fJ(es:aR):List LT:=es.filterMap EW
def aH(es:aR):List CT:=es.filterMap Ig
def ZX(t:LT):Int×PyData:=(t.1, .tuple [.int t.2.1, .int t.2.2])
def ctK(t:CT):Int×PyData:=(t.1, .tuple [fE t.2.1, .int t.2.2])
theorem DY(es:aR):ldK es=(fJ es).map ZX:=by
 unfold ldK fJ
 rw[List.map_filterMap]
 congr 1
 funext q
 obtain⟨k,d⟩:=q
 cases d<;>rfl
theorem GL(es:aR):aY es=(aH es).map ctK:=by
 unfold aY aH
 rw[List.map_filterMap]
 congr 1
 funext q
 obtain⟨k,d⟩:=q
 cases d<;>rfl
theorem K1{es:aR}{t:LT}(h:t∈fJ es):(t.1,cQ.lt t.2.1 t.2.2)∈es:=by
 obtain⟨⟨k,d⟩,h1,h2⟩:=p8.mp h
 cases d with
 |lt a b=>cases h2;exact h1
 |ck prs r=>cases h2
theorem Ky{es:aR}{t:CT}(h:t∈aH es):(t.1,cQ.ck t.2.1 t.2.2)∈es:=by
 obtain⟨⟨k,d⟩,h1,h2⟩:=p8.mp h
 cases d with
 |lt a b=>cases h2
 |ck prs r=>cases h2;exact h1
variable{p n many:Int}{es:aR}
theorem aS.VJ(h:aS p n many es):((fJ es).map (·.1)).Pairwise (· < ·):=by
 have:=JR (ND es) h.rise
 rw[DY,k7] at this
 exact this
theorem aS.zc(h:aS p n many es):((aH es).map (·.1)).Pairwise (· < ·):=by
 have:=JR (Pq es) h.rise
 rw[GL,k7] at this
 exact this
theorem Xu(es:aR):(ldK es).map (·.1)=(fJ es).map (·.1):=by rw[DY,k7];rfl
theorem Y4(es:aR):(aY es).map (·.1)=(aH es).map (·.1):=by rw[GL,k7];rfl
theorem TR(es:aR):(ldK es).length=(fJ es).length:=by rw[DY,ao]
theorem Vo(es:aR):(aY es).length=(aH es).length:=by rw[GL,ao]
theorem aS.Nr(h:aS p n many es):(fJ es).length<=63:=cG (xx _ _) h.len
theorem aS.yG(h:aS p n many es):(aH es).length<=63:=cG (xx _ _) h.len
theorem aS.Ur(h:aS p n many es){t:LT}(m:t∈fJ es):bZ (ldK es) t.1=some (.tuple [.int t.2.1, .int t.2.2]):=h.G0 (K1 m)
theorem aS.Jk(h:aS p n many es){t:CT}(m:t∈aH es):bZ (aY es) t.1=some (.tuple [fE t.2.1, .int t.2.2]):=h.Px (Ky m)
def pG(F:Ks)(t:LT):Ks:=if cT F t.2.1=true then F else F++[(t.2.1, .tuple [.int t.2.2,jC t.1])]
def gP(ts:List LT):Ks:=ts.foldl pG []
theorem yM(ts:List LT)(t:LT):gP (ts++[t])=pG (gP ts) t:=by unfold gP;rw[vm];rfl
theorem XR{ts:List LT}{i:Nat}{t:LT}(h:ts[i]?=some t):gP (ts.take (i+1))=pG (gP (ts.take i)) t:=by rw[take_snoc h,yM]
theorem snoc_ind{α:Type}{P:List α->Prop}(h0:P [])(h1:∀l a,P l->P (l++[a])):∀l,P l:=fun l=>by
 rw[<-List.reverse_reverse l]
 induction l.reverse with
 |nil=>exact h0
 |cons a r ih=>rw[Hx];exact h1 _ _ ih
theorem S3(a:Int):∀ts,bZ (gP ts) a=(ts.find? fun t=>decide (t.2.1=a)).map fun t=> .tuple [.int t.2.2,jC t.1]:=by
 refine snoc_ind rfl fun ts t ih=>?_
 rw[yM,List.find?_append]
 unfold pG
 by_cases hh:cT (gP ts) t.2.1=true
 ·rw[if_pos hh,ih]
  by_cases c:t.2.1=a
  ·subst c
   rw[<-mh,ih] at hh
   cases e:ts.find? (fun u=>decide (u.2.1=t.2.1)) with
   |none=>rw[e] at hh;cases hh
   |some u=>rfl
  ·cases e:ts.find? (fun u=>decide (u.2.1=a)) with
   |none=>simp[List.find?,c]
   |some u=>rfl
 ·rw[if_neg hh,DJ,ih]
  by_cases c:t.2.1=a
  ·subst c
   rw[<-mh,ih] at hh
   cases e:ts.find? (fun u=>decide (u.2.1=t.2.1)) with
   |none=>simp[List.find?]
   |some u=>rw[e] at hh;exact absurd rfl hh
  ·cases e:ts.find? (fun u=>decide (u.2.1=a)) with
   |none=>simp[List.find?,c,cX c]
   |some u=>rfl
theorem LK(es:aR)(a:Int):dB es a=((fJ es).find? fun t=>decide (t.2.1=a)).map fun t=>(t.1,t.2.2):=by
  unfold dB fJ
  induction es with
  |nil=>rfl
  | cons q r ih =>
    obtain⟨k,d⟩:=q
    rw[pH,jI]
    cases d with
    |ck prs x=>exact ih
    | lt b c =>
      by_cases z:b=a
      · simp[EW,z]
      · simp only[EW,if_neg z,nq,decide_eq_false z]
        exact ih
structure qg(F:Ks)(g:Int->Option (Int×PyData)):Prop where
 nd:(F.map (·.1)).Nodup
 val:∀a,bZ F a=(g a).map fun x=> .tuple [.int x.1,x.2]
theorem L6:∀ts,((gP ts).map (·.1)).Nodup:=by
 refine snoc_ind .nil fun ts t ih=>?_
 rw[yM]
 unfold pG
 split
 ·exact ih
 ·rename_i hh
  rw[fF,lT]
  exact⟨ih,by simp,fun x hx y hy z=>by
   rw[lg] at hh
   have:y=t.2.1:=by simpa using hy
   rw[z,this] at hx
   exact hh hx⟩
theorem Jz:∀ts,(gP ts).length<=ts.length:=by
 refine snoc_ind (aU _) fun ts t ih=>?_
 rw[yM]
 unfold pG
 split
 ·rw[dW];omega
 ·rw[dW,dW];simp;omega
theorem wm(es:aR):qg (gP (fJ es)) fun a=>(dB es a).map fun x=>(x.2,jC x.1):=⟨L6 _,fun a=>by
 rw[S3,LK,GI,GI];rfl⟩
def FW(wd:Wo)(t:CT):Int×PyData:=(t.1, .int ((bK wd t.2.1).length:Int))
def cW(wd:Wo)(ts:List CT):Ks:=ts.map (FW wd)
def iH(ts:List CT)(a:Int):List Int:=(ts.filter fun t=>t.2.1.any fun pr=>decide (pr.1=a)).map (·.1)
def fS(n:Int)(ts:List CT):List (List Int):=(List.range n.toNat).map fun(a:Nat)=>iH ts a
def mq(n:Int)(ts:List CT)(k:Int)(prs:bz):List (List Int):=(List.range n.toNat).map fun(a:Nat)=>iH ts a++if prs.any (fun pr=>decide (pr.1=(a:Int)))=true then[k] else[]
theorem aal(n:Int):fS n []=List.replicate n.toNat []:=by
 unfold fS
 apply ja
 intro i
 rw[bI,eY]
 by_cases c:i<n.toNat
 ·rw[if_pos c,j4 c];rfl
 ·rw[if_neg c,fN (by rw[ig];omega)];rfl
theorem Me(n:Int)(ts:List CT)(k:Int):mq n ts k []=fS n ts:=by
 unfold mq fS
 congr 1
 funext a
 simp
theorem abw(n:Int)(ts:List CT)(t:CT):mq n ts t.1 t.2.1=fS n (ts++[t]):=by
 unfold mq fS
 congr 1
 funext a
 unfold iH
 rw[qq,fF]
 congr 1
 rw[mS]
 split<;>simp_all
theorem Nk{n:Int}{ts:List CT}{k a:Int}{prs:bz}(h0:0<=a)(h1:a<n)(h:∀pr∈prs,pr.1≠a):(mq n ts k prs)[a.toNat]?=some (iH ts a):=by
 unfold mq
 rw[bI,j4 (by omega)]
 have e:((a.toNat:Nat):Int)=a:=by omega
 have:prs.any (fun pr=>decide (pr.1=a))=false:=by
  rw[List.any_eq_false]
  intro pr m;simpa using h pr m
 simp[e,this]
theorem Vy{n:Int}{ts:List CT}{k:Int}{prs:bz}{pr:Int×Int}(h0:0<=pr.1)(h1:pr.1<n)(h:∀q∈prs,q.1≠pr.1):(mq n ts k prs).set pr.1.toNat (iH ts pr.1++[k])=mq n ts k (prs++[pr]):=by
 unfold mq
 apply ja
 intro i
 rw[bI]
 by_cases c:i<n.toNat
 ·rw[j4 c]
  by_cases e:pr.1.toNat=i
  ·subst e
   rw[cU (by rw[ao,ig];exact c)]
   have e:((pr.1.toNat:Nat):Int)=pr.1:=by omega
   simp[e]
  ·rw[bO e,bI,j4 c]
   have:¬pr.1=(i:Int):=by omega
   simp only[sV,List.any_append,kZ,List.any_nil,this,decide_false,nO]
 ·rw[fN (by rw[jg,ao,ig];omega),fN (by rw[ig];omega)]
  rfl
theorem abL(ts:List CT)(a:Int):(iH ts a).length<=ts.length:=by unfold iH;rw[ao];exact nM ..
theorem abE{n:Int}{prs:bz}(h:∀pr∈prs,0<=pr.1/\pr.1<n):bK (List.replicate n.toNat none) prs=prs:=by
 unfold bK
 rw[Cw]
 intro pr m
 obtain⟨g1,g2⟩:=h pr m
 rw[eY,if_pos (by omega)]
 rfl
theorem Om(wd:Wo)(ts:List CT):(cW wd ts).map (·.1)=ts.map (·.1):=by unfold cW;rw[k7];rfl
theorem Hv(wd:Wo)(ts:List CT):(cW wd ts).length=ts.length:=by unfold cW;rw[ao]
theorem aS.uX(h:aS p n many es){t:CT}(m:t∈aH es):m8 p n t.2.1/\0<=t.2.2/\t.2.2<p:=h.ok _ (Ky m)
theorem zH{prs:bz}(h:m8 p n prs):(prs.length:Int)<=n:=by
  have hp:(prs.map (·.1)).Pairwise (· < ·):=EG.mpr h.2.1
  have hr:∀a∈prs.map (·.1),0<=a/\a<n:=fun a m=>by
    obtain⟨pr,m',rfl⟩:=c9.mp m
    exact⟨(h.2.2 pr m').1,(h.2.2 pr m').2.1⟩
  have key:∀(l:List Int) (b:Int),l.Pairwise (· < ·)->(∀a∈l,b<=a/\a<n)->b<=n->(l.length:Int)<=n-b:=fun l=>by
    induction l with
    |nil=>intro b _ _ hb;simp;omega
    | cons x r ih =>
      intro b hp hr hb
      obtain⟨g1,g2⟩:=uY.mp hp
      have:=ih (x+1) g2 (fun a m=>⟨g1 a m,(hr a (bX _ m)).2⟩) (by have:=(hr x cA).2;omega)
      have:=(hr x cA).1
      simp;omega
  have hn:0<=n:=by
    cases prs with
    |nil=>exact absurd rfl h.1
    |cons pr r=>have:=h.2.2 pr cA;omega
  have:=key _ 0 hp hr hn
  rw[ao] at this
  omega
theorem Kp.sup{S S':Addr->Prop}{F:List Addr}{H H':Hp}(k:Kp S F H H')(h:∀a,S a->S' a):Kp S' F H H':=
 ⟨k.own,fun a xs n e=>k.lst a xs (fun z=>n (h a z)) e,fun a xs n e=>k.tup a xs (fun z=>n (h a z)) e,fun a ps n e=>k.bN a ps (fun z=>n (h a z)) e⟩
def gU(R:Addr->Prop)(a:Addr)(ks:Ks):Cu where
 v:= .ref a
 F:=[a]
 f:=false
 P:=fun S H=>∃ps,H a=some (.dK ps)/\aq (fun x=>S x\/R x) H (ks.map aG) ps
 keep:=fun k ⟨xs,h,q⟩=>⟨xs,k.own _ (aK.mpr rfl) _ h,aq.kp (k.sup fun _=> .inl) q⟩
 av:=fun z ⟨xs,h,q⟩=>⟨xs,h,q.av fun a y=>y.imp (z a) id⟩
 fresh:=fun z ⟨xs,h,q⟩=>⟨xs,h,(q.fresh z).av fun a y=>by
  rcases y with (y|y)|y
  ·exact .inl (.inl y)
  ·exact .inr y
  ·exact .inl (.inr y)⟩
section
variable{G:Gx}{ρ:Rh}{te:TE}{i:Nat}{E:DE}{C x dx:Addr}{fs:Fs}{K:PySem.W.Frag}{f:Str}{R:Addr->Prop}
theorem Sv.RE(e:ρ[i]?=some (.cu (aA C x dx fs)))(cl:cg K C)(na:aT K C f)(hl:fs.lookup f=none)(hlen:fs.length<900)(h:∀l,E.nx (ρ.set i (.cu (aA C x dx (fs++[(f, .cu (gU R l []))]))))):Sv G ρ (sF K (bf i) tU f) E:=fun nb σ H D W KK=>
 (ly.new (Θ := fun _ ks => ks = []) rfl : ly G ρ tU _) nb σ H _ W fun fg l ps H1 ks ek s1 jY el hd => by
  subst ek
  obtain⟨vs,e1,h2,n,h3,len,qx,r⟩:=(W.step s1).jB e
  refine⟨.ref x,e1,x,C,dx,vs,rfl,qx,cl,na,by rw[r.len];omega,KK.nx _ _ _ _ (h l) (W.FJ (c:=gU R l []) s1 e hl hlen rfl rfl jY (by rw[el];exact eO _) ⟨ps,el,?_⟩ qx)⟩
  unfold aq at hd⊢
  exact hd
end
abbrev dY(p:Int)(cd:Fl)(ll lw a0:Addr)(bs:List Addr)(lc:Addr)(wd:Wo)(W:Cu)(rs:List (List Int))(N:Ks):Fs:=[("p", .d (.int p)),("check_deeds",cd),("letters", .cu (kC ll (wd.map bF))),("whys", .cu W),("having", .cu (jR a0 bs rs)),("counts", .cu (cD lc N))]
def mZ(v:V):Cu where
 v:=v
 F:=[]
 f:=false
 P:=fun _ _=>True
 keep:=fun _ h=>h
 av:=fun _ h=>h
 fresh:=fun _ h=>h
def fV(wd:Wo)(g:Int->Option (Int×PyData))(ks:List Int):Wo:=(List.range wd.length).map fun(a:Nat)=>if(a:Int)∈ks then(g a).map (·.1) else wd.getD a none
theorem qW(wd:Wo)(g:Int->Option (Int×PyData))(ks:List Int):(fV wd g ks).length=wd.length:=by unfold fV;rw[ao,ig]
theorem abP(wd:Wo)(g:Int->Option (Int×PyData)):fV wd g []=wd:=by
 unfold fV
 apply ja
 intro i
 rw[bI]
 by_cases c:i<wd.length
 ·rw[j4 c,bP c];simp[lU,c]
 ·rw[fN (by rw[ig];omega),fN (by omega)];rfl
theorem zK{wd:Wo}{g:Int->Option (Int×PyData)}{ks:List Int}{a:Nat}(h:a<wd.length):(fV wd g ks)[a]?=some (if(a:Int)∈ks then(g a).map (·.1) else wd.getD a none):=by
 unfold fV
 rw[bI,j4 h];rfl
theorem HS{wd:Wo}{g:Int->Option (Int×PyData)}{ks:List Int}{a x:Int}{w:PyData}(h0:0<=a)(h1:a<wd.length)(hg:g a=some (x,w)):(fV wd g ks).set a.toNat (some x)=fV wd g (ks++[a]):=by
 apply ja
 intro i
 by_cases c:i<wd.length
 ·rw[zK c]
  by_cases e:a.toNat=i
  ·subst e
   rw[cU (by rw[qW];exact c)]
   have e:((a.toNat:Nat):Int)=a:=by omega
   rw[e,if_pos (jH _ (aK.mpr rfl)),hg];rfl
  ·rw[bO e,zK c]
   have:¬(i:Int)=a:=by omega
   simp only[ir,aK,this,or_false]
 ·rw[fN (by rw[jg,qW];omega),fN (by rw[qW];omega)]
def eS(W:Ks)(g:Int->Option (Int×PyData))(ks:List Int):Ks:=ks.foldl (fun W a=>match g a with|some (_,w)=>eX W a w|none=>W) W
theorem A6{W:Ks}{g:Int->Option (Int×PyData)}{ks:List Int}{a x:Int}{w:PyData}(hg:g a=some (x,w)):eS W g (ks++[a])=eX (eS W g ks) a w:=by unfold eS;rw[vm];simp only[yb,Hf,hg]
theorem aco(W:Ks)(a:Int)(w:PyData):(eX W a w).length<=W.length+1:=by
 unfold eX
 split
 ·rw[ao];exact oj _
 ·rw[dW];exact aU _
theorem Xj(W:Ks)(g:Int->Option (Int×PyData)):∀ks:List Int,(eS W g ks).length<=W.length+ks.length:=by
  refine snoc_ind (aU _) fun ks a ih=>?_
  cases hg:g a with
  | none =>
    have:eS W g (ks++[a])=eS W g ks:=by unfold eS;rw[vm];simp only[yb,Hf,hg]
    rw[this,dW];omega
  | some xw =>
    obtain⟨x,w⟩:=xw
    rw[A6 hg,dW]
    have:=aco (eS W g ks) a w
    simp;omega
theorem aa3(W:Ks)(g:Int->Option (Int×PyData))(b:Int):∀ks:List Int,bZ (eS W g ks) b=match(if b∈ks then g b else none) with|some (_,w)=>some w|none=>bZ W b:=by
  refine snoc_ind (by simp[eS]) fun ks a ih=>?_
  cases hg:g a with
  | none =>
    have:eS W g (ks++[a])=eS W g ks:=by unfold eS;rw[vm];simp only[yb,Hf,hg]
    rw[this,ih]
    by_cases c:b=a
    · subst c;simp[hg]
    · simp[c]
  | some xw =>
    obtain⟨x,w⟩:=xw
    rw[A6 hg,U6,ih]
    by_cases c:b=a
    · subst c;simp[hg]
    · simp[c]
def jm(wd:Wo)(ts:List CT)(a:Int)(m:Nat):Ks:=ts.map fun t=>(t.1, .int (((bK wd t.2.1).length:Int)-if t.1∈(iH ts a).take m then 1 else 0))
theorem VQ(wd:Wo)(ts:List CT)(a:Int):jm wd ts a 0=cW wd ts:=by
 unfold jm cW
 exact uF fun t _=>by simp[FW]
theorem U1(wd:Wo)(ts:List CT)(a:Int)(m:Nat):(jm wd ts a m).length=ts.length:=by unfold jm;rw[ao]
theorem MQ{ts:List CT}{a k:Int}:k∈iH ts a↔∃t∈ts,t.1=k/\∃pr∈t.2.1,pr.1=a:=by
 unfold iH
 rw[c9]
 constructor
 ·rintro⟨t,h,rfl⟩
  obtain⟨h1,h2⟩:=jh.mp h
  obtain⟨pr,m,e⟩:=pO.mp h2
  exact⟨t,h1,rfl,pr,m,by simpa using e⟩
 ·rintro⟨t,h,rfl,pr,m,e⟩
  exact⟨t,jh.mpr ⟨h,pO.mpr ⟨pr,m,by simpa using e⟩⟩,rfl⟩
theorem Xc{ts:List CT}(h:(ts.map (·.1)).Nodup)(a:Int):(iH ts a).Nodup:=by
 unfold iH
 exact h.sublist (List.Sublist.map _ OB)
theorem Ph{ts:List CT}(h:(ts.map (·.1)).Nodup){t u:CT}(ht:t∈ts)(hu:u∈ts)(e:t.1=u.1):t=u:=by
  induction ts with
  |nil=>cases ht
  | cons b r ih =>
    rw[bL,gR] at h
    rcases aL.mp ht with rfl|ht'
    · rcases aL.mp hu with rfl|hu'
      · rfl
      · exact absurd (c9.mpr ⟨u,hu',e.symm⟩) h.1
    · rcases aL.mp hu with rfl|hu'
      · exact absurd (show u.1∈r.map (·.1) from c9.mpr ⟨t,ht',e⟩) h.1
      · exact ih h.2 ht' hu'
theorem HL{l:List Int}(h:l.Nodup){m:Nat}{k:Int}(hk:l[m]?=some k):k∉l.take m:=fun z=>by
 obtain⟨j,hj⟩:=qd z
 rw[Dr] at hj
 split at hj
 ·rename_i c
  have l1:=(bT.mp hk).1
  have l2:=(bT.mp hj).1
  have:=(List.getElem?_inj l2 h).mp (hj.trans hk.symm)
  omega
 ·cases hj
theorem Vn{wd:Wo}{ts:List CT}{a:Int}{m:Nat}{k:Int}(h:(ts.map (·.1)).Nodup)(hk:(iH ts a)[m]?=some k):∃v,bZ (jm wd ts a m) k=some (.int v)/\eX (jm wd ts a m) k (.int (v-1))=jm wd ts a (m+1):=by
 obtain⟨t,ht,e,_⟩:=MQ.mp (dg hk)
 have hout:=HL (Xc h a) hk
 have hkeys:(jm wd ts a m).map (·.1)=ts.map (·.1):=by unfold jm;rw[k7];rfl
 have hv:bZ (jm wd ts a m) k=some (.int ((bK wd t.2.1).length:Int)):=by
  refine uP (by rw[hkeys];exact h) ?_
  unfold jm
  refine c9.mpr ⟨t,ht,?_⟩
  rw[e,if_neg hout,tL]
 refine⟨_,hv,?_⟩
 unfold eX
 rw[if_pos (by rw[lg,hkeys];exact c9.mpr ⟨t,ht,e⟩)]
 unfold jm
 rw[k7]
 refine uF fun u hu=>?_
 have htk:(iH ts a).take (m+1)=(iH ts a).take m++[k]:=take_snoc hk
 show(if u.1=k then(u.1,PyData.int (((bK wd t.2.1).length:Int)-1)) else _)=_
 rw[htk]
 by_cases c:u.1=k
 ·have eu:u=t:=Ph h hu ht (c.trans e.symm)
  rw[if_pos c,eu,e,if_pos (jH _ (aK.mpr rfl))]
 ·rw[if_neg c]
  simp only[ir,aK,c,or_false]
theorem NW{wd:Wo}{a x:Int}(h0:0<=a)(ha:wd[a.toNat]?=some none):∀{prs:bz},(prs.Pairwise fun a b=>a.1<b.1)->(∀pr∈prs,0<=pr.1)->((bK wd prs).length:Int)=((bK (wd.set a.toNat (some x)) prs).length:Int)+if∃pr∈prs,pr.1=a then 1 else 0
  |[],_,_=>by simp[bK]
  | pr :: r, hp, hg => by
    obtain⟨p1,p2⟩:=uY.mp hp
    have ih:=NW (x:=x) h0 ha p2 fun q m=>hg q (bX _ m)
    have g0:=hg pr cA
    have hal:a.toNat<wd.length:=(bT.mp ha).1
    unfold bK at ih⊢
    rw[mS,mS]
    by_cases c:pr.1=a
    · have hno:¬∃q∈r,q.1=a:=fun⟨q,m,e⟩=>by have:=p1 q m;omega
      rw[if_neg hno] at ih
      rw[c,ha,cU hal,if_pos (by rfl),if_neg (by simp),if_pos ⟨pr,cA,c⟩,fG]
      omega
    · have hn:¬a.toNat=pr.1.toNat:=by omega
      rw[bO hn]
      have hiff:(∃q∈pr::r,q.1=a)↔∃q∈r,q.1=a:=⟨fun⟨q,m,e⟩=>by
        rcases aL.mp m with rfl|m
        · exact absurd e c
        · exact⟨q,m,e⟩,fun⟨q,m,e⟩=>⟨q,bX _ m,e⟩⟩
      simp only[hiff]
      split
      · rw[fG,fG];omega
      · exact ih
theorem aaM{wd:Wo}{ts:List CT}{a x:Int}{n:Int}(h:(ts.map (·.1)).Nodup)(hc:∀t∈ts,(t.2.1.Pairwise fun a b=>a.1<b.1)/\∀pr∈t.2.1,0<=pr.1)(h0:0<=a)(ha:wd[a.toNat]?=some none):jm wd ts a (iH ts a).length=cW (wd.set a.toNat (some x)) ts:=by
 unfold jm cW
 refine uF fun t ht=>?_
 rw[jF]
 have e:=NW (x:=x) h0 ha (hc t ht).1 (hc t ht).2
 have hiff:t.1∈iH ts a↔∃pr∈t.2.1,pr.1=a:=by
  rw[MQ]
  exact⟨fun⟨u,hu,e,q⟩=>by rw[<-Ph h hu ht e];exact q,fun q=>⟨t,ht,rfl,q⟩⟩
 unfold FW
 rw[e]
 simp only[hiff]
 congr 2
 omega
abbrev mK(p:Int)(D:PyData)(wd:Wo)(vw vh:V)(N:Ks):Fs:=[("p", .d (.int p)),("check_deeds", .d D),("letters", .d (dN wd)),("whys", .cu (mZ vw)),("having", .cu (mZ vh)),("counts", .d (.dict (N.map aG)))]
theorem Xd{nb:Addr->Prop}{H:Hp}{C x dx ll lw a0 lc:Addr}{p:Int}{D:PyData}{bs:List Addr}{wd:Wo}{W:Cu}{rs:List (List Int)}{N:Ks}(h:(aA C x dx (dY p (.d D) ll lw a0 bs lc wd W rs N)).P nb H)(hF:∀a∈(aA C x dx (dY p (.d D) ll lw a0 bs lc wd W rs N)).F,¬nb a/\H a≠none):
  (aA C x dx (mK p D wd W.v (.ref a0) N)).P nb H/\∀a∈(aA C x dx (mK p D wd W.v (.ref a0) N)).F,¬nb a/\H a≠none:=by
 obtain⟨nd,hd,hl,vs,hx,v1,uc,e1,h1,v2,uR,e2,h2,v3,tT,e3,h3,v4,sP,e4,h4,v5,uS,e5,h5,v6,uL,e6,h6,e7⟩:=h
 have hmem:∀a,a∈[ll]++(W.F++((a0::bs)++[lc]))->¬nb a/\H a≠none:=fun a m=>hF a (by
  show a∈x::dx::([]++([]++([ll]++(W.F++((a0::bs)++([lc]++[]))))))
  rw[gH]
  exact bX _ (bX _ m))
 have Fx:=(hmem ll (by simp)).1
 have Ui:=(hmem lc (by simp)).1
 obtain⟨g3,xs,hxs,hds⟩:=h3
 obtain⟨g6,ps,hps,hks⟩:=h6
 refine⟨⟨?_,hd,iy rfl,vs,hx,v1,uc,e1,h1,v2,uR,e2,h2,v3,tT,e3,?_,v4,sP,e4,⟨h4.1,trivial⟩,v5,uS,e5,⟨h5.1,trivial⟩,v6,uL,e6,?_,e7⟩,fun a m=>hF a ?_⟩
 ·show(x::dx::[]).Nodup
  have:(x::dx::([]++([]++([ll]++(W.F++((a0::bs)++([lc]++[]))))))).Nodup:=nd
  exact this.sublist (List.Sublist.cons₂ _ (List.Sublist.cons₂ _ (List.nil_sublist _)))
 ·rw[g3]
  show af nb H (.list (wd.map bF)) (.ref ll)
  unfold af
  exact⟨ll,xs,rfl,Fx,hxs,hds⟩
 ·rw[g6]
  show af nb H (.dict (N.map aG)) (.ref lc)
  unfold af
  exact⟨lc,ps,rfl,Ui, .inl hps,hks⟩
 ·have m:a∈x::dx::[]:=m
  show a∈x::dx::_
  rcases aL.mp m with rfl|m
  ·exact cA
  ·rw[aK.mp m];exact bX _ cA
theorem Rn{C x dx:Addr}{p:Int}{D:PyData}{wd:Wo}{vw vh:V}{N:Ks}:∀(S:Addr->Prop) (H:Hp) b ps,(aA C x dx (mK p D wd vw vh N)).P S H->b∈(aA C x dx (mK p D wd vw vh N)).F->¬Rd H b (.dK ps):=fun S H b ps ⟨nd,hd,hl,vs,hx,_⟩ m z=>by
 have m:b∈x::dx::[]:=m
 rcases aL.mp m with rfl|m
 ·rcases z with z|⟨o,z⟩<;>rw[hx] at z<;>cases z
 ·rw[aK.mp m] at z
  rcases z with z|⟨o,z⟩<;>rw[hd] at z<;>cases z
noncomputable def pP(p:Int)(wd:Wo)(turn:Int)(F:Ks)(t:CT):Ks:=match ic p t.2.1 t.2.2 wd with
 |some ax=>if cT F ax.1=true then F else F++[(ax.1, .tuple [.int ax.2,jz t.1 turn])]
 |none=>F
noncomputable def gv(p:Int)(wd:Wo)(turn:Int)(ts:List CT):Ks:=ts.foldl (pP p wd turn) []
def fu(wd:Wo)(ts:List CT):List CT:=ts.filter fun t=>decide ((bK wd t.2.1).length=1)
theorem Bj(p:Int)(wd:Wo)(turn:Int)(ts:List CT)(t:CT):gv p wd turn (ts++[t])=pP p wd turn (gv p wd turn ts) t:=by unfold gv;rw[vm];rfl
theorem Pz(p:Int)(wd:Wo)(turn:Int):∀ts,(gv p wd turn ts).length<=ts.length:=by
 refine snoc_ind (aU _) fun ts t ih=>?_
 rw[Bj,dW]
 unfold pP
 split
 ·split
  ·omega
  ·rw[dW];simp;omega
 ·omega
theorem VG{p r:Int}{prs:bz}{wd:Wo}(h:(bK wd prs).length=1):∃ax,ic p prs r wd=some ax:=by
 unfold ic
 match e:bK wd prs,h with
 |[pr],_=>exact⟨_,rfl⟩
theorem Tu{p r:Int}{prs:bz}{wd:Wo}(h:(bK wd prs).length≠1):ic p prs r wd=none:=by
 unfold ic
 split
 ·rename_i e;rw[e] at h;exact absurd rfl h
 ·rfl
theorem VL{X:Cx}{K:PySem.W.Frag}{e:Expr}{ta:TE}{f:Str}{pos:Pos}(hK:X.K=K)(he:PE X e ta)(hb:attributeBase e f X.env (eval e X.env)=eval e X.env):PE X (.Attribute e f pos) (iZ K ta f):=by
 subst hK
 exact cI he hb
section
variable{G:Gx}{ρ:Rh}{Φ:Rh->Pd}{t:TA}{i:Nat}{c:Cu}{cp:V->Cu}{C:Addr}{m:Str}{n:Nat}{F:CF}{D:PyData}
theorem bW.Ou(hm:iV F)(e:ρ[i]?=some (.cu c))(hcf:c.f=false)(hi:∀S H,c.P S H->∃a dx fs,c.v= .ref a/\H a=some (.ins C dx fs)/\fs.lookup m=none)
  (hcp:∀v,(cp v).v=c.v/\(cp v).F=c.F/\(cp v).f=false) (UR:∀S H,c.P S H->∃v,af S H D v/\(cp v).P (fun a=>S a\/G.H0 a≠none) H)
  (h:Av G ρ t fun es=>es.length+1=n/\jT es=true/\∀v,F (cp v) (es.map (·.2)) fun c1 f d=>∃c2:Cu,c2.v=c.v/\c2.F=c.F/\c1.F=c.F/\c2.f=false/\(∀S H,c1.P (fun a=>S a\/G.H0 a≠none) H->af S H D v->c2.P S H)/\Φ (ρ.set i (.cu c2)) false d):
  bW G ρ (kP C m (cB n F) [] E0 (bf i) t) Φ:=fun nb σ H Q W z=>by
 obtain⟨x0,e1,h1,h2,h3⟩:=W.ok i _ e
 subst h1
 obtain⟨a,dx,fs,g1,g2,g3⟩:=hi _ _ h3
 refine⟨c.v,e1,a,dx,fs,g1,g2,g3,h nb σ H _ W fun es vs H1 ⟨hl,hall,p⟩ s1 q1=>?_⟩
 have W1:=W.step s1
 obtain⟨x1,e2,k1,k2,k3⟩:=W1.ok i _ e
 subst k1
 rw[hcf] at k3
 obtain⟨v,hD,hP⟩:=UR _ _ k3
 obtain⟨u1,u2,u3⟩:=hcp v
 have U3:∀a,G.S nb true a->G.S nb false a\/G.H0 a≠none:=fun a y=>by
  rcases y with y|y|y|y
  ·exact .inl (.inl y)
  ·exact .inl (.inr (.inl y))
  ·exact .inl (.inr (.inr (.inl y)))
  ·exact .inr y.2
 show cB n F (c.v::(vs++[])) H1 Q E0
 rw[gH,<-u1]
 refine⟨by rw[fG,q1.len,hl],G.S nb true,cp v,vs,es.map (·.2),rfl,W1.iR,fun a m=> .inl (k2 a (by rw[<-u2];exact m)).1,u3,(cp v).av U3 hP,q1.all (f:=true) (fun _=>hall),hm _ _ _ _ (p v) fun c1 f d ⟨c2,w1,w2,w3,w4,hb,hp⟩ r H' to wV hd=>?_⟩
 have kpD:Kp (G.S nb false) [] H1 H':= .of fun a o na q=>to.kp a o (fun ma=>by
  rw[u2] at ma
  rcases na with na|na
  ·exact na (.inl (k2 a ma).1)
  ·cases na) q
 have CI:af (G.S nb false) H' D v:=af.kp kpD hD
 have Ed:∀a,G.S (fun x=>nb x\/x∈c2.F) false a->G.S nb false a:=fun a y=>by
  rcases y with (y|y)|y|y|y
  ·exact .inl y
  ·rw[w2] at y;exact .inl (k2 a y).1
  ·exact .inr (.inl y)
  ·exact .inr (.inr (.inl y))
  ·cases y.1
 refine z _ _ false r H' d hp (W1.rJ (c':=c2) e (fun a o na q=>to.kp a o (by rw[u2];exact na) q) w1 (fun a m=> .inl (by rw[<-w2];exact m)) (fun a m=>?_) ?_) (hd.av fun a y=>?_)
 ·have m:a∈c.F:=m.elim id fun m=>by rw[<-w2];exact m
  exact to.lv a (by rw[w3];exact m)
 ·rw[w4]
  refine hb _ _ (c1.av (fun a y=>?_) wV) (CI.av Ed)
  rcases y with y|y
  ·exact .inl (by
    rcases Ed a y with y|y|y|y
    ·exact .inl y
    ·exact .inr (.inl y)
    ·exact .inr (.inr (.inl y))
    ·cases y.1)
  ·exact .inl (.inr (.inr (.inr ⟨rfl,y⟩)))
 ·have:=Ed a y
  exact .inl (by
   rcases this with y|y|y|y
   ·exact .inl y
   ·exact .inr (.inl y)
   ·exact .inr (.inr (.inl y))
   ·cases y.1)
end
theorem aq.ints{S S':Addr->Prop}{H:Hp}:∀{N:Ks} {ps:List (Key×V)},(∀q∈N,∃i,q.2= .int i)->aq S H (N.map aG) ps->aq S' H (N.map aG) ps
  |[],_,_,h=>by unfold aq at h⊢;exact h
  | q :: N, ps, hi, h => by
    rw[bL] at h⊢
    unfold aq at h⊢
    obtain⟨y,ys,e,h1,h2⟩:=h
    refine⟨y,ys,e,?_,aq.ints (fun q m=>hi q (bX _ m)) h2⟩
    obtain⟨i,ei⟩:=hi q cA
    obtain⟨k,d⟩:=q
    subst ei
    unfold aG c6 at h1⊢
    refine⟨h1.1,?_⟩
    have:=h1.2
    unfold af at this⊢
    exact this
theorem Vg(wd:Wo)(ts:List CT):∀q∈cW wd ts,∃i,q.2= .int i:=fun q m=>by
 obtain⟨t,_,rfl⟩:=c9.mp m
 exact⟨_,rfl⟩
theorem yN(wd:Wo):fL (wd.map bF)=true:=pN.mpr fun y m=>by
 obtain⟨o,_,rfl⟩:=c9.mp m
 cases o<;>rfl
section
variable{S R:Addr->Prop}{H:Hp}{C x dx ll lw a0 lc:Addr}{p:Int}{D:PyData}{bs:List Addr}{wd:Wo}{W:Ks}{rs:List (List Int)}{N:Ks}{v:V}
theorem T7(hN:∀q∈N,∃i,q.2= .int i)(h:(aA C x dx (dY p (.d D) ll lw a0 bs lc wd (gU R lw W) rs N)).P S H):∃v,af S H D v/\(aA C x dx (dY p (.cu (mZ v)) ll lw a0 bs lc wd (cD lw W) rs N)).P (fun a=>S a\/R a) H:=by
 obtain⟨nd,hd,hl,vs,hx,v1,uc,e1,h1,v2,uR,e2,h2,v3,tT,e3,h3,v4,sP,e4,h4,v5,uS,e5,h5,v6,uL,e6,h6,e7⟩:=h
 obtain⟨g3,xs,hxs,hds⟩:=h3
 obtain⟨g6,ps,hps,hks⟩:=h6
 refine⟨v2,h2,nd,hd,hl,vs,hx,v1,uc,e1,?_,v2,uR,e2,⟨rfl,trivial⟩,v3,tT,e3,⟨g3,xs,hxs,hds.jw (yN wd)⟩,v4,sP,e4,h4,v5,uS,e5,h5,v6,uL,e6,⟨g6,ps,hps,aq.ints hN hks⟩,e7⟩
 have:af S H (.int p) v1:=h1
 show af (fun a=>S a\/R a) H (.int p) v1
 unfold af at this⊢
 exact this
theorem OY(h:(aA C x dx (dY p (.cu (mZ v)) ll lw a0 bs lc wd (cD lw W) rs N)).P (fun a=>S a\/R a) H)(hD:af S H D v):(aA C x dx (dY p (.d D) ll lw a0 bs lc wd (gU R lw W) rs N)).P S H:=by
 obtain⟨nd,hd,hl,vs,hx,v1,uc,e1,h1,v2,uR,e2,h2,v3,tT,e3,h3,v4,sP,e4,h4,v5,uS,e5,h5,v6,uL,e6,h6,e7⟩:=h
 obtain⟨g3,xs,hxs,hds⟩:=h3
 obtain⟨g6,ps,hps,hks⟩:=h6
 have h2':v2=v:=h2.1
 subst h2'
 exact⟨nd,hd,hl,vs,hx,v1,uc,e1,(show af (fun a=>S a\/R a) H (.int p) v1 from h1).av fun _ z=> .inl z,v2,uR,e2,hD,v3,tT,e3,⟨g3,xs,hxs,hds.av fun _ z=> .inl z⟩,v4,sP,e4,h4,v5,uS,e5,h5,v6,uL,e6,⟨g6,ps,hps,hks.av fun _ z=> .inl z⟩,e7⟩
end
noncomputable def gE(p:Int)(wd:Wo)(a:Int)(t:CT):Option (Int×Int):=match ic p t.2.1 t.2.2 wd with
 |some ax=>if ax.1=a then some (t.1,ax.2) else none
 |none=>none
theorem abn(p:Int)(wd:Wo)(turn a:Int):∀ts,bZ (gv p wd turn ts) a=(ts.findSome? (gE p wd a)).map fun kx=> .tuple [.int kx.2,jz kx.1 turn]:=by
  refine snoc_ind rfl fun ts t ih=>?_
  rw[Bj,CO]
  unfold pP
  cases ht:ic p t.2.1 t.2.2 wd with
  | none =>
    have e:[t].findSome? (gE p wd a)=none:=by simp[gE,ht]
    dsimp only
    rw[e,ih]
    cases ts.findSome? (gE p wd a)<;>rfl
  | some ax =>
    obtain⟨b,x⟩:=ax
    dsimp only
    by_cases hh:cT (gv p wd turn ts) b=true
    · rw[if_pos hh,ih]
      by_cases c:b=a
      · subst c
        rw[<-mh,ih] at hh
        cases e:ts.findSome? (gE p wd b) with
        |none=>rw[e] at hh;cases hh
        |some u=>rfl
      · have e:[t].findSome? (gE p wd a)=none:=by simp[gE,ht,c]
        rw[e]
        cases ts.findSome? (gE p wd a)<;>rfl
    · rw[if_neg hh,DJ,ih]
      by_cases c:b=a
      · subst c
        rw[<-mh,ih] at hh
        cases e:ts.findSome? (gE p wd b) with
        |none=>simp[gE,ht]
        |some u=>rw[e] at hh;exact absurd rfl hh
      · have e:[t].findSome? (gE p wd a)=none:=by simp[gE,ht,c]
        rw[e]
        cases ts.findSome? (gE p wd a) with
        |none=>simp[cX c]
        |some u=>rfl
theorem Qk(p:Int)(es:aR)(wd:Wo)(a:Int):cN p es wd a=(aH es).findSome? (gE p wd a):=by
  unfold cN aH
  induction es with
  |nil=>rfl
  | cons q r ih =>
    obtain⟨k,d⟩:=q
    rw[pH,jI]
    cases d with
    |lt b c=>exact ih
    | ck prs x =>
      simp only[Ig,pH,gE]
      cases ht:ic p prs x wd with
      |none=>exact ih
      | some bx =>
        obtain⟨b,y⟩:=bx
        dsimp only
        by_cases c:b=a
        · rw[if_pos c]
        · rw[if_neg c];exact ih
theorem ZJ(p:Int)(wd:Wo)(a:Int)(ts:List CT):(fu wd ts).findSome? (gE p wd a)=ts.findSome? (gE p wd a):=by
  unfold fu
  induction ts with
  |nil=>rfl
  | cons t r ih =>
    rw[mS,pH]
    by_cases c:(bK wd t.2.1).length=1
    · rw[if_pos (by simpa using c),pH,ih]
    · have e:gE p wd a t=none:=by unfold gE;rw[Tu c]
      rw[if_neg (by simpa using c),ih,e]
theorem acQ(p:Int)(wd:Wo)(turn:Int):∀ts,((gv p wd turn ts).map (·.1)).Nodup:=by
 refine snoc_ind .nil fun ts t ih=>?_
 rw[Bj]
 unfold pP
 split
 ·split
  ·exact ih
  ·rename_i ax _ hh
   rw[fF,lT]
   exact⟨ih,by simp,fun x hx y hy z=>by
    rw[lg] at hh
    have:y=ax.1:=by simpa using hy
    rw[z,this] at hx
    exact hh hx⟩
 ·exact ih
theorem DA(p:Int)(wd:Wo)(turn:Int)(es:aR):qg (gv p wd turn (fu wd (aH es))) fun a=>(cN p es wd a).map fun kx=>(kx.2,jz kx.1 turn):=⟨acQ _ _ _ _,fun a=>by
 rw[abn,ZJ,Qk,GI];rfl⟩
theorem aS.rA(h:aS p n many es)(hp:0<p){wd:Wo}{a:Int}{kx:Int×Int}(e:cN p es wd a=some kx):0<=a/\a<n/\wd[a.toNat]?=some none/\0<=kx.2/\kx.2<p:=by
  rw[Qk] at e
  obtain⟨t,ht,e⟩:=List.exists_of_findSome?_eq_some e
  unfold gE at e
  cases h2:ic p t.2.1 t.2.2 wd with
  |none=>rw[h2] at e;cases e
  | some bx =>
    obtain⟨b,y⟩:=bx
    rw[h2] at e
    dsimp only at e
    split at e
    · rename_i c
      cases e
      subst c
      obtain⟨pr,m,rfl,g1,g2,g3⟩:=SQ hp h2
      obtain⟨q0,q1,_⟩:=(h.uX ht).1.2.2 pr m
      exact⟨q0,q1,g1,g2,g3⟩
    · cases e
theorem aS.Co(h:aS p n many es){a:Int}{kx:Int×Int}(e:dB es a=some kx):0<=a/\a<n/\0<=kx.2/\kx.2<p:=by
 rw[LK] at e
 obtain⟨t,ht,rfl⟩:=jo.mp e
 have hm:=List.mem_of_find?_eq_some ht
 have ha:t.2.1=a:=by simpa using List.find?_some ht
 have:=h.ok _ (K1 hm)
 obtain⟨g0,g1,g2,g3⟩:=this
 exact⟨by rw[<-ha];exact g0,by rw[<-ha];exact g1,g2,g3⟩
theorem qg.key{F:Ks}{g:Int->Option (Int×PyData)}(h:qg F g)(a:Int):a∈F.map (·.1)↔(g a).isSome=true:=by
 rw[<-lg,<-mh,h.val a,Bh]
theorem Qn{wd:Wo}{F:Ks}{g:Int->Option (Int×PyData)}(h:qg F g){i:Nat}(hi:i<wd.length):(fV wd g (F.map (·.1)))[i]?=some (match g i with|some xw=>some xw.1|none=>wd.getD i none):=by
 rw[zK hi]
 cases e:g i with
 |none=>rw[if_neg (by rw[h.key,e];decide)]
 |some xw=>rw[if_pos (by rw[h.key,e];rfl)];rfl
theorem Pb{W F:Ks}{g:Int->Option (Int×PyData)}(h:qg F g)(a:Int):bZ (eS W g (F.map (·.1))) a=match g a with|some xw=>some xw.2|none=>bZ W a:=by
 rw[aa3]
 cases e:g a with
 |none=>rw[if_neg (by rw[h.key,e];decide)]
 |some xw=>rw[if_pos (by rw[h.key,e];rfl)]
theorem Yw(h0:0<=n)(h:aS p n many es):fV (List.replicate n.toNat none) (fun a=>(dB es a).map fun x=>(x.2,jC x.1)) ((gP (fJ es)).map (·.1))=(er n es).wd/\∀a,bZ (eS [] (fun a=>(dB es a).map fun x=>(x.2,jC x.1)) ((gP (fJ es)).map (·.1))) a=(er n es).wh a:=by
  refine⟨?_,fun a=>?_⟩
  · apply ja
    intro i
    show _=((List.range n.toNat).map fun(i:Nat)=>(dB es i).map (·.2))[i]?
    rw[bI]
    by_cases c:i<n.toNat
    · rw[Qn (wm es) (by rw[rj];exact c),j4 c]
      cases e:dB es i with
      |none=>simp[lU,c,e]
      |some x=>simp[e]
    · rw[fN (by rw[qW,rj];omega),fN (by rw[ig];omega)];rfl
  · rw[Pb (wm es)]
    show _=if 0<=a/\a<n then(dB es a).map fun x=>jC x.1 else none
    cases e:dB es a with
    |none=>simp[bZ]
    | some x =>
      obtain⟨g0,g1,_⟩:=h.Co e
      rw[if_pos ⟨g0,g1⟩];rfl
theorem UC(hp:0<p)(h:aS p n many es)(t:Int)(c:Pc){W:Ks}(hW:∀a,bZ W a=c.wh a)(hl:c.wd.length=n.toNat)(hk:∀a w,c.wh a=some w->0<=a/\∃x,c.wd[a.toNat]?=some (some x)):
    fV c.wd (fun a=>(cN p es c.wd a).map fun kx=>(kx.2,jz kx.1 t)) ((gv p c.wd t (fu c.wd (aH es))).map (·.1))=(cV p es t c).wd/\∀a,bZ (eS W (fun a=>(cN p es c.wd a).map fun kx=>(kx.2,jz kx.1 t)) ((gv p c.wd t (fu c.wd (aH es))).map (·.1))) a=(cV p es t c).wh a:=by
  refine⟨?_,fun a=>?_⟩
  · apply ja
    intro i
    show _=((List.range c.wd.length).map fun(i:Nat)=>match c.wd[i]? with|some (some x)=>some x|_=>(cN p es c.wd i).map (fun(x:Int×Int)=>x.2))[i]?
    rw[bI]
    by_cases ci:i<c.wd.length
    · rw[Qn (DA p c.wd t es) ci,j4 ci]
      cases e:cN p es c.wd i with
      | none =>
        simp only[e,Option.map_none,sV,lU]
        cases e2:c.wd[i]? with
        |none=>rfl
        |some o=>cases o<;>rfl
      | some kx =>
        have:=(h.rA hp e).2.2.1
        rw[wZ] at this
        simp only[e,this,sV]
    · rw[fN (by rw[qW];omega),fN (by rw[ig];omega)];rfl
  · rw[Pb (DA p c.wd t es)]
    show _=(match c.wh a with|some w=>some w|none=>if 0<=a/\a<c.wd.length then(cN p es c.wd a).map fun(x:Int×Int)=>jz x.1 t else none)
    cases e:cN p es c.wd a with
    | none =>
      simp only[Option.map_none]
      rw[hW]
      cases c.wh a with
      |none=>simp
      |some w=>rfl
    | some kx =>
      obtain⟨g0,g1,g2,_⟩:=h.rA hp e
      have hn:c.wh a=none:=by
        cases e2:c.wh a with
        |none=>rfl
        |some w=>obtain⟨_,x,e3⟩:=hk a w e2;rw[g2] at e3;cases e3
      rw[hn]
      simp only[sV]
      rw[if_pos ⟨g0,by omega⟩]
theorem sA(p:Int)(es:aR)(t:Int)(c:Pc):(cV p es t c).wd.length=c.wd.length:=by
 show((List.range c.wd.length).map _).length=_
 rw[ao,ig]
theorem nR(p:Int)(es:aR)(t:Int)(c:Pc){i:Nat}(hi:i<c.wd.length):(cV p es t c).wd[i]?=some (match c.wd[i]? with|some (some x)=>some x|_=>(cN p es c.wd i).map (fun(x:Int×Int)=>x.2)):=by
 show((List.range c.wd.length).map _)[i]?=_
 rw[bI,j4 hi];rfl
theorem nZ(hp:0<p)(h:aS p n many es):∀t:Nat,(bJ p n es t).wd.length=n.toNat/\(∀a w,(bJ p n es t).wh a=some w->0<=a/\∃x,(bJ p n es t).wd[a.toNat]?=some (some x))/\∀x,some x∈(bJ p n es t).wd->0<=x/\x<p
  | 0 => by
    have hw:∀i:Nat,i<n.toNat->(er n es).wd[i]?=some ((dB es i).map (·.2)):=fun i hi=>by
      show((List.range n.toNat).map _)[i]?=_
      rw[bI,j4 hi];rfl
    have hl:(er n es).wd.length=n.toNat:=by show((List.range n.toNat).map _).length=_;rw[ao,ig]
    refine⟨hl,fun a w e=>?_,fun x m=>?_⟩
    · have e:(if 0<=a/\a<n then(dB es a).map fun x=>jC x.1 else none)=some w:=e
      split at e
      · rename_i c
        obtain⟨kx,e2,_⟩:=jo.mp e
        refine⟨c.1,kx.2,?_⟩
        show(er n es).wd[a.toNat]?=_
        rw[hw _ (by omega),show((a.toNat:Nat):Int)=a by omega,e2];rfl
      · cases e
    · obtain⟨i,hi⟩:=qd m
      have hi:(er n es).wd[i]?=some (some x):=hi
      have hil:i<n.toNat:=by rw[<-hl];exact(bT.mp hi).1
      rw[hw i hil] at hi
      obtain⟨kx,e2,rfl⟩:=jo.mp (gf hi)
      exact(h.Co e2).2.2
  | t + 1 => by
    obtain⟨i1,i2,i3⟩:=nZ hp h t
    generalize hc:bJ p n es t=c at i1 i2 i3
    have e0:bJ p n es (t+1)=cV p es ((t:Int)+1) c:=by rw[<-hc];rfl
    rw[e0]
    have keep:∀{i:Nat} {x:Int},c.wd[i]?=some (some x)->(cV p es ((t:Int)+1) c).wd[i]?=some (some x):=fun{i x} e=>by
      rw[nR _ _ _ _ (bT.mp e).1,e]
    refine⟨by rw[sA];exact i1,fun a w e=>?_,fun x m=>?_⟩
    · have e:(match c.wh a with|some w=>some w|none=>if 0<=a/\a<c.wd.length then(cN p es c.wd a).map fun(x:Int×Int)=>jz x.1 ((t:Int)+1) else none)=some w:=e
      cases e2:c.wh a with
      | some w' =>
        obtain⟨g0,x,g1⟩:=i2 a w' e2
        exact⟨g0,x,keep g1⟩
      | none =>
        rw[e2] at e
        dsimp only at e
        split at e
        · rename_i hc
          obtain⟨kx,e3,_⟩:=jo.mp e
          obtain⟨g0,g1,g2,_⟩:=h.rA hp e3
          refine⟨g0,kx.2,?_⟩
          rw[nR _ _ _ _ (by omega),g2,show((a.toNat:Nat):Int)=a by omega,e3];rfl
        · cases e
    · obtain⟨i,hi⟩:=qd m
      have hil:i<c.wd.length:=by rw[<-sA p es ((t:Int)+1) c];exact(bT.mp hi).1
      rw[nR _ _ _ _ hil] at hi
      have hi:=gf hi
      split at hi
      · rename_i y e
        cases hi
        exact i3 _ (dg e)
      · obtain⟨kx,e3,rfl⟩:=jo.mp hi
        exact(h.rA hp e3).2.2.2
theorem acX{c:Pc}(hf:∀a,cN p es c.wd a=none)(t:Int):cV p es t c=c:=by
  obtain⟨wd,wh⟩:=c
  show Pc.mk _ _=Pc.mk _ _
  congr 1
  · apply ja
    intro i
    rw[bI]
    by_cases ci:i<wd.length
    · rw[j4 ci,bP ci]
      have:=hf i
      dsimp only at this
      cases e:wd[i] with
      | none =>
        have e':wd[i]?=some none:=by rw[bP ci,e]
        simp[e',this]
      | some x =>
        have e':wd[i]?=some (some x):=by rw[bP ci,e]
        simp[e']
    · rw[fN (show(List.range wd.length).length<=i by rw[ig];omega),fN (show wd.length<=i by omega)];rfl
  · funext a
    have:=hf a
    dsimp only at this⊢
    rw[this]
    cases wh a<;>simp
theorem yt{t:Nat}(hf:∀a,cN p es (bJ p n es t).wd a=none):∀k:Nat,bJ p n es (t+k)=bJ p n es t
  |0=>rfl
  | k + 1 => by
    show cV p es _ (bJ p n es (t+k))=_
    rw[yt hf k,acX hf]
theorem WC{W:Ks}{c:Pc}(hn:(W.map (·.1)).Nodup)(hW:∀a,bZ W a=c.wh a)(hk:∀a w,c.wh a=some w->0<=a/\∃x,c.wd[a.toNat]?=some (some x)):W.length<=c.wd.length:=by
 have:=C6 (l₂:=(List.range c.wd.length).map fun(i:Nat)=>(i:Int)) hn fun k hkm=>by
  have h1:=lg.mpr hkm
  rw[<-mh,hW] at h1
  obtain⟨w,hw⟩:=pS.mp h1
  obtain⟨g0,x,g1⟩:=hk k w hw
  exact c9.mpr ⟨k.toNat,qC.mpr (bT.mp g1).1,by omega⟩
 rw[ao,ao,ig] at this
 exact this
theorem J4{W:Ks}{g:Int->Option (Int×PyData)}(hW:(W.map (·.1)).Nodup):∀ks:List Int,ks.Nodup->(∀a∈ks,(g a).isSome=true/\cT W a≠true)->((eS W g ks).map (·.1)).Nodup/\(eS W g ks).length=W.length+ks.length/\∀b,cT (eS W g ks) b=true->b∈ks\/cT W b=true:=by
 refine snoc_ind (fun _ _=>⟨hW,rfl,fun b hb=> .inr hb⟩) fun ks a ih hn hg=>?_
 rw[lT] at hn
 obtain⟨i1,i2,i3⟩:=ih hn.1 fun b m=>hg b (Bp _ m)
 obtain⟨g1,g2⟩:=hg a (jH _ (aK.mpr rfl))
 obtain⟨⟨x,w⟩,e⟩:=pS.mp g1
 have hno:cT (eS W g ks) a≠true:=fun z=>(i3 a z).elim (fun m=>hn.2.2 a m a (aK.mpr rfl) rfl) g2
 rw[A6 e,wg hno]
 refine⟨?_,by rw[dW,dW,i2];simp;omega,fun b hb=>?_⟩
 ·rw[fF,lT]
  exact⟨i1,by simp,fun y hy z hz q=>by
   have:z=a:=by simpa using hz
   rw[q,this] at hy
   exact hno (lg.mpr hy)⟩
 ·rw[lg,fF,ir] at hb
  rcases hb with hb|hb
  ·exact(i3 b (lg.mpr hb)).imp (Bp _) id
  ·have:b=a:=by simpa using hb
   rw[this];exact .inl (jH _ (aK.mpr rfl))
theorem Sv.YN{G:Gx}{ρ:Rh}{i:Nat}{E:DE}{C x dx ll lw a0 lc:Addr}{K:PySem.W.Frag}{p:Int}{cd:Fl}{bs:List Addr}{wd:Wo}{W:Ks}{rs:List (List Int)}{N:Ks}(e:ρ[i]?=some (.cu (aA C x dx (dY p cd ll lw a0 bs lc wd (gU (fun a=>G.H0 a≠none) lw W) rs N))))(cl:cg K C)(RJ:aT K C "letters")(Wn:aT K C "whys")
  (h:E.rt true (.tuple [dN wd, .dict (W.map aG)])):Sv G ρ (mW (uI (aX (iZ K (bf i) "letters") (aX (iZ K (bf i) "whys") bE)))) E:=fun nb σ H D nF KK=>by
 obtain⟨vs,e1,h2,n,h3,len,q,r⟩:=nF.jB e
 have hml:ll∈bH x dx (dY p cd ll lw a0 bs lc wd (gU (fun a=>G.H0 a≠none) lw W) rs N):=oY (f:="letters") (fl:= .cu (kC ll (wd.map bF))) rfl (aK.mpr rfl)
 have R5:lw∈bH x dx (dY p cd ll lw a0 bs lc wd (gU (fun a=>G.H0 a≠none) lw W) rs N):=oY (f:="whys") (fl:= .cu (gU (fun a=>G.H0 a≠none) lw W)) rfl (aK.mpr rfl)
 obtain⟨v3,g3,k3,xs,hxs,hds⟩:=r.get (f:="letters") (fl:= .cu (kC ll (wd.map bF))) rfl
 obtain⟨v4,g4,k4,ps,hps,hks⟩:=r.get (f:="whys") (fl:= .cu (gU (fun a=>G.H0 a≠none) lw W)) rfl
 have hno:∀a,G.H0 a=none->NB G.B a->¬G.S (fun _=>False) true a:=fun a h0 hN z=>by
  rcases z with z|z|z|z
  ·exact z
  ·exact nF.gA a z h0
  ·exact z hN
  ·exact z.2 h0
 have own:∀a∈bH x dx (dY p cd ll lw a0 bs lc wd (gU (fun a=>G.H0 a≠none) lw W) rs N),¬G.S (fun _=>False) true a:=fun a m=>hno a (nF.cY a (h2 a m).1 (h2 a m).2) (h2 a m).2
 refine⟨.ref x,e1,x,C,dx,vs,v3,rfl,q,cl,RJ,g3, .ref x,e1,x,C,dx,vs,v4,rfl,q,cl,Wn,g4,by show 2<=sizeLine;decide,fun T hT=>?_⟩
 have k3:v3= .ref ll:=k3
 have k4:v4= .ref lw:=k4
 subst k3 k4
 have YM:G.H0 T=none:=by
  cases z:G.H0 T with
  |none=>rfl
  |some o=>have:=nF.old T o (NB.new nF.au hT) z;rw[hT] at this;cases this
 have WY:ah (G.S (fun _=>False) true) H (wd.map bF) xs:=hds.jw (yN wd)
 have abF:aq (G.S (fun _=>False) true) H (W.map aG) ps:=hks.av fun a z=>by
  rcases z with z|z|z|z
  ·exact z.elim
  ·exact .inl (.inr (.inl z))
  ·exact .inl (.inr (.inr (.inl z)))
  ·exact .inr z.2
 have hL:af (G.S (fun _=>False) true) H (.list (wd.map bF)) (.ref ll):=by unfold af;exact⟨ll,xs,rfl,own ll hml,hxs,WY⟩
 have hK:af (G.S (fun _=>False) true) H (.dict (W.map aG)) (.ref lw):=by unfold af;exact⟨lw,ps,rfl,own lw R5, .inl hps,abF⟩
 have sn:cS H (upd H T (.tup [.ref ll, .ref lw])):=dD hT
 exact KK.rt nb ρ σ true _ _ _ h (nF.step (.same nF.au sn)) (.tup (hno T YM (NB.new nF.au hT)) aQ (.cons (hL.keep (aZ.of sn)) (.cons (hK.keep (aZ.of sn)) .nil)))
end L2
set_option maxRecDepth 100000
set_option maxHeartbeats 4000000
namespace L2
open PySem PySem.Spec PyProof.Rows
def uh(p n:Int):Prop:=gp p/\p<10^40/\0<=n/\n<=4000
def jQ(G:Gx)(ρ:Rh)(te:TE)(Φ:Rh->Bool->List PyData->Prop):Prop:=∀nb σ H (Q:VK),Wd G nb ρ σ H->
 (∀aC ρ' f a xs H1 H' ds,Φ ρ' f ds->Wd G aC ρ' σ H1->Step G.B H1 H'->H1 a=none->H' a=some (.lst xs)->ah (fun x=>G.S aC f x\/x=a) H' ds xs->Q (.ref a) H')->te σ H Q
section
variable{G:Gx}{ρ:Rh}{Φ:Rh->Pd}{ta tb te:TE}{t:TA}{K:PySem.W.Frag}{i:Nat}{E:DE}{Θ:Rh->Bool->List PyData->Prop}
theorem jQ.ev(h:jQ G ρ te fun ρ' f ds=>Φ ρ' f (.list ds)):bW G ρ te Φ:=fun nb σ H Q W z=>
 h nb σ H Q W fun aC ρ' f a xs H1 H' ds p W1 st n e hd=>z aC ρ' f _ H' _ p (W1.step st) (.lst (W1.fresh n) e (hd.av fun _ x=> .inl x))
theorem Sv.Y7(h:jQ G ρ te fun ρ' f ds=>∀a,E.nx (ρ'.set i (.own a f ds))):Sv G ρ (fZ te (iK i)) E:=fun nb σ H D W K=>
 h nb σ H _ W fun aC ρ' f a xs H1 H' ds q W1 st n e hd=>K.nx _ _ _ H' (q a) (Sv.Nq W1 st n e hd)
theorem bW.lC(h:bW G ρ ta fun ρ' f x=>∃ds,x= .tuple ds/\Ev G ρ' tb fun _ y=>∃k,y= .int k/\∃e,cO ds k=some e/\Φ ρ' f e):bW G ρ (cP (bU K) ta tb) Φ:=fun nb σ H Q W z=>
 h nb σ H _ W fun aC ρ' f u H1 x ⟨ds,ex,q⟩ W1 hu=>q aC σ H1 _ W1 fun g v H2 y ⟨k,ey,e,he,p⟩ s2 hv=>by
  subst ex ey
  obtain⟨a,xs,rfl,n,hx,hd⟩:=(hu.keep s2.dz).ofT
  obtain⟨w,hw,hD⟩:=hd.cO he
  exact⟨a,xs,k,w,rfl,hv.bD, .of hx,hw,z aC ρ' f _ H2 _ p (W1.step s2) hD⟩
theorem jQ.listOf(h:bW G ρ te fun ρ' f x=>∃ds,(x= .list ds\/x= .tuple ds)/\Θ ρ' (f||fL ds) ds):jQ G ρ (fc (l8 K) (aX te bE)) Θ:=fun nb σ H Q W z=>
 h nb σ H _ W fun aC ρ' f v H1 d ⟨ds,e,q⟩ W1 hv=>by
  have fin:∀{f a xs H' ds},Θ ρ' f ds->Step G.B H1 H'->H1 a=none->H' a=some (.lst xs)->ah (fun x=>G.S aC f x\/x=a) H' ds xs->Q (.ref a) H':=fun p st n e hd=>z aC ρ' _ _ _ H1 _ _ p W1 st n e hd
  rcases e with e|e
  ·subst e
   obtain⟨a,xs,rfl,n,hx,hd⟩:=hv.gy
   exact⟨a,xs,rfl, .inl (.of hx),fun p hp=>aE.fin W1 (.refl W1.au) hp hd q fun f a xs H' ds=>fin⟩
  ·subst e
   obtain⟨a,xs,rfl,n,hx,hd⟩:=hv.ofT
   exact⟨a,xs,rfl, .inr (.of hx),fun p hp=>aE.fin W1 (.refl W1.au) hp hd q fun f a xs H' ds=>fin⟩
theorem Ev.X7{ng:Bool}{Φ:Pd}(h:Ev G ρ ta fun _ x=>∃o:Option Int,x=bF o/\Ev G ρ tb fun _ y=>∃wd:Wo,y=PyData.tuple (wd.map bF)/\Φ true (.bool (decide (o∈wd) !=ng))):Ev G ρ (cP (zl K ng) ta tb) Φ:=fun nb σ H Q W z=>
  h nb σ H _ W fun f v H1 d ⟨o,e,q⟩ s1 hv=>q nb σ H1 _ (W.step s1) fun g u H2 d2 ⟨wd,e2,p⟩ s2 hu=>by
    subst e e2
    have hk:v=kF o:=by
      cases o with
      |none=>unfold bF af at hv;exact hv
      |some x=>exact hv.bD
    subst hk
    obtain⟨a,xs,rfl,na,hx,hd⟩:=hu.ofT
    have ex:=Ek hd
    subst ex
    refine⟨a,wd.map kF,rfl, .inr (.of hx),by cases o<;>rfl,?_,?_⟩
    · rw[pN]
      intro x hx
      obtain⟨o',_,rfl⟩:=c9.mp hx
      cases o'<;>rfl
    · have e:l9 (kF o) (wd.map kF)=decide (o∈wd):=by
        unfold l9
        rw[List.any_map,m7,pO,decide_eq_true_eq]
        constructor
        · rintro⟨o',m,h⟩
          have:o'=o:=by
            cases o' with
            | none => cases o with
              |none=>rfl
              |some x=>cases h
            | some y => cases o with
              |none=>cases h
              |some x=>exact congrArg some (eq_of_beq h)
          exact this▸m
        · intro m
          refine⟨o,m,?_⟩
          cases o with
          |none=>rfl
          |some x=>exact beq_self_eq_true x
      have e2:(if ng=true then !l9 (kF o) (wd.map kF) else l9 (kF o) (wd.map kF))=(decide (o∈wd) !=ng):=by
        rw[e]
        cases ng<;>simp
      rw[e2]
      exact z true _ H2 _ p (s1.trans s2) (.bl _)
def fQ(p:Int)(wd:Wo):cQ->Bool
 | .lt a b=>decide (wd[a.toNat]?=some (some b))
 | .ck prs r=>decide (rX p prs wd∈[none,some r])
theorem jQ.W7{F:CF}{c:Cu}{C:Addr}{m:Str}{ns:List Int}{t0:TE}{J:Nat->Cu->List Int->Prop}(hm:iV F)(e:ρ[i]?=some (.cu c))(hcf:c.f=false)(hl:ns.length<=4000)
    (hi:∀k c' r,J k c' r->∀S H,c'.P S H->∃a dx fs,c'.v= .ref a/\H a=some (.ins C dx fs)/\fs.lookup m=none)
    (h:yE G ρ t0 fun d=>d=rL ns) (h0:J 0 c []) (ht:∀(k:Nat) c' r x,ns[k]?=some x->J k c' r->F c' [.int x] fun c'' _ d=>∃b:Bool,d= .bool b/\J (k+1) c'' (if b=true then r else r++[x]))
    (he:∀c' r,J ns.length c' r->Θ (ρ.set i (.cu c')) true (r.map .int)):jQ G ρ (kY (qf K t0) (iK 0) (xY (Bd K (kP C m (cB 2 F) [] E0 (bf 1) (aX (bf 0) bE)))) (bf 0) [none,some i]) Θ:=fun nb σ H Q W z=>by
  refine h nb σ H _ W fun v H1 d ed st hv=>?_
  subst ed
  obtain⟨a0,xs,rfl,n0,hx,hds⟩:=hv.gy
  have exs:xs=ns.map .int:=qh hds
  subst exs
  have W1:=W.step st
  obtain⟨x0,e1,c1,c2,c3⟩:=W1.ok i _ e
  subst c1
  rw[hcf] at c3
  refine⟨a0,rfl,⟨_, .of hx⟩,fun acc hacc=>?_⟩
  have hcl:∀a∈c.F,H1 a≠none:=fun a m=>W1.live a (c2 a m).1
  have hne:∀a o,H1 a=some o->a≠acc:=fun a o q z=>by rw[z,hacc] at q;cases q
  refine R.DW (xs:=ns.map .int) (fun k σ' H'=>∃c' r,J k c' r/\σ'.length=2/\σ'[1]?=some (some c.v)/\c'.v=c.v/\c'.f=false/\(∀a∈c.F,a∈c'.F)/\(∀a∈c'.F,a∈c.F\/(H1 a=none/\a≠acc))/\(∀a o,a∉c.F->H1 a=some o->H' a=some o)/\H' acc=some (.lst (r.map .int))/\(∀a∈c'.F,H' a≠none)/\c'.P (fun a=>G.S nb false a\/a=acc\/a∈c'.F) H'/\r.length<=k) ?_ ?_ ?_ ?_
  · refine⟨c,[],h0,rfl,?_,rfl,hcf,fun _ m=>m,fun _ m=> .inl m,fun a o _ q=>?_,aQ,fun a m=>?_,?_,aU _⟩
    · show some (match σ[i]? with|some v=>v|none=>none)=_
      rw[e1]
    · rw[aB (hne a o q)];exact q
    · cases q:H1 a with
      |none=>exact absurd q (hcl a m)
      |some o=>rw[aB (hne a o q),q];exact eO _
    · have h3:=c.keep (S:=fun a=>G.S nb false a\/a=acc) (.of fun a o _ q=>by rw[aB (hne a o q)];exact q) (H':=upd H1 acc (.lst [])) (c.fresh hacc c3)
      refine c.av (fun a q=>?_) h3
      rcases q with q|q|q
      · exact .inl q
      · exact .inr q
      · exact .inl (.inl (c2 a q).1)
  · rintro k σ' H' hk ⟨c',r,hJ,q1,q2,q3,q4,q5,q6,q7,q8,q9,q10,q11⟩
    by_cases ha0:a0∈c.F
    · exact absurd ((c2 a0 ha0).1) (fun z=>n0 (W.live a0 (by
        obtain⟨_,_,_,d2,_⟩:=W.ok i _ e
        exact(d2 a0 ha0).1)))
    · exact .of (q7 _ _ ha0 hx)
  · rintro k x σ' H' hk ⟨c',r,hJ,q1,q2,q3,q4,q5,q6,q7,q8,q9,q10,q11⟩
    obtain⟨y,hy,rfl⟩:=gJ hk
    have hy':k<ns.length:=(bT.mp hy).1
    have zX:acc∉c'.F:=fun z=>by
      rcases q6 acc z with w|w
      · exact hcl acc w hacc
      · exact w.2 rfl
    have s0:(σ'.set 0 (some (V.int y)))[0]?=some (some (.int y)):=cU (by omega)
    have s1:(σ'.set 0 (some (V.int y)))[1]?=some (some c.v):=by rw[bO (by decide)];exact q2
    obtain⟨ax,dx,fs,g1,g2,g3⟩:=hi k c' r hJ _ _ q10
    refine⟨c.v,s1,ax,dx,fs,by rw[<-q3];exact g1,g2,g3,⟨.int y,s0,?_⟩⟩
    have iR:∀a,(G.S nb false a\/a=acc\/a∈c'.F)->H' a≠none:=fun a q=>by
      rcases q with q|q|q
      · by_cases hF:a∈c.F
        · exact q9 a (q5 a hF)
        · cases w:H1 a with
          |none=>exact absurd w (W1.iR a q)
          |some o=>rw[q7 a o hF w];exact eO _
      · rw[q,q8];exact eO _
      · exact q9 a q
    refine⟨rfl,fun a=>G.S nb false a\/a=acc\/a∈c'.F,c',[.int y],[.int y],by rw[q3];rfl,iR,fun a m=> .inr (.inr m),q4,q10, .cons (.int y) .nil,hm _ _ _ _ (ht k c' r y hy hJ) fun c'' f d hb v BJ to hP hd=>?_⟩
    obtain⟨b,rfl,hJ'⟩:=hb
    have ev:v= .bl b:=by unfold af at hd;exact hd
    subst ev
    have hnew:∀a∈c''.F,a∈c.F\/(H1 a=none/\a≠acc):=fun a m=>by
      rcases to.new a m with w|w
      · exact q6 a w
      · by_cases hF:a∈c.F
        · exact .inl hF
        · refine .inr ⟨?_,fun z=>by rw[z,q8] at w;cases w⟩
          cases u:H1 a with
          |none=>rfl
          |some o=>rw[q7 a o hF u] at w;cases w
    have hfr:∀a o,a∉c.F->H1 a=some o->BJ a=some o:=fun a o hF w=>by
      refine to.kp a o (fun m=>?_) (q7 a o hF w)
      rcases q6 a m with u|u
      · exact hF u
      · rw[u.1] at w;cases w
    have hac:BJ acc=some (.lst (r.map .int)):=to.kp acc _ zX q8
    have wV:c''.P (fun a=>G.S nb false a\/a=acc\/a∈c''.F) BJ:=c''.av (fun a q=>by
      rcases q with q|q|q
      · exact .inl (.inl q)
      · exact .inl (.inr (.inl q))
      · exact .inr q) hP
    have OA:acc∉c''.F:=fun z=>by
      rcases hnew acc z with w|w
      · exact hcl acc w hacc
      · exact w.2 rfl
    refine⟨b,rfl,?_⟩
    cases b with
    | true =>
      rw[if_pos rfl] at hJ'
      show if(!true)=true then _ else _
      rw[if_neg (by decide)]
      exact⟨c'',r,hJ',by rw[jg];exact q1,s1,by rw[to.v,q3],to.f,fun a m=>to.sub a (q5 a m),hnew,hfr,hac,to.lv,wV,by omega⟩
    | false =>
      rw[if_neg bV] at hJ'
      show if(!false)=true then _ else _
      rw[if_pos (by decide)]
      refine⟨.int y,s0,_,hac,oq (by rw[ao];omega:(r.map V.int).length<=4000) (by decide),?_⟩
      refine⟨c'',r++[y],hJ',by rw[jg];exact q1,s1,by rw[to.v,q3],to.f,fun a m=>to.sub a (q5 a m),hnew,fun a o hF w=>?_,by rw[aQ,fF];rfl,fun a m=>?_,?_,by rw[dW,kT];omega⟩
      · rw[aB (hne a o w)];exact hfr a o hF w
      · rw[aB (fun z=>OA (by rw[<-z];exact m))];exact to.lv a m
      · refine c''.keep (.of fun a o q w=>?_) wV
        rw[aB]
        · exact w
        · rintro rfl
          rcases q with q|q
          · exact q (.inr (.inl rfl))
          · exact OA q
  · rintro σ' H' ⟨c',r,hJ,q1,q2,q3,q4,q5,q6,q7,q8,q9,q10,q11⟩
    rw[ao] at hJ
    have zX:acc∉c'.F:=fun z=>by
      rcases q6 acc z with w|w
      · exact hcl acc w hacc
      · exact w.2 rfl
    obtain⟨Hm,t6⟩:∃Hm:Hp,Hm=fun x=>if x=acc then none else H' x:=⟨_,rfl⟩
    have hm0:Hm acc=none:=by rw[t6];exact if_pos rfl
    have hm1:∀a,a≠acc->Hm a=H' a:=fun a n=>by rw[t6];exact if_neg n
    have W2:=W1.rJ (c':=c') (H':=Hm) e (fun a o hF w=>by rw[hm1 a (hne a o w)];exact q7 a o hF w) q3 (fun a m=>(q6 a m).imp id fun w=> .inl w.1) (fun a m=>?_) ?_
    · have hsm:cS Hm H':=fun a o w=>by
        by_cases hz:a=acc
        · rw[hz,hm0] at w;cases w
        · rw[hm1 a hz] at w;exact w
      refine z _ _ true acc (r.map .int) Hm H' (r.map .int) (he c' r hJ) W2 (.same W2.au hsm) hm0 q8 ?_
      clear q8 q11 he hJ
      induction r with
      |nil=>exact .nil
      |cons y r ih=>exact .cons (.int y) ih
    · have hz:a≠acc:=by
        rintro rfl
        rcases m with m|m
        · exact hcl _ m hacc
        · exact zX m
      rw[hm1 a hz]
      rcases m with m|m
      · exact q9 a (q5 a m)
      · exact q9 a m
    · rw[q4]
      refine c'.av (fun a q=>?_) (c'.keep (S:=fun a=>G.S nb false a\/a=acc\/a∈c'.F) (H:=H') (H':=Hm) (.of fun a o q w=>?_) q10)
      · rcases q with (q|q)|q|q|q
        · exact .inl (.inl q)
        · exact .inr (.inr q)
        · exact .inl (.inr (.inl q))
        · exact .inl (.inr (.inr (.inl q)))
        · cases q.1
      · rw[hm1 a ?_]
        · exact w
        · rintro rfl
          rcases q with q|q
          · exact q (.inr (.inl rfl))
          · exact zX q
end
end L2
set_option maxRecDepth 100000
set_option maxHeartbeats 4000000
namespace L2
open PySem PySem.Spec PyProof.Rows
theorem Ld:∀xs ys:Wo,PyData.eqvAll (xs.map bF) (ys.map bF)=decide (xs=ys)
  |[],[]=>by simp[PyData.eqvAll]
  |[],y::ys=>by simp[PyData.eqvAll]
  |x::xs,[]=>by simp[PyData.eqvAll]
  | x :: xs, y :: ys => by
    simp only[bL,PyData.eqvAll,Ld xs ys]
    have:PyData.eqv (bF x) (bF y)=decide (x=y):=by
      cases x<;>cases y<;>rw[m7]<;>simp[bF,PyData.eqv]
    rw[this,m7]
    simp
theorem Z7(xs ys:Wo):PyData.eqv (dN xs) (dN ys)=decide (xs=ys):=by
 unfold dN
 simp only[PyData.eqv]
 exact Ld xs ys
theorem O4(xs:Wo):SeqAt.shaped (dN xs)=true:=by
 have h:=NJ xs
 unfold dN SeqAt.shaped
 simp[PyData.canLay0,PyData.depth,h.1,h.2]
def jZ:cQ->PyData
 | .lt a b=> .tuple [.str "letter", .int a, .int b]
 | .ck prs r=> .tuple [.str "check",fE prs, .int r]
def bR(q:Int×cQ):PyData:= .tuple [.int q.1,jZ q.2]
def eZ(n:Int)(c:Pc):List PyData:=(List.range n.toNat).map fun(a:Nat)=>wQ (c.wh a)
theorem Oq(n:Int)(c:Pc):(eZ n c).length=n.toNat:=by unfold eZ;rw[ao,ig]
theorem z7{α:Type}(f g:Nat->α)(N a:Nat)(v:α)(h:∀i,i<N->g i=if i=a then v else f i):(List.range N).map g=((List.range N).map f).set a v:=by
 apply ja
 intro i
 rw[bI,List.getElem?_set,ao,ig,bI]
 by_cases c:i<N
 ·rw[j4 c]
  show some (g i)=_
  rw[h i c]
  by_cases c2:a=i
  ·rw[if_pos c2,if_pos c2.symm,if_pos (by omega)]
  ·rw[if_neg c2,if_neg fun z=>c2 z.symm];rfl
 ·rw[fN (by rw[ig];omega)]
  split
  ·rw[if_neg (by omega)];rfl
  ·rfl
theorem sQ{α:Type}{f g:Nat->α}{N:Nat}(h:∀i,i<N->g i=f i):(List.range N).map g=(List.range N).map f:=uF fun i m=>h i (qC.mp m)
def ltAt(q:Int×cQ)(a:Int):Option (Int×Int):=match q.2 with
 | .lt a' b=>if a'=a then some (q.1,b) else none
 | .ck _ _=>none
theorem Nl(ts:aR)(q:Int×cQ)(a:Int):dB (ts++[q]) a=(dB ts a).or (ltAt q a):=by
  unfold dB ltAt
  rw[CO]
  congr 1
  obtain⟨k,d⟩:=q
  cases d with
  | lt a' b =>
    dsimp only
    rw[pH]
    dsimp only
    by_cases c:a'=a
    · rw[if_pos c]
    · rw[if_neg c];rfl
  |ck prs r=>rfl
noncomputable def nX(p:Int)(wd:Wo)(q:Int×cQ)(a:Int):Option (Int×Int):=match q.2 with
  | .lt _ _=>none
  | .ck prs r => match ic p prs r wd with
    |some (a',x)=>if a'=a then some (q.1,x) else none
    |none=>none
theorem Iz(p:Int)(wd:Wo)(ts:aR)(q:Int×cQ)(a:Int):cN p (ts++[q]) wd a=(cN p ts wd a).or (nX p wd q a):=by
  unfold cN nX
  rw[CO]
  congr 1
  obtain⟨k,d⟩:=q
  cases d with
  |lt a' b=>rfl
  | ck prs r =>
    dsimp only
    rw[pH]
    dsimp only
    cases ic p prs r wd with
    |none=>rfl
    | some ax =>
      obtain⟨a',x⟩:=ax
      dsimp only
      by_cases c:a'=a
      · rw[if_pos c]
      · rw[if_neg c];rfl
section
variable{p n many:Int}{es ts:aR}
theorem Mq(n:Int):(er n []).wd=List.replicate n.toNat none/\eZ n (er n [])=List.replicate n.toNat .none:=by
 constructor
 ·show(List.range n.toNat).map (fun(i:Nat)=>(dB [] i).map (·.2))=_
  rw[show(fun(i:Nat)=>(dB [] (i:Int)).map (fun(x:Int×Int)=>x.2))=fun _=>none from rfl]
  exact List.map_const' ..|>.trans (by rw[ig])
 ·unfold eZ
  rw[sQ (f:=fun _=>PyData.none) fun i hi=>?_]
  ·exact List.map_const' ..|>.trans (by rw[ig])
  ·show wQ (if 0<=(i:Int)/\(i:Int)<n then(dB [] i).map fun x=>jC x.1 else none)=_
   split<;>rfl
theorem vo{a:Int}(h0:0<=a)(h1:a<n):(er n ts).wh a=(dB ts a).map fun x=>jC x.1:=if_pos ⟨h0,h1⟩
theorem VS{c:Pc}{a:Int}(h0:0<=a)(h1:a<n):cO (eZ n c) a=some (wQ (c.wh a)):=by
 refine lD h0 ?_
 unfold eZ
 rw[bI,j4 (by omega)]
 show some (wQ (c.wh (a.toNat:Nat)))=_
 rw[show((a.toNat:Nat):Int)=a by omega]
theorem Tc{k a b:Int}(h0:0<=a)(h1:a<n)(hn:dB ts a=none):(er n (ts++[(k, .lt a b)])).wd=(er n ts).wd.set a.toNat (some b)/\eZ n (er n (ts++[(k, .lt a b)]))=(eZ n (er n ts)).set a.toNat (jC k):=by
 have key:∀i:Nat,dB (ts++[(k, .lt a b)]) i=if i=a.toNat then some (k,b) else dB ts i:=fun i=>by
  rw[Nl]
  show(dB ts i).or (if a=(i:Int) then some (k,b) else none)=_
  by_cases c:i=a.toNat
  ·rw[if_pos c,if_pos (by omega),show(i:Int)=a by omega,hn];rfl
  ·rw[if_neg c,if_neg (by omega),Option.or_none]
 constructor
 ·refine z7 _ _ _ _ _ fun i hi=>?_
  try dsimp only
  rw[key]
  split<;>rfl
 ·refine z7 _ _ _ _ _ fun i hi=>?_
  try dsimp only
  rw[vo (by omega) (by omega),vo (by omega) (by omega),key]
  split<;>rfl
theorem P1{q:Int×cQ}(h:∀a:Int,ltAt q a≠none->dB ts a≠none):(er n (ts++[q])).wd=(er n ts).wd/\eZ n (er n (ts++[q]))=eZ n (er n ts):=by
  have key:∀a:Int,dB (ts++[q]) a=dB ts a:=fun a=>by
    rw[Nl]
    cases e:dB ts a with
    |some x=>rfl
    | none =>
      cases e2:ltAt q a with
      |none=>rfl
      |some y=>exact absurd e (h a (by rw[e2];exact eO _))
  constructor
  · refine sQ fun i hi=>?_
    rw[key]
  · refine sQ fun i hi=>?_
    rw[vo (by omega) (by omega),vo (by omega) (by omega),key]
variable{c:Pc}{t:Int}
theorem MM(hl:c.wd.length=n.toNat):(cV p [] t c).wd=c.wd/\eZ n (cV p [] t c)=eZ n c:=by
 constructor
 ·apply ja
  intro i
  by_cases h:i<c.wd.length
  ·rw[nR p [] t c h,bP h]
   cases c.wd[i]<;>rfl
  ·rw[fN (by rw[sA];omega),fN (by omega)]
 ·refine sQ fun i hi=>?_
  congr 1
  show(match c.wh i with|some w=>some w|none=>if 0<=(i:Int)/\(i:Int)<c.wd.length then(cN p [] c.wd i).map fun(x:Int×Int)=>jz x.1 t else none)=_
  cases c.wh i with
  |some w=>rfl
  |none=>show(if 0<=(i:Int)/\(i:Int)<c.wd.length then none else none)=_;split<;>rfl
theorem w6{a:Int}(hl:c.wd.length=n.toNat)(h0:0<=a)(h1:a<n):(cV p ts t c).wh a=(c.wh a).or ((cN p ts c.wd a).map fun(x:Int×Int)=>jz x.1 t):=by
 show(match c.wh a with|some w=>some w|none=>if 0<=a/\a<c.wd.length then(cN p ts c.wd a).map fun(x:Int×Int)=>jz x.1 t else none)=_
 cases c.wh a with
 |some w=>rfl
 |none=>rw[if_pos ⟨h0,by omega⟩];rfl
theorem Xb{q:Int×cQ}(hl:c.wd.length=n.toNat)(h:∀a:Int,nX p c.wd q a≠none->cN p ts c.wd a≠none):(cV p (ts++[q]) t c).wd=(cV p ts t c).wd/\eZ n (cV p (ts++[q]) t c)=eZ n (cV p ts t c):=by
  have key:∀a:Int,cN p (ts++[q]) c.wd a=cN p ts c.wd a:=fun a=>by
    rw[Iz]
    cases e:cN p ts c.wd a with
    |some x=>rfl
    | none =>
      cases e2:nX p c.wd q a with
      |none=>rfl
      |some y=>exact absurd e (h a (by rw[e2];exact eO _))
  constructor
  · apply ja
    intro i
    by_cases h:i<c.wd.length
    · rw[nR p _ t c h,nR p _ t c h,key]
    · rw[fN (by rw[sA];omega),fN (by rw[sA];omega)]
  · refine sQ fun i hi=>?_
    rw[w6 hl (by omega) (by omega),w6 hl (by omega) (by omega),key]
theorem aad{q:Int×cQ}{a k x:Int}(hl:c.wd.length=n.toNat)(h0:0<=a)(h1:a<n)(hw:c.wd[a.toNat]?=some none)(hh:c.wh a=none)(hq:∀b:Int,nX p c.wd q b=if a=b then some (k,x) else none)(hn:cN p ts c.wd a=none):
  (cV p (ts++[q]) t c).wd=(cV p ts t c).wd.set a.toNat (some x)/\eZ n (cV p (ts++[q]) t c)=(eZ n (cV p ts t c)).set a.toNat (jz k t):=by
 have key:∀i:Nat,cN p (ts++[q]) c.wd i=if i=a.toNat then some (k,x) else cN p ts c.wd i:=fun i=>by
  rw[Iz,hq]
  by_cases e:i=a.toNat
  ·rw[if_pos e,if_pos (by omega),show(i:Int)=a by omega,hn];rfl
  ·rw[if_neg e,if_neg (by omega),Option.or_none]
 constructor
 ·refine z7 _ _ _ _ _ fun i hi=>?_
  try dsimp only
  rw[key]
  by_cases e:i=a.toNat
  ·rw[if_pos e,if_pos e,e,hw];rfl
  ·rw[if_neg e,if_neg e]
 ·refine z7 _ _ _ _ _ fun i hi=>?_
  try dsimp only
  rw[w6 hl (by omega) (by omega),w6 hl (by omega) (by omega),key]
  by_cases e:i=a.toNat
  ·rw[if_pos e,if_pos e,show(i:Int)=a by omega,hh];rfl
  ·rw[if_neg e,if_neg e]
theorem V6(h:aS p n many es)(hp:0<p)(hl:c.wd.length=n.toNat)(he:(cV p es t c).wd=c.wd)(a:Int):cN p es c.wd a=none:=by
  cases e:cN p es c.wd a with
  |none=>rfl
  | some kx =>
    obtain⟨g0,g1,g2,_⟩:=h.rA hp e
    have:=nR p es t c (i:=a.toNat) (by omega)
    rw[he,g2,show((a.toNat:Nat):Int)=a by omega,e] at this
    cases this
end
theorem abo(es:aR):PyData.depthAll (es.map bR)<=4/\PyData.canLayAll0 (es.map bR)=true:=by
  induction es with
  |nil=>simp[PyData.depthAll,PyData.canLayAll0]
  | cons q r ih =>
    obtain⟨k,d⟩:=q
    have key:PyData.depth (bR (k,d))<=4/\PyData.canLay0 (bR (k,d))=true:=by
      cases d with
      | lt a b =>
        have h:PyData.canLay0 (.str "letter")=true:=by unfold PyData.canLay0;decide+kernel
        simp[bR,jZ,PyData.depthAll,PyData.depth,PyData.canLayAll0,PyData.canLay0] at h⊢
        exact h
      | ck prs r =>
        have h:PyData.canLay0 (.str "check")=true:=by unfold PyData.canLay0;decide+kernel
        have g:=Yg prs
        simp[bR,jZ,PyData.depthAll,PyData.depth,PyData.canLayAll0,PyData.canLay0,g.2.2] at h⊢
        have:=g.2.1
        exact⟨by omega,h⟩
    rw[bL]
    simp only[PyData.depthAll,PyData.canLayAll0,ih.2,key.2,Bool.and_true]
    have:=ih.1
    have:=key.1
    exact⟨by omega,trivial⟩
theorem Wq(es:aR):SeqAt.shaped (.list (es.map bR))=true:=by
 have h:=abo es
 unfold SeqAt.shaped
 simp[PyData.canLay0,PyData.depth,h.2]
 omega
end L2
set_option maxRecDepth 100000
set_option maxHeartbeats 4000000
namespace L2
open PySem PySem.Spec PyProof.Rows
abbrev CNF:=Cu->List PyData->(Cu->Bool->List PyData->Prop)->Prop
def KD(F:CNF):Prop:=∀c ds (Φ Ψ:Cu->Bool->List PyData->Prop),F c ds Φ->(∀c f l,Φ c f l->Ψ c f l)->F c ds Ψ
def tP(n:Nat)(F:CNF):Sp:=fun vs H Q _=>vs.length=n/\∃(nb:Addr->Prop) (c:Cu) (ws:List V) (ds:List PyData),vs=c.v::ws/\iE nb H/\(∀a∈c.F,nb a)/\c.f=false/\c.P nb H/\ah nb H ds ws/\
 F c ds fun c' f l=>∀a xs H',iJ c c' H H'->c'.P (fun x=>nb x\/x∈c'.F\/x=a) H'->H a=none->a∉c'.F->H' a=some (.lst xs)->ah (fun x=>nb x\/x∈c'.F\/x=a\/(f=true/\H x≠none)) H' l xs->Q (.ref a) H'
theorem V8{n:Nat}{F:CNF}{vs:List V}{H:Hp}{Q:VK}{E:XK}(h:tP n F vs H Q E):∃(nb:Addr->Prop) (c:Cu) (ws:List V) (ds:List PyData) (Φ:Cu->Bool->List PyData->Prop),vs=c.v::ws/\iE nb H/\(∀a∈c.F,nb a)/\c.f=false/\c.P nb H/\ah nb H ds ws/\
  (∀c' f l a xs H',Φ c' f l->iJ c c' H H'->c'.P (fun x=>nb x\/x∈c'.F\/x=a) H'->H a=none->a∉c'.F->H' a=some (.lst xs)->ah (fun x=>nb x\/x∈c'.F\/x=a\/(f=true/\H x≠none)) H' l xs->Q (.ref a) H')/\F c ds Φ:=by
 obtain⟨_,nb,c,ws,ds,h1,h2,h3,h4,h5,h6,h7⟩:=h
 exact⟨nb,c,ws,ds,fun c' f l=>∀a xs H',iJ c c' H H'->c'.P (fun x=>nb x\/x∈c'.F\/x=a) H'->H a=none->a∉c'.F->H' a=some (.lst xs)->ah (fun x=>nb x\/x∈c'.F\/x=a\/(f=true/\H x≠none)) H' l xs->Q (.ref a) H',h1,h2,h3,h4,h5,h6,fun c' f l a xs H' q=>q a xs H',h7⟩
def NO(G:Gx)(c:Cu)(Φ:Cu->Bool->List PyData->Prop):DE where
 nx:=fun _=>False
 rt:=fun _ _=>False
 rw:=fun nb ρ v H=>∃c' f l a xs,v= .ref a/\ρ[0]?=some (.cu c')/\qG c c'/\Φ c' f l/\c'.P (fun x=>G.S nb false x\/x=a) H/\G.H0 a=none/\a∉c.F/\a∉c'.F/\H a=some (.lst xs)/\ah (fun x=>G.S nb f x\/x=a) H l xs
section
variable{ρ:Rh}{t:TS}{N:List Str}{ws:List V}{ds:List PyData}{nb:Addr->Prop}{H:Hp}{Q:VK}{Φ:Cu->Bool->List PyData->Prop}{c:Cu}
theorem Sv.Vp(hl:iE nb H)(hF:∀a∈c.F,nb a)(hf:c.f=false)(hP:c.P nb H)(hd:ah nb H ds ws)
  (az:∀c' f l a xs H',Φ c' f l->iJ c c' H H'->c'.P (fun x=>nb x\/x∈c'.F\/x=a) H'->H a=none->a∉c'.F->H' a=some (.lst xs)->ah (fun x=>nb x\/x∈c'.F\/x=a\/(f=true/\H x≠none)) H' l xs->Q (.ref a) H')
  (dH:ρ= .cu c::ds.map (Sl.d false)++List.replicate (N.length-(ds.length+1)) .no) (h:Sv (fT c.F H nb) ρ t (NO (fT c.F H nb) c Φ)):t {nx:=fun _ H'=>Q .aI H',rt:=Q} (start N (c.v::ws)) H:=by
 have hlen:=hd.length
 refine h (fun a=>a∈c.F) _ H _ (TJ (k:=0) hl hF hf hP ?_ ?_ ?_ fun i s hi e=>?_) ⟨fun aC ρ' σ' H' q W=>q.elim,fun _ _ _ _ q _=>q.elim,fun _ _ _ _ q _=>q.elim,fun _ _ _ _ _ _ _ q _ _=>q.elim,fun aC ρ' σ' v H' ⟨c',f,l,a,xs,ev,e,up,p,g1,g2,g3,g4,g5,g6⟩ W=>?_⟩
 ·rw[dH];unfold start;simp;omega
 ·rw[dH];rfl
 ·unfold start;rfl
 ·rw[dH] at e
  unfold start
  obtain⟨m,rfl⟩:∃m,i=m+1:=⟨i-1,by omega⟩
  simp only[kI,j3,bL,fG] at e⊢
  by_cases hi:m<ds.length
  ·right
   rw[gM (by rw[ao];exact hi)] at e
   obtain⟨v,d,hv,e2,q⟩:=j7 hd e
   refine⟨d,v,e2,?_,q⟩
   rw[gM (by rw[ao,hlen];exact hi),bI,hv];rfl
  ·left
   rw[iu (by rw[ao];omega),eY] at e
   split at e
   ·rename_i h'
    cases e
    rw[ao] at h'
    exact⟨rfl,none,by rw[iu (by rw[ao];omega),eY,if_pos (by rw[ao,hlen];exact h')]⟩
   ·cases e
 ·obtain⟨q1,q2,q3⟩:=Xn W e up
  subst ev
  refine az c' f l a xs H' p q1 (c'.av (fun x z=>?_) g1) ?_ g4 g5 (g6.av fun x z=>?_)
  ·rcases z with z|z|z
   ·exact .inl (q3 false x (.inl z))
   ·exact .inl (q3 false x (.inr (.inl z)))
   ·exact .inr z
  ·have g2:(if a∈c.F then none else H a)=none:=g2
   rwa[if_neg g3] at g2
  ·rcases z with z|z|z|z
   ·exact .inl (q3 f x (.inl z))
   ·exact .inl (q3 f x (.inr (.inl z)))
   ·exact .inr z
   ·exact .inl (q3 f x (.inr (.inr z)))
end
section
variable{G:Gx}{ρ:Rh}{ta tb te:TE}{t:TA}{K:PySem.W.Frag}{i j n:Nat}{E:DE}{Θ:Rh->Bool->List PyData->Prop}{c:Cu}{C:Addr}{m:Str}{F:CNF}{F0:List Addr}{H0:Hp}{uB:Addr->Prop}{Φ:Cu->Bool->List PyData->Prop}
theorem Sv.acM(h:jQ (fT F0 H0 uB) ρ te fun ρ' f l=>∃c',ρ'[0]?=some (.cu c')/\qG c c'/\Φ c' f l):Sv (fT F0 H0 uB) ρ (mW te) (NO (fT F0 H0 uB) c Φ):=fun nb σ H D W KK=>
 h nb σ H _ W fun aC ρ' f a xs H1 H' l ⟨c',e,up,p⟩ W1 st hn hx hd=>by
  obtain⟨x0,e1,c1,c2,c3⟩:=W1.ok 0 _ e
  rw[up.f] at c3
  have hN:NB (fT F0 H0 uB).B a:=fun b l e=>by cases e
  have ha:a∉c'.F:=fun z=>W1.live a (c2 a z).1 hn
  have hne:∀x o,H1 x=some o->H' x=some o:=fun x o q=>st.1 x o (fun b l e=>by cases e) q
  refine KK.rw aC ρ' σ _ H' ⟨c',f,l,a,xs,rfl,e,up,p,c'.keep (.of fun x o _ q=>hne x o q) (c'.fresh hn c3),?_,fun z=>ha (up.sub a z),ha,hx,hd⟩ (W1.step st)
  cases q:(fT F0 H0 uB).H0 a with
  |none=>rfl
  |some o=>rw[W1.old a o hN q] at hn;cases hn
theorem jQ.aa9(hm:KD F)(e:ρ[i]?=some (.cu c))(hcf:c.f=false)(hi:∀S H,c.P S H->∃a dx fs,c.v= .ref a/\H a=some (.ins C dx fs)/\fs.lookup m=none)
  (h:Av G ρ t fun es=>es.length+1=n/\F c (es.map (·.2)) fun c' f l=>Θ (ρ.set i (.cu c')) f l):jQ G ρ (kP C m (tP n F) [] E0 (bf i) t) Θ:=fun nb σ H Q W z=>by
 obtain⟨x0,e1,h1,h2,h3⟩:=W.ok i _ e
 subst h1
 obtain⟨a0,dx,fs,g1,g2,g3⟩:=hi _ _ h3
 refine⟨c.v,e1,a0,dx,fs,g1,g2,g3,h nb σ H _ W fun es vs H1 ⟨hl,p⟩ s1 q1=>?_⟩
 have W1:=W.step s1
 obtain⟨x1,e2,k1,k2,k3⟩:=W1.ok i _ e
 rw[hcf] at k3
 rw[gH]
 refine⟨by rw[fG,q1.len,hl],G.S nb false,c,vs,es.map (·.2),rfl,W1.iR,fun a m=> .inl (k2 a m).1,hcf,k3,q1.all (f:=false) (fun z=>by cases z),hm _ _ _ _ p fun c' f l hp a xs H' to hP hn FA hx hd=>?_⟩
 obtain⟨Hm,t6⟩:∃Hm:Hp,Hm=fun x=>if x=a then none else H' x:=⟨_,rfl⟩
 have hm0:Hm a=none:=by rw[t6];exact if_pos rfl
 have hm1:∀x,x≠a->Hm x=H' x:=fun x n=>by rw[t6];exact if_neg n
 have hne:∀x o,H1 x=some o->x≠a:=fun x o q z=>by rw[z,hn] at q;cases q
 have W2:=W1.rJ (c':=c') (H':=Hm) e (fun x o hF w=>by rw[hm1 x (hne x o w)];exact to.kp x o hF w) to.v (fun x m=>(to.new x m).imp id .inl) (fun x m=>?_) ?_
 ·have hsm:cS Hm H':=fun x o w=>by
   by_cases hz:x=a
   ·rw[hz,hm0] at w;cases w
   ·rw[hm1 x hz] at w;exact w
  refine z _ _ f a xs Hm H' l hp W2 (.same W2.au hsm) hm0 hx (hd.av fun x y=>?_)
  rcases y with y|y
  ·rcases y with (y|y)|y|y|y
   ·exact .inl (.inl y)
   ·exact .inr (.inl y)
   ·exact .inl (.inr (.inl y))
   ·exact .inl (.inr (.inr (.inl y)))
   ·exact .inr (.inr (.inr ⟨y.1,W1.iR (f:=true) x (.inr (.inr (.inr ⟨rfl,y.2⟩)))⟩))
  ·exact .inr (.inr (.inl y))
 ·have hz:x≠a:=by
   rintro rfl
   rcases m with m|m
   ·exact FA (to.sub _ m)
   ·exact FA m
  rw[hm1 x hz]
  rcases m with m|m
  ·exact to.lv x (to.sub x m)
  ·exact to.lv x m
 ·rw[to.f]
  refine c'.av (fun x q=>?_) (c'.keep (S:=fun x=>G.S nb false x\/x∈c'.F\/x=a) (H:=H') (H':=Hm) (.of fun x o q w=>?_) hP)
  ·rcases q with (q|q)|q|q|q
   ·exact .inl (.inl q)
   ·exact .inr (.inl q)
   ·exact .inl (.inr (.inl q))
   ·exact .inl (.inr (.inr (.inl q)))
   ·cases q.1
  ·rw[hm1 x ?_]
   ·exact w
   ·rintro rfl
    rcases q with q|q
    ·exact q (.inr (.inr rfl))
    ·exact FA q
end
theorem Sv.Wr{G:Gx}{ρ:Rh}{te:TE}{E:DE}{i:Nat}{f:Bool}{ds:List PyData}{K:PySem.W.Frag}{a:Addr}{g:TG}(e:ρ[i]?=some (.own a f ds))(h:Ev G ρ te fun _ y=>∃(m:Nat) (d:PyData),y= .int (m:Int)/\m<2^62/\ds[m]?=some d/\Gv G (ρ.set i (.own a f (ds.eraseIdx m))) g f d E.nx):
  Sv G ρ (fZ (pA K "list" HX (bf i) (aX te bE)) g) E:=fun nb σ H D W KK=>by
 obtain⟨x,e1,h1,h2,h3,xs,hx,hd⟩:=W.ok i _ e
 subst h1
 refine⟨.ref a,e1, .inl ⟨rfl,_,bh.of hx⟩,h nb σ H _ W fun g v H1 y ⟨m,d,ey,hm,WU,q⟩ s1 hv=>?_⟩
 subst ey
 have hk:=hv.bD
 subst hk
 have W1:=W.step s1
 have CW:=s1.1 _ _ h3 hx
 have hd1:=hd.keep s1.dz
 obtain⟨y',hy',hD⟩:=hd1.get WU
 have hml:m<xs.length:=(bT.mp hy').1
 have hix:seqIndex? (m:Int) xs.length=some m:=by
  have:gV xs.length (m:Int)=some m:=by
   unfold gV
   rw[if_pos (by omega),if_pos (by omega),wZ]
  exact(Df this).1
 refine⟨a,xs,(m:Int),m,y',rfl,rfl,CW,by omega,by omega,hix,hy',?_⟩
 have W2:=Sv.Ag W1 e (hd1.era m)
 exact q nb σ _ _ _ W2 (hD.keep (aZ.set (.inl h2))) fun σ' ρ' p W'=>KK.nx nb ρ' σ' _ p W'
theorem acU{es:aR}(nd:(es.map (·.1)).Nodup){m:Nat}{q:Int×cQ}(h:es[m]?=some q):iI es q.1=es.eraseIdx m:=by
  induction es generalizing m with
  |nil=>cases h
  | cons x r ih =>
    rw[bL] at nd
    obtain⟨n1,n2⟩:=gR.mp nd
    unfold iI at ih⊢
    cases m with
    | zero =>
      cases h
      rw[om (by simp)]
      exact Cw.mpr fun y hy=>decide_eq_true fun z=>n1 (by rw[<-z];exact c9.mpr ⟨y,hy,rfl⟩)
    | succ m =>
      have h:r[m]?=some q:=by simpa using h
      rw[oF (by
        refine decide_eq_true fun z=>n1 ?_
        rw[z];exact c9.mpr ⟨q,dg h,rfl⟩)]
      rw[ih n2 h];rfl
theorem Tv.monoB{G:Gx}{ρ:Rh}{t:TT}{Ψ Θ:Bool->Prop}(h:Tv G ρ t Ψ)(q:∀b,Ψ b->Θ b):Tv G ρ t Θ:=fun nb σ H Q W z=>h nb σ H Q W fun b H' p=>z b H' (q b p)
theorem LZ{α β:Type}(f:α->β):∀(l:List α) (i:Nat),(l.map f).eraseIdx i=(l.eraseIdx i).map f
 |[],_=>rfl
 |_::_,0=>rfl
 |x::l,i+1=>by show f x::_=f x::_;rw[LZ f l i]
end L2
set_option maxRecDepth 100000
set_option maxHeartbeats 8000000
namespace K84
open PySem L2
def top(i:Nat):Stmt:=PySem.Challenge.pw_fewchecks_k84_deeds_that_do_not_fit.main.body.getD i (.Pass ⟨0,0,0,0⟩)
abbrev ac8:Stmt:=top 0
abbrev G1:Stmt:=top 8
abbrev Gd:Stmt:=top 9
abbrev El:Stmt:=top 10
abbrev C1:Stmt:=top 12
abbrev C2:Stmt:=top 13
abbrev FP:Stmt:=top 14
abbrev B0:Stmt:=top 15
abbrev Gj:Stmt:=top 16
abbrev xm:Stmt:=top 18
abbrev DP:Stmt:=top 21
abbrev Dp:Stmt:=top 22
abbrev Bs:Stmt:=top 25
abbrev CC:Stmt:=top 26
abbrev wU:Stmt:=top 27
abbrev Dw:Stmt:=top 28
abbrev CQ:Stmt:=top 29
abbrev AN:Stmt:=top 30
abbrev E2:Stmt:=top 31
abbrev BP:Stmt:=top 32
abbrev qM:Stmt:=top 33
abbrev xF:Stmt:=top 34
abbrev AH:Stmt:=top 35
abbrev xj:Stmt:=top 36
abbrev wu:Stmt:=top 37
abbrev xV:Stmt:=top 38
abbrev GD:Stmt:=top 39
abbrev EO:Stmt:=top 40
abbrev Dc:Stmt:=top 41
abbrev nv:Stmt:=top 42
abbrev oZ:Stmt:=inClass (top 20) 0
abbrev sC:Stmt:=inClass (top 20) 1
abbrev p9:Stmt:=inClass (top 20) 2
abbrev qI:Stmt:=inClass (top 23) 0
abbrev qO:Stmt:=inClass (top 23) 1
abbrev sE:Stmt:=inClass (top 23) 2
abbrev qZ:Stmt:=inClass (top 23) 3
abbrev rF:Stmt:=inClass (top 23) 4
abbrev rG:Stmt:=inClass (top 23) 5
abbrev qP:Stmt:=inClass (top 23) 6
abbrev rR:Stmt:=inClass (top 23) 9
abbrev oR:Stmt:=inClass (top 23) 10
abbrev qw:Stmt:=inClass (top 23) 11
abbrev VO:Prop:=∀{l:PySem.W.OpenLaw} {w:World} {K:PySem.W.Frag} {h:Heap} {mg:Str->Option Value} {fa:Addr} {f0 f1 f2 f3 f4 f5 f6 f7 f8 f9 OF Mb HU Lc Ip N6 NZ MP Iq Jx K4 HH HR PL Ka Ql Ml K9 BF rV rS qy f32 qF su rB qY sJ qu qU sI qL:Addr} (X:K.In h) (G:h.Ns mainGlobals mg) (Pe:mg "law"=some (.ref fa))
  {P4 Gy:Option Addr} {O1:Array (Option Value)} {OD Cc C4 DB zz CH:Value} {KZ Nv:Option Addr} {Ie:Array (Option Value)} {QD IU MS Qa FG HM:Value} {M1 P0:Option Addr} {Jg:Array (Option Value)} {Kf LM KS Oe EU HA:Value} {Ji Lp:Option Addr} {Iw:Array (Option Value)} {Jj OW JC HW BK Lx:Value} {Mf K6:Option Addr} {Jh:Array (Option Value)} {Ls ON KO Im GA Oo:Value} {L0 LV:Option Addr} {Lj:Array (Option Value)} {Qz Mj J2 NI Ce N4:Value} {Qh LC:Option Addr} {P5:Array (Option Value)} {Qd Jt NN Pr CV L4:Value} {Hz PB:Option Addr} {Ib:Array (Option Value)} {Kw MK Nt MJ Hu Ia:Value} {LG JK:Option Addr} {PU:Array (Option Value)} {Ni Lv Jp IQ Eg OI:Value} {IS Mr:Option Addr} {Mh:Array (Option Value)} {JX Lh NL Ln DL Qg:Value} {II JF:Option Addr} {OJ:Array (Option Value)} {LR Ot HN J9 BY J6:Value} {Ik Mm:Option Addr} {KL:Array (Option Value)} {MZ MD Lf N9 GK IP:Value} {L1 IE:Option Addr} {KG:Array (Option Value)} {KH K2 JL Nd Gg NY:Value} {JZ LS:Option Addr} {Jq:Array (Option Value)} {Lz OQ QE MB E3 JG:Value}
  {aJ:Addr} (AW:PySem.W.nsIn K mainGlobals "Finding"=some (some (.ref aJ))) (BG:PySem.W.plainGet K aJ Str.empty=true) (AM:PySem.W.hasDictIn K aJ=true) (vQ:PySem.W.plainOver K aJ=true) (zC:PySem.W.findIn K (.ref aJ) "__setattr__"=some (some (.builtin "object.__setattr__"))) (A7:PySem.W.makesIn K aJ=true) (zw:PySem.W.keepIn K (.ref aJ)=true)
  {ak:Addr} (wL:PySem.W.nsIn K mainGlobals "Desk"=some (some (.ref ak))) (xG:PySem.W.plainGet K ak Str.empty=true) (AR:PySem.W.hasDictIn K ak=true) (By:PySem.W.plainOver K ak=true) (Bq:PySem.W.findIn K (.ref ak) "__setattr__"=some (some (.builtin "object.__setattr__"))) (yi:PySem.W.makesIn K ak=true) (zR:PySem.W.keepIn K (.ref ak)=true)
  (jr:PySem.W.findIn K (.ref aJ) "letters"=some none)
  (kr:PySem.W.findIn K (.ref aJ) "whys"=some none)
  (m9:PySem.W.findIn K (.ref aJ) "p"=some none)
  (nh:PySem.W.findIn K (.ref aJ) "check_deeds"=some none)
  (lH:PySem.W.findIn K (.ref aJ) "having"=some none)
  (jO:PySem.W.findIn K (.ref aJ) "counts"=some none)
  (gZ:PySem.W.findIn K (.ref ak) "p"=some none)
  (ju:PySem.W.findIn K (.ref ak) "n"=some none)
  (fO:PySem.W.findIn K (.ref ak) "letter_deeds"=some none)
  (fW:PySem.W.findIn K (.ref ak) "check_deeds"=some none)
  (lz:PySem.W.findIn K (.ref ak) "many"=some none)
  (iP:PySem.W.findIn K (.ref ak) "last"=some none)
  (d0:bu K "over" "over" G1 f0)
  (d1:bu K "inverse" "inverse" Gd f1)
  (d2:bu K "total" "total" El f2)
  (d3:bu K "is_check" "is_check" C1 f3)
  (d4:bu K "ask_place" "ask_place" C2 f4)
  (d5:bu K "is_letter" "is_letter" FP f5)
  (d6:bu K "ask_letter" "ask_letter" B0 f6)
  (d7:bu K "sum_of" "sum_of" Gj f7)
  (d8:bu K "told_for" "told_for" xm f8)
  (d9:bu K "first_found" "first_found" DP f9)
  (zh:bu K "found_by" "found_by" Dp OF)
  (yu:bu K "_law_bag" "_law_bag" Bs Mb)
  (vR:bu K "_law_draw" "_law_draw" CC HU)
  (AJ:bu K "_law_prime_from" "_law_prime_from" wU Lc)
  (Al:bu K "_law_prime" "_law_prime" Dw Ip)
  (AA:bu K "_law_over" "_law_over" CQ N6)
  (zF:bu K "_law_sum" "_law_sum" AN NZ)
  (Ar:bu K "_law_letter" "_law_letter" E2 MP)
  (wY:bu K "_law_factor" "_law_factor" BP Iq)
  (yf:bu K "_law_letters" "_law_letters" qM Jx)
  (AX:bu K "_law_places" "_law_places" xF K4)
  (zo:bu K "_law_alike" "_law_alike" AH HH)
  (yj:bu K "_law_gaps" "_law_gaps" xj HR)
  (zk:bu K "_law_pairs" "_law_pairs" wu PL)
  (yQ:bu K "_law_picture" "_law_picture" xV Ka)
  (zg:bu K "_law_unlike" "_law_unlike" GD Ql)
  (vY:bu K "_law_deed" "_law_deed" EO Ml)
  (zP:bu K "_law_told" "_law_told" Dc K9)
  (Bl:PySem.W.nsIn K mainGlobals "law"=some (some (.ref BF))) (Au:K.lookup BF=some ⟨OD,P4, .func (PySem.W.fnOf "law" "law" (gQ nv) (gx nv) (aN nv) .none Cc C4 DB Gy zz CH),O1⟩) (zE:PySem.W.codeIn K zz "law"=true) (vP:PySem.W.keepIn K (.ref BF)=true)
  (xW:PySem.W.findIn K (.ref aJ) "__init__"=some (some (.ref rV))) (wR:PySem.W.isFn K (.ref rV)=true) (wC:K.lookup rV=some ⟨QD,KZ, .func (PySem.W.fnOf "__init__" "Finding.__init__" (gQ oZ) (gx oZ) (aN oZ) .none IU MS Qa Nv FG HM),Ie⟩) (za:PySem.W.codeIn K FG "Finding.__init__"=true) (Bo:PySem.W.keepIn K (.ref rV)=true)
  (wW:PySem.W.findIn K (.ref aJ) "take"=some (some (.ref rS))) (v7:PySem.W.isFn K (.ref rS)=true) (xH:K.lookup rS=some ⟨Kf,M1, .func (PySem.W.fnOf "take" "Finding.take" (gQ sC) (gx sC) (aN sC) .none LM KS Oe P0 EU HA),Jg⟩) (yO:PySem.W.codeIn K EU "Finding.take"=true) (u7:PySem.W.keepIn K (.ref rS)=true)
  (BH:PySem.W.findIn K (.ref aJ) "found_in"=some (some (.ref qy))) (Bk:PySem.W.isFn K (.ref qy)=true) (zS:K.lookup qy=some ⟨Jj,Ji, .func (PySem.W.fnOf "found_in" "Finding.found_in" (gQ p9) (gx p9) (aN p9) .none OW JC HW Lp BK Lx),Iw⟩) (BE:PySem.W.codeIn K BK "Finding.found_in"=true) (sX:PySem.W.keepIn K (.ref qy)=true)
  (a32:PySem.W.findIn K (.ref ak) "__init__"=some (some (.ref f32))) (wF:PySem.W.isFn K (.ref f32)=true) (yZ:K.lookup f32=some ⟨Ls,Mf, .func (PySem.W.fnOf "__init__" "Desk.__init__" (gQ qI) (gx qI) (aN qI) .none ON KO Im K6 GA Oo),Jh⟩) (yX:PySem.W.codeIn K GA "Desk.__init__"=true) (AI:PySem.W.keepIn K (.ref f32)=true)
  (xD:PySem.W.findIn K (.ref ak) "letter"=some (some (.ref qF))) (yT:PySem.W.isFn K (.ref qF)=true) (wD:K.lookup qF=some ⟨Qz,L0, .func (PySem.W.fnOf "letter" "Desk.letter" (gQ qO) (gx qO) (aN qO) .none Mj J2 NI LV Ce N4),Lj⟩) (zY:PySem.W.codeIn K Ce "Desk.letter"=true) (sL:PySem.W.keepIn K (.ref qF)=true)
  (ze:PySem.W.findIn K (.ref ak) "check"=some (some (.ref su))) (wc:PySem.W.isFn K (.ref su)=true) (yS:K.lookup su=some ⟨Qd,Qh, .func (PySem.W.fnOf "check" "Desk.check" (gQ sE) (gx sE) (aN sE) .none Jt NN Pr LC CV L4),P5⟩) (zM:PySem.W.codeIn K CV "Desk.check"=true) (tO:PySem.W.keepIn K (.ref su)=true)
  (yD:PySem.W.findIn K (.ref ak) "new_number"=some (some (.ref rB))) (zO:PySem.W.isFn K (.ref rB)=true) (xU:K.lookup rB=some ⟨Kw,Hz, .func (PySem.W.fnOf "new_number" "Desk.new_number" (gQ qZ) (gx qZ) (aN qZ) .none MK Nt MJ PB Hu Ia),Ib⟩) (AQ:PySem.W.codeIn K Hu "Desk.new_number"=true) (uH:PySem.W.keepIn K (.ref rB)=true)
  (yF:PySem.W.findIn K (.ref ak) "take_back"=some (some (.ref qY))) (z4:PySem.W.isFn K (.ref qY)=true) (Am:K.lookup qY=some ⟨Ni,LG, .func (PySem.W.fnOf "take_back" "Desk.take_back" (gQ rF) (gx rF) (aN rF) .none Lv Jp IQ JK Eg OI),PU⟩) (vV:PySem.W.codeIn K Eg "Desk.take_back"=true) (uy:PySem.W.keepIn K (.ref qY)=true)
  (wK:PySem.W.findIn K (.ref ak) "found"=some (some (.ref sJ))) (Bc:PySem.W.isFn K (.ref sJ)=true) (zA:K.lookup sJ=some ⟨JX,IS, .func (PySem.W.fnOf "found" "Desk.found" (gQ rG) (gx rG) (aN rG) .none Lh NL Ln Mr DL Qg),Mh⟩) (zL:PySem.W.codeIn K DL "Desk.found"=true) (uV:PySem.W.keepIn K (.ref sJ)=true)
  (Aj:PySem.W.findIn K (.ref ak) "known"=some (some (.ref qu))) (xR:PySem.W.isFn K (.ref qu)=true) (wo:K.lookup qu=some ⟨LR,II, .func (PySem.W.fnOf "known" "Desk.known" (gQ qP) (gx qP) (aN qP) .none Ot HN J9 JF BY J6),OJ⟩) (Bb:PySem.W.codeIn K BY "Desk.known"=true) (tD:PySem.W.keepIn K (.ref qu)=true)
  (yo:PySem.W.findIn K (.ref ak) "standing"=some (some (.ref qU))) (xT:PySem.W.isFn K (.ref qU)=true) (A0:K.lookup qU=some ⟨MZ,Ik, .func (PySem.W.fnOf "standing" "Desk.standing" (gQ rR) (gx rR) (aN rR) .none MD Lf N9 Mm GK IP),KL⟩) (AE:PySem.W.codeIn K GK "Desk.standing"=true) (ua:PySem.W.keepIn K (.ref qU)=true)
  (yV:PySem.W.findIn K (.ref ak) "unlike"=some (some (.ref sI))) (zm:PySem.W.isFn K (.ref sI)=true) (Ao:K.lookup sI=some ⟨KH,L1, .func (PySem.W.fnOf "unlike" "Desk.unlike" (gQ oR) (gx oR) (aN oR) .none K2 JL Nd IE Gg NY),KG⟩) (AL:PySem.W.codeIn K Gg "Desk.unlike"=true) (sR:PySem.W.keepIn K (.ref sI)=true)
  (zN:PySem.W.findIn K (.ref ak) "fits"=some (some (.ref qL))) (zf:PySem.W.isFn K (.ref qL)=true) (xg:K.lookup qL=some ⟨Lz,JZ, .func (PySem.W.fnOf "fits" "Desk.fits" (gQ qw) (gx qw) (aN qw) .none OQ QE MB LS E3 JG),Jq⟩) (vO:PySem.W.codeIn K E3 "Desk.fits"=true) (tY:PySem.W.keepIn K (.ref qL)=true)
  (yH:PySem.W.nsIn K mainGlobals "abs"=some none)
  (An:PySem.W.nsIn K mainGlobals "all"=some none)
  (yW:PySem.W.nsIn K mainGlobals "bool"=some none)
  (Ai:PySem.W.nsIn K mainGlobals "int"=some none)
  (wA:PySem.W.nsIn K mainGlobals "isinstance"=some none)
  (Bv:PySem.W.nsIn K mainGlobals "len"=some none)
  (yY:PySem.W.nsIn K mainGlobals "list"=some none)
  (AK:PySem.W.nsIn K mainGlobals "min"=some none)
  (xA:PySem.W.nsIn K mainGlobals "range"=some none)
  (ym:PySem.W.nsIn K mainGlobals "set"=some none)
  (Ay:PySem.W.nsIn K mainGlobals "sorted"=some none)
  (zZ:PySem.W.nsIn K mainGlobals "str"=some none)
  (xE:PySem.W.nsIn K mainGlobals "sum"=some none)
  (Aq:PySem.W.nsIn K mainGlobals "tuple"=some none),
  ∃fd:FuncData,(∀(s:Shared) (v:Value),BindsTo s fd ⟨[v],[]⟩ [("script",v)])/\∀base:Heap,K.In base->base.Ns mainGlobals mg->bq l.prog w K mg base bG 9 fa fd ["script"] (we K)
theorem walk{l:PySem.W.OpenLaw}{q:Program}{loose:List Str}{XP:(Str->Option Value)->Heap->Prop}{YP:World->Heap->Prop}{d:DefRec}{K:Params->PySem.W.Frag}(hn:l.most=some 63)(hdf:d.params.defaults=[])
  (hY:∀(w:World) (h:Heap),YP w h->(K w.params).In h)
  (F : ∀ (w : World) (mg : Str -> Option Value) (fa : Addr) (h : Heap), (K w.params).In h -> h.Ns mainGlobals mg -> mg d.name = some (.ref fa) ->
   ∃fd:FuncData,(∀(s:Shared) (u:Value),BindsTo s fd ⟨[u],[]⟩ [("script",u)])/\∀base:Heap,(K w.params).In base->base.Ns mainGlobals mg->bq l.prog w (K w.params) mg base bG 9 fa fd ["script"] (we (K w.params))):
  PySem.W.WalkO q loose XP YP l.row.toRowW d [] (fun f vs=>PySem.call f vs):=
 L2.Y5 (n:=63) (k:=9) (x:="script") (CX:=fun _=>bG) (sp:=fun w=>we (K w.params)) hn (by decide) hdf ⟨rfl,by decide,by decide⟩ hY F (fun _ _ a ns hl _ hS=>⟨a,ns,rfl,hS,hl,fun _=>rfl⟩) fun _ _ _ _ _ z=>z
local macro_rules| `(tactic|walk_at "d0")=> `(tactic|first|omega|assumption|decide|(unfold Sm at*;omega)|(unfold BA;omega)|(unfold DH;decide)|(unfold DH;omega))
local macro_rules| `(tactic|walk_at "ds")=> `(tactic|((try dsimp only);first|walk_at "d0" |(refine And.intro ?_ ?_<;>walk_at "d0")|(refine Or.inl ?_;walk_at "d0")|(refine Or.inr (And.intro ?_ ?_)<;>walk_at "d0")))
local macro_rules| `(tactic|walk_at "s1")=> `(tactic|with_reducible first
 |refine R.seq ?_|refine R.asg ?_|refine R.setC ?_|refine R.jE ?_|refine R.ret ?_|refine R.next ?_|refine R.c ?_|refine R.op ?_|refine R.test ?_|refine R.bl ?_|refine R.tru ?_
 |refine R.and ?_|refine R.notV ?_|refine R.cb ?_|refine R.call ?_|refine R.nil ?_|refine R.cons ?_
 |refine R.lst ?_|refine R.sl ?_|refine R.UX ?_|refine R.part ?_|refine R.tyInt ?_|refine R.Ko ?_|refine R.Th ?_|refine R.UU ?_|refine R.UD ?_|refine R.vf ?_
 |refine R.ie ?_|refine R.eqI ?_|refine R.RZ ?_|refine R.eqNI ?_|refine R.eqIN ?_|refine R.isI ?_|refine R.O0 ?_|refine R.PY ?_|refine R.bits ?_
 |refine vN ?_|refine KQ ?_|refine R.nilE ?_|refine R.isiII ?_|refine R.isiIB ?_|refine R.rng1 ?_|refine R.XD ?_|refine R.iL ?_|refine R.abB ?_|refine R.comp ?_)
local macro_rules| `(tactic|walk_at "st")=> `(tactic|repeat (first
 |walk_at "s1"
 |((with_reducible refine' R.var ?h0 ?_);(case h0=>rfl))
 |((with_reducible refine' R.rI ?h1 ?_);(case h1=>walk_at "ds"))
 |((with_reducible refine' R.Dm (o:= .lst []) ?h1 ?_);(case h1=>rfl))
 |((with_reducible refine' R.wj ?h0 ?h1 ?_);(case h0=>assumption);(case h1=>rfl))
 |((with_reducible refine' R.ixTM ?h0 ?h1 ?_);(case h0=>assumption);(case h1=>rfl))
 |((with_reducible refine' R.Sg ?h1 ?_);(case h1=>rfl))
 |((with_reducible refine' R.setM ?h0 ?h1 ?_);(case h0=>assumption);(case h1=>rfl))
 |((with_reducible refine' R.VB ?h0 ?_);(case h0=>assumption))
 |((with_reducible refine' R.lenL ?h0 ?_);(case h0=>assumption))
 |((with_reducible refine' R.rng1I ?h0 ?h1 ?_);(case h0=>walk_at "ds");(case h1=>walk_at "ds"))
 |((with_reducible refine' R.Sh ?h0 ?_);(case h0=>walk_at "ds"))
 |((with_reducible refine' R.AS ?h0 ?_);(case h0=>assumption))
 |((with_reducible refine' R.Qi ?h0 ?_);(case h0=>first|exact R.dT (by omega)|exact R.Pf (by omega)|decide))
 |((with_reducible refine' R.Lk ?h0 ?_);(case h0=>first|exact R.dF (by omega)|exact R.KI (by omega)|decide))
 |(with_reducible refine R.abu ?_)|(with_reducible refine R.Wl ?_)))
local macro_rules| `(tactic|walk_at "mo")=> `(tactic|repeat (first|refine Exists.imp fun _=>?_|refine And.imp_right ?_))
local macro_rules| `(tactic|walk_at "fv")=> `(tactic|first|exact Or.inl rfl|exact Or.inr (Or.inl rfl)|exact Or.inr (Or.inr (Or.inl rfl))|exact Or.inr (Or.inr (Or.inr (Or.inl rfl)))|exact Or.inr (Or.inr (Or.inr (Or.inr rfl))))
local macro_rules| `(tactic|walk_at "d1")=> `(tactic|with_reducible first
 |refine Sv.seq ?_|refine Sv.Ms ?_|refine Sv.asg ?_|refine Sv.YE ?_|refine Sv.jE ?_|refine Sv.ret ?_|refine Sv.next ?_|refine Sv.retN ?_
 |refine Ev.int ?_|refine Ev.bl ?_|refine Ev.aI ?_|refine Ev.ie ?_|refine Ev.ZV ?_|refine Ev.rI ?_|refine Ev.rU ?_|refine Ev.eq ?_|refine Ev.ne ?_|refine Ev.is ?_|refine Ev.abf ?_|refine Ev.zx ?_|refine Ev.str ?_|refine Ev.aa8 ?_
 |refine Ev.UH ?_|refine Ev.orV ?_|refine Ev.notV ?_|refine Ev.T8 ?_|refine Tv.test ?_|refine Tv.and ?_|refine Tv.or ?_|refine Tv.not ?_|refine Tv.vf ?_|refine Tv.uZ ?_
 |refine Ev.DT ?_|refine Ev.lst ?_|refine Av.nil ?_|refine Av.cons ?_|refine Av.S9 ?_|refine Ev.min2 ?_|refine Ev.max2 ?_|refine Ev.aae ?_
 |refine R.di ?_|refine R.db ?_|refine R.dl ?_|refine R.dt ?_|refine R.V0 ?_|refine R.dlt ?_|refine R.TH ?_|refine R.eqni ?_|refine R.eqin ?_|refine R.eqnn ?_|refine R.YB ?_
 |refine Gv.pV ?_|refine Gv.nameB ?_|refine Gv.nameN ?_|refine Gv.VH ?_|refine Gv.vq ?_|refine Gv.YR ?_|refine Gv.Tt ?_|refine vN ?_|refine KQ ?_)
local macro_rules| `(tactic|walk_at "dt")=> `(tactic|repeat (first
 |((with_reducible refine' Sv.Jl ?h0 ?_);(case h0=>rfl))
 |((with_reducible refine' Sv.KW ?h0 ?_);(case h0=>rfl))
 |walk_at "d1"
 |((with_reducible refine' Ev.var ?h0 ?_);(case h0=>rfl))
 |((with_reducible refine' Ev.draw ?h0 ?_);(case h0=>rfl))
 |((with_reducible refine' Ev.Tj ?h0 ?_);(case h0=>rfl))
 |((with_reducible refine' Ev.abS ?h0 ?_);(case h0=>rfl))
 |((with_reducible refine' Ev.V9 ?h0 ?h1 ?_);(case h0=>rfl);(case h1=>assumption))
 |((with_reducible refine' Ev.Fo ?h0 ?_);(case h0=>rfl))
 |((with_reducible refine' Ev.slOwn ?h0 ?_);(case h0=>rfl))
 |((with_reducible refine' Sv.append ?h0 ?_);(case h0=>rfl))
 |((with_reducible refine' Sv.KW ?h0 ?_);(case h0=>rfl))
 |((with_reducible refine' Sv.Jl ?h0 ?_);(case h0=>rfl))
 |((with_reducible refine' Gv.tup ?h0 ?_);(case h0=>rfl))
 |((with_reducible refine' R.at_ ?h0 ?_);(case h0=>first|rfl|assumption))
 |(with_reducible refine Ev.NP ?_)|(with_reducible refine Ev.lC ?_)|(with_reducible refine Ev.listOf ?_)|(with_reducible refine Ev.cat ?_)|(with_reducible refine Ev.G2 ?_)
 |((with_reducible refine' Ev.Vs ?h0 ?_);(case h0=>walk_at "fv"))
 |((with_reducible refine' Ev.ace ?h0 ?h1 ?_);(case h0=>walk_at "fv");(case h1=>walk_at "fv"))
 |(with_reducible refine Ev.all ?_)|(with_reducible refine Ev.sum ?_)|(with_reducible refine Ev.Dm ?_)
 |((with_reducible refine' R.lnil ?_))
 |((with_reducible refine' R.Qi ?h0 ?_);(case h0=>first|exact R.dT (by omega)|exact R.Pf (by omega)|rfl))
 |((with_reducible refine' R.Lk ?h0 ?_);(case h0=>first|exact R.dF (by omega)|exact R.KI (by omega)|exact bV))
 |((with_reducible refine' R.QX ?h0 ?_);(case h0=>first|walk_at "ds" |exact iy rfl))))
local macro_rules| `(tactic|walk_at "wk")=> `(tactic|repeat (first|exact Wk.nil|apply Wk.no|apply Wk.eq))
section
variable{P:Program}{w:World}{K:PySem.W.Frag}{mg:Str->Option Value}{base:Heap}{f:Addr}{fd:FuncData}
theorem kM:bY ["p","b","last_rest","last_times","rest","times","quotient","next_rest","next_times"] ["p","b"] (aN Gd):=⟨rfl,rfl,rfl,by decide+kernel,rfl,by decide+kernel,by decide+kernel⟩
theorem Zq(F:bM K "inverse" "inverse" Gd f fd):
  bq P w K mg base bG 1 f fd ["p","b"] Jd:=by
 refine F.ok kM (fun vs H Q E h=>?_) (fun cdv A outer s H vs Q E hr h=>?_)
 ·obtain⟨p,b,rfl,hp,hp3,hb,q⟩:=h
  rfl
 obtain⟨p,b,rfl,hp,hp3,hb,q⟩:=h
 refine⟨_,(@ay _ _ _ _ _ (@aV _ _ (2) _ _ _ _ kM.nd rfl (Or.inl rfl) (pv 0) (by rfl) (by first|exact .inl rfl|exact .inr rfl|assumption)) (@ay _ _ _ _ _ (@aV _ _ (3) _ _ _ _ kM.nd rfl (Or.inl rfl) ai (by rfl) (by first|exact .inl rfl|exact .inr rfl|assumption)) (@ay _ _ _ _ _ (@aV _ _ (4) _ _ _ _ kM.nd rfl (Or.inl rfl) (@aM _ _ _ _ _ _ _ _ i8 (pv 1) (pv 0)) (by rfl) (by first|exact .inl rfl|exact .inr rfl|assumption)) (@ay _ _ _ _ _ (@aV _ _ (5) _ _ _ _ kM.nd rfl (Or.inl rfl) ai (by rfl) (by first|exact .inl rfl|exact .inr rfl|assumption)) (@ay _ _ _ _ _ (@E8 _ _ _ _ _ _ iA (@bA _ _ _ _ _ _ _ _ nk (pv 4) ai (br _)) (@ay _ _ _ _ _ (@aV _ _ (6) _ _ _ _ kM.nd rfl (Or.inl rfl) (@aM _ _ _ _ _ _ _ _ o9 (pv 2) (pv 4)) (by rfl) (by first|exact .inl rfl|exact .inr rfl|assumption)) (@ay _ _ _ _ _ (@aV _ _ (7) _ _ _ _ kM.nd rfl (Or.inl rfl) (@aM _ _ _ _ _ _ _ _ mX (pv 2) (@aM _ _ _ _ _ _ _ _ jn (pv 6) (pv 4))) (by rfl) (by first|exact .inl rfl|exact .inr rfl|assumption)) (@ay _ _ _ _ _ (@aV _ _ (8) _ _ _ _ kM.nd rfl (Or.inl rfl) (@aM _ _ _ _ _ _ _ _ mX (pv 3) (@aM _ _ _ _ _ _ _ _ jn (pv 6) (pv 5))) (by rfl) (by first|exact .inl rfl|exact .inr rfl|assumption)) (@ay _ _ _ _ _ (@aV _ _ (2) _ _ _ _ kM.nd rfl (Or.inl rfl) (pv 4) (by rfl) (by first|exact .inl rfl|exact .inr rfl|assumption)) (@ay _ _ _ _ _ (@aV _ _ (3) _ _ _ _ kM.nd rfl (Or.inl rfl) (pv 5) (by rfl) (by first|exact .inl rfl|exact .inr rfl|assumption)) (@ay _ _ _ _ _ (@aV _ _ (4) _ _ _ _ kM.nd rfl (Or.inl rfl) (pv 7) (by rfl) (by first|exact .inl rfl|exact .inr rfl|assumption)) (@aD _ _ _ (@aV _ _ (5) _ _ _ _ kM.nd rfl (Or.inl rfl) (pv 8) (by rfl) (by first|exact .inl rfl|exact .inr rfl|assumption)))))))))) (@aD _ _ _ (@bC _ _ _ _ (@aM _ _ _ _ _ _ _ _ i8 (pv 3) (pv 0))))))))),?_⟩
 have hp2:=hp.1
 walk_at "st"
 refine abX (fun σ H1=>H1=H/\∃(L lt r t:Int) (x6 x7 x8:Option V),σ=[some (.int p),some (.int b),some (.int L),some (.int lt),some (.int r),some (.int t),x6,x7,x8]/\Eu p b L lt r t) (fun(σ:St) (_:Hp)=>match σ[4]? with|some (some (V.int r))=>r.toNat|_=>0) ⟨rfl,_,_,_,_,_,_,_,rfl,Eu.start hp2⟩ ?_ ?_
 ·rintro σ H1 ⟨rfl,L,lt,r,t,x6,x7,x8,rfl,E⟩
  obtain⟨t1,t2⟩:=E.tb
  have e1:=E.l0
  have e2:=E.r0
  have e3:=E.lp
  have e4:=E.rp
  walk_at "st"
  refine qQ (fun c=>?_) (fun c=>?_)
  ·have c:r≠0:=of_decide_eq_true c
   have hr:0<r:=by omega
   have q1:0<=L/r:=yq (by omega) (by omega)
   have q2:L/r<=L:=Gq _ (by omega)
   obtain⟨N1,N2⟩:=E.next hr
   walk_at "st"
   refine⟨⟨rfl,_,_,_,_,_,_,_,rfl,N1⟩,?_⟩
   show(L-L/r*r).toNat<r.toNat
   omega
  ·have c:r=0:=by simpa using c
   subst c
   walk_at "st"
   exact q _ (iT _ (by omega)) (iQ _ (by omega)) (E.fin hp hb)
 ·exact fun σ H Q Q' h ⟨v,e,s,k,ek,z⟩=>⟨v,e,s,k,ek,h _ _ z⟩
theorem aa4:bY ["p","a","b"] ["p","a","b"] (aN G1):=⟨rfl,rfl,rfl,by decide+kernel,rfl,by decide+kernel,by decide+kernel⟩
theorem Tz(F:bM K "over" "over" G1 f fd)(YH:Callee P w K mg base "inverse" 1 ["p","b"] Jd):
  bq P w K mg base bG 2 f fd ["p","a","b"] CP:=by
 refine F.ok aa4 (fun vs H Q E h=>?_) (fun cdv A outer s H vs Q E hr h=>?_)
 ·obtain⟨p,a,b,rfl,hp,hp3,hb,a1,a2,q⟩:=h
  rfl
 obtain⟨p,a,b,rfl,hp,hp3,hb,a1,a2,q⟩:=h
 refine⟨_,(@aD _ _ _ (@bC _ _ _ _ (@aM _ _ _ _ _ _ _ _ i8 (@aM _ _ _ _ _ _ _ _ jn (pv 1) (@bw _ _ _ _ _ _ _ _ _ _ YH (hr.mono (by decide)) (@aa _ _ _ _ _ (pv 0) (@aa _ _ _ _ _ (pv 2) aj rfl) rfl) (by rfl) (by decide) (by rfl) (by rfl))) (pv 0)))),?_⟩
 have hp2:=hp.1
 walk_at "st"
 refine⟨p,b,rfl,hp,hp3,hb,fun u u1 u2 ⟨k,hk⟩=>?_⟩
 walk_at "st"
 refine q _ (iT _ (by omega)) (iQ _ (by omega)) ⟨a*k-a*u/p*b,?_⟩
 have e:=ow (a*u) p
 have e2:a*u%p=a*u-p*(a*u/p):=by omega
 have e3:b*(a*u)=a*(u*b):=by rw[oK b,ki]
 rw[e2,mG,e3,hk,yR,BD,mG,<-ki a p k,oK a p,ki p a k,oK b (p*_),ki p]
 omega
theorem vL:bY ["p","pairs","word","reached","place","factor"] ["p","pairs","word"] (aN El):=⟨rfl,rfl,rfl,by decide+kernel,rfl,by decide+kernel,by decide+kernel⟩
theorem Yb(F:bM K "total" "total" El f fd):
    bq P w K mg base bG 1 f fd ["p","pairs","word"] xo:=by
  refine F.ok vL (fun vs H Q E h=>?_) (fun cdv A outer s H vs Q E hr h=>?_)
  · obtain⟨nb,p,va,vc,prs,wd,rfl,hA,hC,hp,h1,h2,q⟩:=h
    rfl
  obtain⟨nb,p,va,vc,prs,wd,rfl,hA,hC,hp,h1,h2,q⟩:=h
  refine⟨_,(@ay _ _ _ _ _ (@aV _ _ (3) _ _ _ _ vL.nd rfl (Or.inl rfl) ai (by rfl) (by first|exact .inl rfl|exact .inr rfl|assumption)) (@ay _ _ _ _ _ (@jd _ _ _ _ _ _ _ _ iA rfl (iz (K:=K) rfl (pv 1)) (Ng rfl (@dj _ _ _ _ _ (bB (i:=4) vL.nd rfl (Or.inl rfl)) (@dj _ _ _ _ _ (bB (i:=5) vL.nd rfl (Or.inl rfl)) jx (by rfl)) (by rfl))) (@aD _ _ _ (@cR _ _ _ _ _ _ _ _ (@bA _ _ _ _ _ _ _ _ NT (@aF _ _ _ _ _ _ _ cC (pv 2) (pv 4) (fun _ _=>rfl)) iD (br _)) (@aD _ _ _ (@aV _ _ (3) _ _ _ _ vL.nd rfl (Or.inl rfl) (@aM _ _ _ _ _ _ _ _ i8 (@aM _ _ _ _ _ _ _ _ gu (pv 3) (@aM _ _ _ _ _ _ _ _ jn (pv 5) (@aF _ _ _ _ _ _ _ cC (pv 2) (pv 4) (fun _ _=>rfl)))) (pv 0)) (by rfl) (by first|exact .inl rfl|exact .inr rfl|assumption))) dG)) (by intro _;rfl)) (@aD _ _ _ (@bC _ _ _ _ (pv 3))))),?_⟩
  obtain⟨a,xs,rfl,na,ha,da⟩:=hA.gy
  obtain⟨c,ws,rfl,nc,hc,dc⟩:=hC.gy
  have tN:=da.length
  rw[ao] at tN
  have ew:=Ek dc
  subst ew
  walk_at "st"
  refine R.AS (bh.of ha) ?_
  refine GO (xs:=xs) (fun i σ H1=>H1=H/\∃(r:Int) (x y:Option V),σ=[some (.int p),some (.ref a),some (.ref c),some (.int r),x,y]/\r=dP (prs.take i) wd%p) ⟨rfl,0,none,none,rfl,by simp[dP]⟩ ?_ ?_ ?_
  · rintro i σ H1 hi ⟨rfl,_⟩
    exact bh.of ha
  · rintro i x σ H1 hx ⟨rfl,r,y,z,rfl,hr⟩
    have hi:i<prs.length:=by have:=(bT.mp hx).1;omega
    obtain⟨x',hx',dx⟩:=da.get (i:=i) (by rw[bI,bP hi];rfl)
    rw[hx] at hx';cases hx'
    obtain⟨t,rfl,nt,ht⟩:=QS dx
    obtain⟨g1,g2,g3⟩:=h1 _ (mj hi)
    have hk:prs[i].fst.toNat<wd.length:=by omega
    have hat:cO (wd.map kF) prs[i].fst=some (kF wd[prs[i].fst.toNat]):=lD g1 (by rw[bI,bP hk];rfl)
    have D6:sH wd prs[i]=match wd[prs[i].fst.toNat] with|some x=>prs[i].snd*x|none=>0:=by
      unfold sH
      rw[bP hk]
      cases wd[prs[i].fst.toNat]<;>rfl
    have hs2:∀x,wd[prs[i].fst.toNat]=some x->Sm x:=fun x e=>h2 x (by rw[<-e];exact mj hk)
    have hd:=QI (wd:=wd) hi
    refine R.ab9 (gY.of ht) rfl ?_
    walk_at "st"
    refine R.wj hc hat ?_
    walk_at "st"
    generalize wd[prs[i].fst.toNat]=o at hat D6 hs2⊢
    cases o with
    | none =>
      refine R.PY ?_
      walk_at "st"
      refine⟨rfl,_,_,_,rfl,?_⟩
      rw[hd,D6,hr,Int.add_zero]
    | some x =>
      have hsx:=hs2 x rfl
      refine R.O0 ?_
      walk_at "st"
      refine R.wj hc hat ?_
      refine R.rI (Or.inr ⟨g3,hsx⟩) ?_
      walk_at "st"
      refine⟨rfl,_,_,_,rfl,?_⟩
      rw[hd,D6,hr,Int.emod_add_emod]
  · rintro σ H1 ⟨rfl,r,x,y,rfl,hr⟩
    walk_at "st"
    rw[tN,jF] at hr
    rw[hr]
    exact q
def B8:DF:=fun ds Φ=>∃(p n:Int) (prs:bz),ds=[.int p, .int n,fE prs]/\∀b:Bool,(b=true↔m8 p n prs)->Φ true (.bool b)
theorem ZE:fq B8:=by
 intro ds Φ Ψ hm z;revert hm
 walk_at "mo";exact fun q=>fun b h=>z _ _ (q b h)
theorem vH:bY ["p","n","pairs","last","place","factor"] ["p","n","pairs"] (aN C1):=⟨rfl,rfl,rfl,by decide+kernel,rfl,by decide+kernel,by decide+kernel⟩
theorem Tq(F:bM K "is_check" "is_check" C1 f fd)(c8:mg "len"=none):
  bq P w K mg base bG 1 f fd ["p","n","pairs"] (cK 3 B8):=by
 refine F.ok vH (fun vs H Q E h=>h.1) (fun cdv A outer s H vs Q E hr h=>?_)
 obtain⟨nb,ds,Φ,hlive,hds,az,hF⟩:=jK h
 obtain⟨p,n,prs,rfl,q⟩:=hF
 refine⟨_,(@ay _ _ _ _ _ (@aV _ _ (3) _ _ _ _ vH.nd rfl (Or.inl rfl) (@R0 _ _ _ _ _ _ SE ai) (by rfl) (by first|exact .inl rfl|exact .inr rfl|assumption)) (@ay _ _ _ _ _ (@jd _ _ _ _ _ _ _ _ iA rfl (iz (K:=K) rfl (pv 2)) (@jM _ (K) _ _ _ (2) _ rfl rfl (@dj _ _ _ _ _ (bB (i:=4) vH.nd rfl (Or.inl rfl)) (@dj _ _ _ _ _ (bB (i:=5) vH.nd rfl (Or.inl rfl)) jx (by rfl)) (by rfl)) (by rfl) (by rfl)) (@ay _ _ _ _ _ (@cR _ _ _ _ _ _ _ _ (PW.pt (rE (@bA _ _ _ _ _ _ _ _ zQ (pv 4) (pv 3) (br _)) (rE (@bA _ _ _ _ _ _ _ _ BU (pv 4) (pv 1) (br _)) (rE (@bA _ _ _ _ _ _ _ _ rQ (pv 5) ai (br _)) (yg (@bA _ _ _ _ _ _ _ _ BU (pv 5) (pv 0) (br _))))))) (@aD _ _ _ (@bC _ _ _ _ sy)) dG) (@aD _ _ _ (@aV _ _ (3) _ _ _ _ vH.nd rfl (Or.inl rfl) (pv 4) (by rfl) (by first|exact .inl rfl|exact .inr rfl|assumption)))) (by intro _;rfl)) (@aD _ _ _ (@bC _ _ _ _ (@oG _ _ _ _ _ _ _ _ VF (@cZ _ _ _ _ _ _ _ _ (iB K) jq rfl c8 jl (@aa _ _ _ _ _ (pv 2) aj rfl) (by decide) (by decide) (by rfl) (by rfl)) ai (br _)))))),?_⟩
 refine Sv.jG hlive hds az (ρ:=[.d false _, .d false _, .d false _, .no, .no, .no]) rfl ?_
 clear az hds
 walk_at "dt"
 refine Sv.forL ?_
 walk_at "dt"
 intro v
 refine⟨fun i ρ=>∃(last:Int) (x4 x5:Sl),ρ=[.d false (.int p), .d false (.int n), .d false (fE prs), .d true (.int last),x4,x5]/\(-1<=last)/\((prs.take i).Pairwise fun a b=>a.1<b.1)/\(∀pr∈prs.take i,pr.1<=last/\0<=pr.1/\pr.1<n/\1<=pr.2/\pr.2<p)/\(last= -1\/∃pr∈prs.take i,pr.1=last),⟨-1,_,_,rfl,by omega,by simp,by simp, .inl rfl⟩,?_,?_⟩
 ·rintro i d ρ hd ⟨last,x4,x5,rfl,h1,h2,h3,h4⟩
  obtain⟨pr,eV,rfl⟩:=gJ hd
  have es:=take_snoc eV
  have hm:pr∈prs:=dg eV
  have no:∀hb:¬(last<pr.1/\pr.1<n/\1<=pr.2/\pr.2<p),Φ true (.bool false):=fun hb=>q false (by
   refine⟨fun z=>(by cases z),fun⟨_,z1,z2⟩=>?_⟩
   exfalso
   apply hb
   have:=z2 pr hm
   refine⟨?_,this.2.1,this.2.2.1,this.2.2.2⟩
   rcases h4 with h4|⟨Hy,h5,h6⟩
   ·omega
   ·have z3:(prs.take (i+1)).Pairwise fun a b=>a.1<b.1:=z1.sublist (List.take_sublist _ _)
    rw[es] at z3
    have:=(EK.mp z3).2.2 Hy h5 pr (aK.mpr rfl)
    omega)
  walk_at "dt"
  by_cases c1:pr.1<=last
  ·walk_at "dt"
   exact no (by omega)
  walk_at "dt"
  by_cases c2:n<=pr.1
  ·walk_at "dt"
   exact no (by omega)
  walk_at "dt"
  by_cases c3:pr.2<1
  ·walk_at "dt"
   exact no (by omega)
  walk_at "dt"
  by_cases c4:p<=pr.2
  ·walk_at "dt"
   exact no (by omega)
  walk_at "dt"
  refine⟨_,_,_,rfl,by omega,?_,?_, .inr ⟨pr,by rw[es];simp,rfl⟩⟩
  ·rw[es]
   refine EK.mpr ⟨h2,by simp,fun a ha b hb=>?_⟩
   rw[aK.mp hb]
   have:=h3 a ha
   omega
  ·intro a ha
   rw[es] at ha
   rcases ir.mp ha with ha|ha
   ·have:=h3 a ha
    omega
   ·rw[aK.mp ha]
    omega
 ·rintro ρ ⟨last,x4,x5,rfl,h1,h2,h3,h4⟩
  rw[ao,jF] at h2 h3
  walk_at "dt"
  refine q _ ?_
  rw[decide_eq_true_eq,ao]
  constructor
  ·intro h
   exact⟨fun z=>by subst z;simp at h,h2,fun pr eV=>(h3 pr eV).2⟩
  ·rintro⟨h,_⟩
   cases prs with
   |nil=>exact absurd rfl h
   |cons=>simp
def G6:DF:=fun ds Φ=>∃(n a:Int),ds=[.int n, .int a]/\0<=a/\a<n/\Φ true .none
theorem Y3:fq G6:=by
 intro ds Φ Ψ hm z;revert hm
 walk_at "mo";exact fun q=>z _ _ q
theorem WQ:bY ["n","place"] ["n","place"] (aN C2):=⟨rfl,rfl,rfl,by decide+kernel,rfl,by decide+kernel,by decide+kernel⟩
theorem WN(F:bM K "ask_place" "ask_place" C2 f fd):
  bq P w K mg base bG 1 f fd ["n","place"] (cK 2 G6):=by
 refine F.ok WQ (fun vs H Q E h=>h.1) (fun cdv A outer s H vs Q E hr h=>?_)
 obtain⟨nb,ds,Φ,hlive,hds,az,hF⟩:=jK h
 obtain⟨n,a,rfl,a0,a1,q⟩:=hF
 refine⟨_,(@aD _ _ _ (@cR _ _ _ _ _ _ _ _ (PW.pt (rE (@bA _ _ _ _ _ _ _ _ rQ (pv 1) ai (br _)) (yg (@bA _ _ _ _ _ _ _ _ BU (pv 1) (pv 0) (br _))))) (@aD _ _ _ zp) dG)),?_⟩
 refine Sv.jG hlive hds az (ρ:=[.d false _, .d false _]) rfl ?_
 clear az hds
 walk_at "dt"
 exact q
def Fq:DF:=fun ds Φ=>∃(p a:Int),ds=[.int p, .int a]/\Φ true (.bool (decide (0<=a/\a<p)))
theorem S1:fq Fq:=by
 intro ds Φ Ψ hm z;revert hm
 walk_at "mo";exact fun q=>z _ _ q
theorem abi:bY ["p","letter"] ["p","letter"] (aN FP):=⟨rfl,rfl,rfl,by decide+kernel,rfl,by decide+kernel,by decide+kernel⟩
theorem SV(F:bM K "is_letter" "is_letter" FP f fd):
  bq P w K mg base bG 1 f fd ["p","letter"] (cK 2 Fq):=by
 refine F.ok abi (fun vs H Q E h=>h.1) (fun cdv A outer s H vs Q E hr h=>?_)
 obtain⟨nb,ds,Φ,hlive,hds,az,hF⟩:=jK h
 obtain⟨p,a,rfl,q⟩:=hF
 refine⟨_,(@aD _ _ _ (@bC _ _ _ _ (@MY _ _ _ _ _ _ _ (@oG _ _ _ _ _ _ _ _ zQ ai (pv 1) (br _)) (@Ke _ _ _ _ _ (@oG _ _ _ _ _ _ _ _ rQ (pv 1) (pv 0) (br _)))))),?_⟩
 refine Sv.jG hlive hds az (ρ:=[.d false _, .d false _]) rfl ?_
 clear az hds
 by_cases c1:0<=a
 ·rw[show decide (0<=a/\a<p)=decide (a<p) by simp[c1]] at q
  walk_at "dt"
  exact q
 ·rw[decide_eq_false (by omega)] at q
  walk_at "dt"
  exact q
def zD:DF:=fun ds Φ=>∃(n a:Int),ds=[.int n, .int a]/\0<=a/\a<n/\Φ true .none
theorem LX:fq zD:=by
 intro ds Φ Ψ hm z;revert hm
 walk_at "mo";exact fun q=>z _ _ q
theorem VU:bY ["p","letter"] ["p","letter"] (aN B0):=⟨rfl,rfl,rfl,by decide+kernel,rfl,by decide+kernel,by decide+kernel⟩
theorem UQ(F:bM K "ask_letter" "ask_letter" B0 f fd)(WE:Callee P w K mg base "is_letter" 1 ["p","letter"] (cK 2 Fq)):
  bq P w K mg base bG 2 f fd ["p","letter"] (cK 2 zD):=by
 refine F.ok VU (fun vs H Q E h=>h.1) (fun cdv A outer s H vs Q E hr h=>?_)
 obtain⟨nb,ds,Φ,hlive,hds,az,hF⟩:=jK h
 obtain⟨n,a,rfl,a0,a1,q⟩:=hF
 refine⟨_,(@aD _ _ _ (@cR _ _ _ _ _ _ _ _ (@rq _ _ _ _ (@qo _ (K) _ _ rfl (@bw _ _ _ _ _ _ _ _ _ _ WE (hr.mono (by decide)) (@aa _ _ _ _ _ (pv 0) (@aa _ _ _ _ _ (pv 1) aj rfl) rfl) (by rfl) (by decide) (by rfl) (by rfl)) (fun _=>rfl))) (@aD _ _ _ zp) dG)),?_⟩
 refine Sv.jG hlive hds az (ρ:=[.d false _, .d false _]) rfl ?_
 clear az hds
 refine Sv.jE ?_
 walk_at "dt"
 refine Ev.gG S1 ?_
 walk_at "dt"
 refine⟨rfl,n,a,rfl,?_⟩
 rw[decide_eq_true (show 0<=a/\a<n from⟨a0,a1⟩)]
 walk_at "dt"
 exact q
def FL:DF:=fun ds Φ=>∃(p:Int) (prs:bz) (wd:Wo),ds=[.int p,fE prs,dN wd]/\0<p/\pW prs wd.length/\nU wd/\Φ true (bF (rX p prs wd))
theorem YK:fq FL:=by
 intro ds Φ Ψ hm z;revert hm
 walk_at "mo";exact fun q=>z _ _ q
theorem CA:bY ["p","pairs","word","place","factor"] ["p","pairs","word"] (aN Gj):=⟨rfl,rfl,rfl,by decide+kernel,rfl,by decide+kernel,by decide+kernel⟩
theorem WL(F:bM K "sum_of" "sum_of" Gj f fd)(BV:Callee P w K mg base "total" 1 ["p","pairs","word"] xo):
    bq P w K mg base bG 2 f fd ["p","pairs","word"] (cK 3 FL):=by
  refine F.ok CA (fun vs H Q E h=>h.1) (fun cdv A outer s H vs Q E hr h=>?_)
  obtain⟨nb,ds,Φ,hlive,hds,az,hF⟩:=jK h
  obtain⟨p,prs,wd,rfl,hp,h1,h2,q⟩:=hF
  refine⟨_,(@ay _ _ _ _ _ (@jd _ _ _ _ _ _ _ _ iA rfl (iz (K:=K) rfl (pv 1)) (@jM _ (K) _ _ _ (2) _ rfl rfl (@dj _ _ _ _ _ (bB (i:=3) CA.nd rfl (Or.inl rfl)) (@dj _ _ _ _ _ (bB (i:=4) CA.nd rfl (Or.inl rfl)) jx (by rfl)) (by rfl)) (by rfl) (by rfl)) (@aD _ _ _ (@cR _ _ _ _ _ _ _ _ (@bA _ _ _ _ _ _ _ _ oU (@aF _ _ _ _ _ _ (dS K) cC (pv 2) (pv 3) (fun _ _=>rfl)) iD (br _)) (@aD _ _ _ (@bC _ _ _ _ iD)) dG)) (by intro _;rfl)) (@aD _ _ _ (@bC _ _ _ _ (@bw _ _ _ _ _ _ _ _ _ _ BV (hr.mono (by decide)) (@aa _ _ _ _ _ (pv 0) (@aa _ _ _ _ _ (pv 1) (@aa _ _ _ _ _ (pv 2) aj rfl) rfl) rfl) (by rfl) (by decide) (by rfl) (by rfl))))),?_⟩
  refine Sv.jG hlive hds az (ρ:=[.d false _, .d false _, .d false _, .no, .no]) rfl ?_
  clear az hds
  walk_at "dt"
  refine Sv.forL (Ev.var rfl ⟨_,rfl,fun v=>?_⟩)
  refine⟨fun i ρ=>(∃x y,ρ=[.d false (.int p), .d false (fE prs), .d false (dN wd),x,y])/\∀pr∈prs.take i,wd[pr.1.toNat]?≠some none,⟨⟨_,_,rfl⟩,by simp⟩,?_,?_⟩
  · rintro i d ρ hd ⟨⟨x,y,rfl⟩,hI⟩
    obtain⟨pr,eV,rfl⟩:=gJ hd
    obtain⟨g1,g2,g3⟩:=h1 pr (dg eV)
    obtain⟨o,ho,hat⟩:=pI (xs:=wd) bF g1 g2 rfl
    walk_at "dt"
    rw[vg]
    cases o with
    | none =>
      walk_at "dt"
      have e:rX p prs wd=none:=if_pos ⟨pr,dg eV,ho⟩
      rw[e] at q
      exact q
    | some z =>
      walk_at "dt"
      refine⟨⟨_,_,rfl⟩,fun Hy h'=>?_⟩
      rw[take_snoc eV] at h'
      rcases ir.mp h' with h'|h'
      · exact hI Hy h'
      · rw[aK.mp h',ho];exact fun z=>by cases z
  · rintro ρ ⟨⟨x,y,rfl⟩,hI⟩
    walk_at "dt"
    refine Ev.total ?_
    walk_at "dt"
    refine⟨p,prs,wd,rfl,hp,h1,h2,?_⟩
    have e:rX p prs wd=some (dP prs wd%p):=if_neg fun⟨pr,h,e⟩=>hI pr (by rw[ao,jF];exact h) e
    rw[e] at q
    exact q
def CZ:DF:=fun ds Φ=>∃(p rest:Int) (prs:bz) (wd:Wo),ds=[.int p,fE prs, .int rest,dN wd]/\gp p/\p<10^40/\0<=rest/\rest<p/\prs.length<=10000/\pW prs wd.length/\Yt p prs/\nU wd/\Φ true (QV (ic p prs rest wd))
theorem XX:fq CZ:=by
 intro ds Φ Ψ hm z;revert hm
 walk_at "mo";exact fun q=>z _ _ q
theorem xy:bY ["p","pairs","rest","word","lost","place","factor"] ["p","pairs","rest","word"] (aN xm):=⟨rfl,rfl,rfl,by decide+kernel,rfl,by decide+kernel,by decide+kernel⟩
theorem abq(F:bM K "told_for" "told_for" xm f fd)(Xg:Callee P w K mg base "over" 2 ["p","a","b"] CP)(BV:Callee P w K mg base "total" 1 ["p","pairs","word"] xo)(c8:mg "len"=none):
    bq P w K mg base bG 3 f fd ["p","pairs","rest","word"] (cK 4 CZ):=by
  refine F.ok xy (fun vs H Q E h=>h.1) (fun cdv A outer s H vs Q E hr h=>?_)
  obtain⟨nb,ds,Φ,hlive,hds,az,hF⟩:=jK h
  obtain⟨p,rest,prs,wd,rfl,hp,oM,r0,r1,hl,hP,Mw,hW,q⟩:=hF
  refine⟨_,(@ay _ _ _ _ _ (KJ (i:=4) xy.nd rfl rfl (gF.of (show iU (aN xm) ["p","pairs","rest","word","lost","place","factor"] _ ["place","factor","word"] [none,none,some 3]=true by decide+kernel)) (iz (K:=K) rfl (pv 1)) (fun _ _ _ _=>⟨(@jM _ (K) _ _ _ (2) _ rfl rfl (@dj _ _ _ _ _ (bB (i:=0) (by show List.Nodup (["place","factor","word"]:List Str);decide+kernel) rfl (Or.inl rfl)) (@dj _ _ _ _ _ (bB (i:=1) (by show List.Nodup (["place","factor","word"]:List Str);decide+kernel) rfl (Or.inl rfl)) jx (by rfl)) (by rfl)) (by rfl) (by rfl)),(pZ (@bA _ _ _ _ _ _ _ _ oU (@aF _ _ _ _ _ _ (dS K) cC (pv 2) (pv 0) (fun _ _=>rfl)) iD (br _))),(@gc _ _ _ _ _ (@aa _ _ _ _ _ (pv 0) (@aa _ _ _ _ _ (pv 1) aj rfl) rfl))⟩)) (@ay _ _ _ _ _ (@cR _ _ _ _ _ _ _ _ (@bA _ _ _ _ _ _ _ _ nk (@cZ _ _ _ _ _ _ _ _ (iB K) jq rfl c8 jl (@aa _ _ _ _ _ (pv 4) aj rfl) (by decide) (by decide) (by rfl) (by rfl)) ai (br _)) (@aD _ _ _ (@bC _ _ _ _ iD)) dG) (@ay _ _ _ _ _ (@aV _ _ (5) _ _ _ _ xy.nd rfl (Or.inl rfl) (@aF _ _ _ _ _ _ (bU K) cy (@aF _ _ _ _ _ _ (dS K) cC (pv 4) ai (fun _ _=>rfl)) ai (fun _ _=>rfl)) (by rfl) (by first|exact .inl rfl|exact .inr rfl|assumption)) (@ay _ _ _ _ _ (@aV _ _ (6) _ _ _ _ xy.nd rfl (Or.inl rfl) (@aF _ _ _ _ _ _ (bU K) cy (@aF _ _ _ _ _ _ (dS K) cC (pv 4) ai (fun _ _=>rfl)) ai (fun _ _=>rfl)) (by rfl) (by first|exact .inl rfl|exact .inr rfl|assumption)) (@aD _ _ _ (@bC _ _ _ _ (@gc _ _ _ _ _ (@aa _ _ _ _ _ (pv 5) (@aa _ _ _ _ _ (@bw _ _ _ _ _ _ _ _ _ _ Xg (hr.mono (by decide)) (@aa _ _ _ _ _ (pv 0) (@aa _ _ _ _ _ (@aM _ _ _ _ _ _ _ _ mX (pv 2) (@bw _ _ _ _ _ _ _ _ _ _ BV (hr.mono (by decide)) (@aa _ _ _ _ _ (pv 0) (@aa _ _ _ _ _ (pv 1) (@aa _ _ _ _ _ (pv 3) aj rfl) rfl) rfl) (by rfl) (by decide) (by rfl) (by rfl))) (@aa _ _ _ _ _ (pv 6) aj rfl) rfl) rfl) (by rfl) (by decide) (by rfl) (by rfl)) aj rfl) rfl)))))))),?_⟩
  refine Sv.jG hlive hds az (ρ:=[.d false _, .d false _, .d false _, .d false _, .no, .no, .no]) rfl ?_
  clear az hds
  have nj:(prs.map pairD).length=prs.length:=ao ..
  have p2:=hp.1
  walk_at "dt"
  refine aE.ev (aE.uT (by decide) rfl ?_)
  walk_at "dt"
  refine fun v=>⟨true,fun i ds=>ds=(bK wd (prs.take i)).map pairD,rfl,?_,?_⟩
  · rintro i d ds hd hl' rfl
    obtain⟨pr,eV,rfl⟩:=gJ hd
    obtain⟨g1,g2,g3⟩:=hP pr (dg eV)
    obtain⟨o,ho,hat⟩:=pI (xs:=wd) bF g1 g2 rfl
    walk_at "dt"
    refine⟨by walk_at "wk",?_⟩
    walk_at "dt"
    rw[vg]
    cases o with
    | none =>
      walk_at "dt"
      refine⟨fun _=>rfl,?_⟩
      show _=List.map pairD (bK wd (prs.take (i+1)))
      rw[take_snoc eV,Fj,if_pos ho,fF]
      rfl
    | some x =>
      walk_at "dt"
      show _=List.map pairD (bK wd (prs.take (i+1)))
      rw[take_snoc eV,Fj,if_neg (by rw[ho];simp)]
  rintro ds hl' rfl
  rw[nj,jF]
  walk_at "dt"
  have key:∀L,bK wd prs=L->ic p prs rest wd=(match L with|[pr]=>some (pr.1,sol p pr.2 (rest-dP prs wd%p))|_=>none):=fun L e=>by unfold ic;rw[e]<;>rfl
  cases hL:bK wd prs with
  | nil =>
    walk_at "dt"
    rw[key _ hL] at q
    exact q
  | cons pr r =>
    cases r with
    | cons pr2 r2 =>
      have:¬((List.map pairD (pr::pr2::r2)).length:Int)=1:=by simp;omega
      walk_at "dt"
      rw[key _ hL] at q
      exact q
    | nil =>
      have hm:=(N7 (wd:=wd) (prs:=prs) (pr:=pr) (by rw[hL];simp)).1
      have d0:=iT (dP prs wd) (show p≠0 by omega)
      have d1:=iQ (dP prs wd) (show 0<p by omega)
      walk_at "dt"
      refine Ev.over ?_
      walk_at "dt"
      refine Ev.total ?_
      walk_at "dt"
      refine⟨p,prs,wd,rfl,by omega,hP,hW,?_⟩
      walk_at "dt"
      refine⟨p,rest-dP prs wd%p,pr.2,rfl,hp,oM,Mw pr hm,by omega,by omega,fun x x0 x1 hx=>?_⟩
      walk_at "dt"
      rw[key _ hL] at q
      have e:=O7 hp (Mw pr hm) x0 x1 hx
      rw[e]
      exact q
def C7:DF:=fun ds Φ=>∃(p n many:Int) (es:aR),ds=[.dict ((ldK es).map aG)]/\aS p n many es/\Φ true (.dict ((gP (fJ es)).map aG))
theorem ZF:fq C7:=by
 intro ds Φ Ψ hm z;revert hm
 walk_at "mo";exact fun q=>z _ _ q
theorem Af:bY ["letter_deeds","found","number","place"] ["letter_deeds"] (aN DP):=⟨rfl,rfl,rfl,by decide+kernel,rfl,by decide+kernel,by decide+kernel⟩
theorem acT(F:bM K "first_found" "first_found" DP f fd)(kE:mg "sorted"=none):
  bq P w K mg base bG 1 f fd ["letter_deeds"] (cK 1 C7):=by
 refine F.ok Af (fun vs H Q E h=>h.1) (fun cdv A outer s H vs Q E hr h=>?_)
 obtain⟨nb,ds,Φ,hlive,hds,az,hF⟩:=jK h
 obtain⟨p,n,many,es,rfl,hok,q⟩:=hF
 refine⟨_,(@ay _ _ _ _ _ (@aV _ _ (1) _ _ _ _ Af.nd rfl (Or.inl rfl) qj (by rfl) (by first|exact .inl rfl|exact .inr rfl|assumption)) (@ay _ _ _ _ _ (@jd _ _ _ _ _ _ _ _ iA rfl (iz (K:=K) rfl (@cZ _ _ _ _ _ _ _ _ (AB) (QA rfl) rfl kE AO (@aa _ _ _ _ _ (pv 0) aj rfl) (by decide) (by decide) (by rfl) (by rfl))) (bB (i:=2) Af.nd rfl (Or.inl rfl)) (@ay _ _ _ _ _ (@aV _ _ (3) _ _ _ _ Af.nd rfl (Or.inl rfl) (@aF _ _ _ _ _ _ (bU K) cy (@aF _ _ _ _ _ _ (jb) lu (pv 0) (pv 2) (fun _ _=>rfl)) ai (fun _ _=>rfl)) (by rfl) (by first|exact .inl rfl|exact .inr rfl|assumption)) (@aD _ _ _ (@cR _ _ _ _ _ _ _ _ (@bA _ _ _ _ _ _ _ _ (Qp hr.units) (pv 3) (pv 1) (by with_unfolding_all rfl)) (@aD _ _ _ (@gC _ _ _ _ _ _ (@gc _ _ _ _ _ (@aa _ _ _ _ _ (@aF _ _ _ _ _ _ (bU K) cy (@aF _ _ _ _ _ _ (jb) lu (pv 0) (pv 2) (fun _ _=>rfl)) ai (fun _ _=>rfl)) (@aa _ _ _ _ _ (@gc _ _ _ _ _ (@aa _ _ _ _ _ l5 (@aa _ _ _ _ _ (pv 2) aj rfl) rfl)) aj rfl) rfl)) (jf (pv 1) (pv 3) set_dict) (by rfl) (by rfl) (by rfl))) dG))) (by intro _;rfl)) (@aD _ _ _ (@bC _ _ _ _ (pv 1))))),?_⟩
 refine Sv.jG hlive hds az (ρ:=[.d false _, .no, .no, .no]) rfl ?_
 clear az hds
 have hl:=hok.Nr
 refine Sv.seq ?_
 refine Sv.OT (ly.new ?_)
 intro A1
 refine Sv.seq ?_
 refine Sv.forL ?_
 refine aE.ev (aE.IA ?_)
 refine Ev.var rfl ⟨ldK es,rfl,by rw[TR];omega,fun rs hs hp=>?_⟩
 rw[Xu] at hp
 have G9:=EM hok.VJ hs hp
 subst G9
 refine⟨_,rfl,fun v=>⟨fun i ρ=>∃(x2 x3:Sl),ρ=[.d false (.dict ((ldK es).map aG)), .bN A1 true (gP ((fJ es).take i)),x2,x3],⟨_,_,rfl⟩,?_,?_⟩⟩
 ·rintro i d ρ' hi ⟨x2,x3,rfl⟩
  obtain⟨k,hk,rfl⟩:=gJ hi
  obtain⟨t,ht,rfl⟩:=gJ hk
  have hv:=hok.Ur (dg ht)
  have hfl:(gP ((fJ es).take i)).length<=63:=cG (Jz _) (cG (by rw[mH];exact Nat.min_le_right _ _) hl)
  walk_at "dt"
  refine Ev.n9 ?_
  walk_at "dt"
  refine⟨_,rfl,?_⟩
  walk_at "dt"
  refine⟨_,hv,_,rfl,?_⟩
  walk_at "dt"
  refine Ev.Li rfl ?_
  walk_at "dt"
  rw[Bool.bne_true]
  have ef:=XR ht
  unfold pG at ef
  by_cases c:cT (gP ((fJ es).take i)) t.2.1=true
  ·rw[if_pos c] at ef
   rw[c]
   walk_at "dt"
   show∃(x2 x3:Sl),(_:Rh)=[Sl.d false (.dict ((ldK es).map aG)),Sl.bN A1 true (gP ((fJ es).take (i+1))),x2,x3]
   rw[ef]
   exact⟨_,_,rfl⟩
  ·rw[if_neg c] at ef
   rw[Ac] at c
   rw[c]
   generalize iM:(fZ _ (mJ (bf 1) _ _):TS)=tl
   walk_at "dt"
   subst iM
   refine Sv.OG rfl ?_
   refine Ev.DT ?_
   refine Av.cons (Ev.lC (Ev.n9 ?_))
   walk_at "dt"
   refine⟨_,rfl,?_⟩
   walk_at "dt"
   refine⟨_,hv,_,rfl,?_⟩
   walk_at "dt"
   show∃(x2 x3:Sl),(_:Rh)=[Sl.d false (.dict ((ldK es).map aG)),Sl.bN A1 true (gP ((fJ es).take (i+1))),x2,x3]
   rw[ef]
   unfold eX
   rw[c]
   exact⟨_,_,rfl⟩
 ·rintro ρ' ⟨x2,x3,rfl⟩
  rw[show(fJ es).take _=fJ es from sj (by rw[ao,ao];exact aU _)]
  refine Sv.Og 1 rfl ?_
  walk_at "dt"
  exact q
def t7(C:Addr):CF:=fun c ds Φ=>∃(x dx ll lw a0 lc:Addr) (p n many:Int) (es:aR) (cd:Fl) (bs:List Addr) (wd:Wo) (W F:Ks) (g:Int->Option (Int×PyData)),cd.adr=[]/\c=aA C x dx (dY p cd ll lw a0 bs lc wd (cD lw W) (fS n (aH es)) (cW wd (aH es)))/\ds=[.dict (F.map aG)]/\
 aS p n many es/\0<=n/\n<=4000/\wd.length=n.toNat/\W.length<=4000/\F.length<=4000/\bs.length=n.toNat/\qg F g/\(∀a x w,g a=some (x,w)->0<=a/\a<n/\wd[a.toNat]?=some none)/\
 Φ (aA C x dx (dY p cd ll lw a0 bs lc (fV wd g (F.map (·.1))) (cD lw (eS W g (F.map (·.1)))) (fS n (aH es)) (cW (fV wd g (F.map (·.1))) (aH es)))) true .none
theorem Pu{C:Addr}:iV (t7 C):=by
 intro c ds Φ Ψ hm z;revert hm
 walk_at "mo";exact fun q=>z _ _ _ q
theorem Gi:bY ["self","found","place","number"] ["self","found"] (aN sC):=⟨rfl,rfl,rfl,by decide+kernel,rfl,by decide+kernel,by decide+kernel⟩
theorem WB(F:bM K "take" "Finding.take" sC f fd){aJ:Addr}(eK:cg K aJ)(jr:aT K aJ "letters")(kr:aT K aJ "whys")(lH:aT K aJ "having")(jO:aT K aJ "counts"):
  bq P w K mg base bG 1 f fd ["self","found"] (cB 2 (t7 aJ)):=by
 refine F.ok Gi (fun vs H Q E h=>h.1) (fun cdv A outer s H vs Q E hr h=>?_)
 obtain⟨_,nb,c,ws,ds,rfl,hlive,c5,hcf,dM,hds,hF⟩:=h
 obtain⟨Φ,az,hF⟩:∃Φ:Cu->Pd,(∀c' f d v H',Φ c' f d->iJ c c' H H'->c'.P (fun a=>nb a\/a∈c'.F) H'->af (fun a=>nb a\/a∈c'.F\/(f=true/\H a≠none)) H' d v->Q v H')/\t7 aJ c ds Φ:=⟨_,fun c' f d v H' q=>q v H',hF⟩
 obtain⟨x,dx,ll,lw,a0,lc,p,n,many,es,cd,bs,wd,W,F,g,hcd,rfl,rfl,hok,hn0,hn1,hwl,hWl,JW,fY,DN,hg,q⟩:=hF
 refine⟨_,(@aD _ _ _ (@ab3 _ _ _ (@jd _ _ _ _ _ _ _ _ iA rfl (@JO _ _ _ _ (pv 1)) (bB (i:=2) Gi.nd rfl (Or.inl rfl)) (@ay _ _ _ _ _ (@gC _ _ _ _ _ _ (@aF _ _ _ _ _ _ (bU K) cy (@aF _ _ _ _ _ _ (jb) lu (pv 1) (pv 2) (fun _ _=>rfl)) ai (fun _ _=>rfl)) (jf (@cI _ _ _ _ _ (pv 0) rfl) (pv 2) set_list) (by rfl) (by rfl) (by rfl)) (@ay _ _ _ _ _ (@gC _ _ _ _ _ _ (@aF _ _ _ _ _ _ (bU K) cy (@aF _ _ _ _ _ _ (jb) lu (pv 1) (pv 2) (fun _ _=>rfl)) ai (fun _ _=>rfl)) (jf (@cI _ _ _ _ _ (pv 0) rfl) (pv 2) set_dict) (by rfl) (by rfl) (by rfl)) (@aD _ _ _ (@jd _ _ _ _ _ _ _ _ iA rfl (iz (K:=K) rfl (@aF _ _ _ _ _ _ (dS K) cC (@cI _ _ _ _ _ (pv 0) rfl) (pv 2) (fun _ _=>rfl))) (bB (i:=3) Gi.nd rfl (Or.inl rfl)) (@aD _ _ _ (acJ (@cI _ _ _ _ _ (pv 0) rfl) (pv 3) ab4 ai WK set_dict)) (by intro _;rfl))))) (by intro _;rfl)))),?_⟩
 refine Sv.kX hlive c5 hcf dM hds az (ρ:=[.cu _, .d false _, .no, .no]) rfl ?_
 clear az hds
 have hnd:=hok.zc.imp fun z=>Cj z
 have hct:∀t∈aH es,(t.2.1.Pairwise fun a b=>a.1<b.1)/\∀pr∈t.2.1,0<=pr.1:=fun t m=>⟨(hok.uX m).1.2.1,fun pr m'=>((hok.uX m).1.2.2 pr m').1⟩
 have hadr:∀(wd:Wo) (W N:Ks) rs,bH x dx (dY p cd ll lw a0 bs lc wd (cD lw W) rs N)=x::dx::(ll::lw::a0::(bs++[lc])):=fun wd W N rs=>by
  show x::dx::(cd.adr++_)=_
  rw[hcd];rfl
 refine Sv.ZP ?_
 refine Ev.var rfl ⟨F,rfl,fun G' v=>?_⟩
 refine⟨fun i ρ=>∃(x2 x3:Sl),ρ=[.cu (aA aJ x dx (dY p cd ll lw a0 bs lc (fV wd g ((F.take i).map (·.1))) (cD lw (eS W g ((F.take i).map (·.1)))) (fS n (aH es)) (cW (fV wd g ((F.take i).map (·.1))) (aH es)))), .d false (.dict (F.map aG)),x2,x3],?_,?_,?_⟩
 ·refine⟨.no, .no,?_⟩
  rw[uW,vE,abP]
  rfl
 ·rintro i d ρ' ⟨kv,hkv,rfl⟩ ⟨x2,x3,rfl⟩
  obtain⟨a,dv⟩:=kv
  have hil:i<F.length:=(bT.mp hkv).1
  have hval:=uP DN.nd (dg hkv)
  have Mt:=DN.val a
  rw[hval] at Mt
  obtain⟨⟨xl,w⟩,hga,Yi⟩:=jo.mp Mt.symm
  subst Yi
  obtain⟨ha0,ha1,hal⟩:=hg a xl w hga
  have htk:(F.take (i+1)).map (·.1)=(F.take i).map (·.1)++[a]:=by rw[take_snoc hkv,fF];rfl
  have iM:((F.take i).map (·.1)).length=i:=by rw[ao,mH];omega
  generalize hks:(F.take i).map (·.1)=ks at htk iM
  have S8:a∉ks:=by
   rw[<-hks,List.map_take]
   exact HL DN.nd (by rw[bI,hkv];rfl)
  have Zb:(fV wd g ks)[a.toNat]?=some none:=by
   rw[zK (by omega),show((a.toNat:Nat):Int)=a by omega,if_neg S8,lU,hal];rfl
  have hml:(fV wd g ks).length=n.toNat:=by rw[qW,hwl]
  have hwy:=Xj W g ks
  generalize UW:(mP _ (mP _ _):TS)=tl
  walk_at "dt"
  subst UW
  refine Sv.seq (Sv.Uk rfl eK jr rfl ?_)
  refine Ev.lC (Ev.n9 ?_)
  walk_at "dt"
  refine⟨_,rfl,?_⟩
  walk_at "dt"
  refine⟨_,hval,_,rfl,?_⟩
  walk_at "dt"
  refine⟨_,a.toNat,rfl,by unfold gV;rw[if_pos ha0,if_pos (by rw[ao,hml];omega)],?_⟩
  refine Sv.seq (Sv.Bx rfl eK kr rfl ?_)
  refine Ev.lC (Ev.n9 ?_)
  walk_at "dt"
  refine⟨_,rfl,?_⟩
  walk_at "dt"
  refine⟨_,hval,_,rfl,?_⟩
  walk_at "dt"
  have eW:eX (eS W g ks) a w=eS W g (ks++[a]):=(A6 hga).symm
  have eL:(((fV wd g ks).map bF).set a.toNat (.int xl))=(fV wd g (ks++[a])).map bF:=by
   rw[<-HS ha0 (by omega) hga,Ft];rfl
  obtain⟨b,hb⟩:∃b,bs[a.toNat]?=some b:=⟨_,bP (by rw[fY];omega)⟩
  have qA:(fS n (aH es))[a.toNat]?=some (iH (aH es) a):=by
   have:=Nk (n:=n) (ts:=aH es) (k:=0) (prs:=[]) ha0 ha1 (fun _ z=>by cases z)
   rwa[Me] at this
  refine Sv.Sw (i:=0) (f:="having") rfl rfl (qE.ID rfl eK lH rfl ?_)
  walk_at "dt"
  refine⟨_,a.toNat,b,rfl,by unfold gV;rw[if_pos ha0,if_pos (by rw[fY];omega)],hb,a.toNat,_,hb,qA,?_⟩
  refine⟨fun m ρ=>∃(x3:Sl),ρ=[.cu (aA aJ x dx (dY p cd ll lw a0 bs lc (fV wd g (ks++[a])) (cD lw (eS W g (ks++[a]))) (fS n (aH es)) (jm (fV wd g ks) (aH es) a m))), .d false (.dict (F.map aG)), .d true (.int a),x3],?_,?_,?_,?_⟩
  ·refine⟨x3,?_⟩
   rw[VQ,<-eW]
   show _=[Sl.cu (aA aJ x dx [("p", .d (.int p)),("check_deeds",cd),("letters", .cu (kC ll ((fV wd g (ks++[a])).map bF))),_,_,_]),_,_,_]
   rw[<-eL]
   rfl
  ·rintro m ρ' ⟨x3,rfl⟩
   exact⟨_,rfl,rfl⟩
  ·rintro m k ρ' hk ⟨x3,rfl⟩
   obtain⟨v',hv1,hv2⟩:=Vn (wd:=fV wd g ks) hnd hk
   refine Sv.R8 rfl eK jO rfl ?_
   walk_at "dt"
   refine⟨_,_,rfl,hv1,by rw[U1];have:=hok.yG;omega,?_⟩
   show∃(x3:Sl),_
   rw[hv2]
   exact⟨_,rfl⟩
  ·rintro ρ' ⟨x3,rfl⟩
   show∃(x2 x3:Sl),_
   rw[htk,aaM (n:=n) (x:=xl) hnd hct ha0 Zb,HS ha0 (by omega) hga]
   exact⟨_,_,rfl⟩
 ·rintro ρ' ⟨x2,x3,rfl⟩
  rw[jF]
  exact⟨_,rfl,⟨rfl,rfl,fun y m=>by rw[show(aA aJ x dx _).F=_ from hadr _ _ _ _] at m⊢;exact m⟩,q⟩
def tR(C:Addr):RF:=fun c ds Φ=>∃(x dx ll lw a0 lc:Addr) (p n many turn:Int) (es:aR) (bs:List Addr) (wd:Wo) (W:Cu) (rs:List (List Int)),c=aA C x dx (dY p (.d (.dict ((aY es).map aG))) ll lw a0 bs lc wd W rs (cW wd (aH es)))/\ds=[.int turn]/\
 aS p n many es/\gp p/\p<10^40/\0<=n/\n<=4000/\wd.length=n.toNat/\nU wd/\Φ true (.dict ((gv p wd turn (fu wd (aH es))).map aG))
theorem abe{C:Addr}:vI (tR C):=by
 intro c ds Φ Ψ hm z;revert hm
 walk_at "mo";exact fun q=>z _ _ q
theorem uv:bY ["self","turn","found","number","deed","told"] ["self","turn"] (aN p9):=⟨rfl,rfl,rfl,by decide+kernel,rfl,by decide+kernel,by decide+kernel⟩
theorem abZ(F:bM K "found_in" "Finding.found_in" p9 f fd){aJ:Addr}(eK:cg K aJ)(jO:aT K aJ "counts")(nh:aT K aJ "check_deeds")(m9:aT K aJ "p")(jr:aT K aJ "letters")(YU:Callee P w K mg base "told_for" 3 ["p","pairs","rest","word"] (cK 4 CZ)):
  bq P w K mg base bG 4 f fd ["self","turn"] (lq 2 (tR aJ)):=by
 refine F.ok uv (fun vs H Q E h=>h.1) (fun cdv A outer s H vs Q E hr h=>?_)
 obtain⟨nb,c,ws,ds,Φ,rfl,hlive,c5,dM,hds,az,hF⟩:=Ju h
 obtain⟨x,dx,ll,lw,a0,lc,p,n,many,turn,es,bs,wd,W,rs,rfl,rfl,hok,hp,oM,hn0,hn1,hwl,hW,q⟩:=hF
 obtain⟨XU,aaZ⟩:=Xd dM c5
 clear dM c5
 have dM:=XU
 have c5:=aaZ
 rw[show(aA aJ x dx (dY p (.d (.dict ((aY es).map aG))) ll lw a0 bs lc wd W rs (cW wd (aH es)))).v=(aA aJ x dx (mK p (.dict ((aY es).map aG)) wd W.v (.ref a0) (cW wd (aH es)))).v from rfl]
 refine⟨_,(@ay _ _ _ _ _ (@aV _ _ (2) _ _ _ _ uv.nd rfl (Or.inl rfl) qj (by rfl) (by first|exact .inl rfl|exact .inr rfl|assumption)) (@ay _ _ _ _ _ (@jd _ _ _ _ _ _ _ _ iA rfl (iz (K:=K) rfl (@T5 _ _ _ (jX (gF.of (show iU (aN p9) ["self","turn","found","number","deed","told"] _ ["other","self"] [none,some 0]=true by decide+kernel)) (@JO _ _ _ _ (@cI _ _ _ _ _ (pv 0) rfl)) (fun _ _ _ _=>⟨(bB (i:=0) (by show List.Nodup (["other","self"]:List Str);decide+kernel) rfl (Or.inl rfl)),(pZ (@bA _ _ _ _ _ _ _ _ gX (@aF _ _ _ _ _ _ (jb) lu (VL (K:=K) rfl (pv 1) rfl) (pv 0) (fun _ _=>rfl)) ai (br _))),(pv 0)⟩)))) (bB (i:=3) uv.nd rfl (Or.inl rfl)) (@ay _ _ _ _ _ (@aV _ _ (4) _ _ _ _ uv.nd rfl (Or.inl rfl) (@aF _ _ _ _ _ _ (jb) lu (@cI _ _ _ _ _ (pv 0) rfl) (pv 3) (fun _ _=>rfl)) (by rfl) (by first|exact .inl rfl|exact .inr rfl|assumption)) (@ay _ _ _ _ _ (@aV _ _ (5) _ _ _ _ uv.nd rfl (Or.inl rfl) (@bw _ _ _ _ _ _ _ _ _ _ YU (hr.mono (by decide)) (@aa _ _ _ _ _ (@cI _ _ _ _ _ (pv 0) rfl) (@aa _ _ _ _ _ (@aF _ _ _ _ _ _ (bU K) cy (pv 4) ai (fun _ _=>rfl)) (@aa _ _ _ _ _ (@aF _ _ _ _ _ _ (bU K) cy (pv 4) ai (fun _ _=>rfl)) (@aa _ _ _ _ _ (@cI _ _ _ _ _ (pv 0) rfl) aj rfl) rfl) rfl) rfl) (by rfl) (by decide) (by rfl) (by rfl)) (by rfl) (by first|exact .inl rfl|exact .inr rfl|assumption)) (@aD _ _ _ (@cR _ _ _ _ _ _ _ _ (@bA _ _ _ _ _ _ _ _ (Qp hr.units) (@aF _ _ _ _ _ _ (bU K) cy (pv 5) ai (fun _ _=>rfl)) (pv 2) (by with_unfolding_all rfl)) (@aD _ _ _ (@gC _ _ _ _ _ _ (@gc _ _ _ _ _ (@aa _ _ _ _ _ (@aF _ _ _ _ _ _ (bU K) cy (pv 5) ai (fun _ _=>rfl)) (@aa _ _ _ _ _ (@gc _ _ _ _ _ (@aa _ _ _ _ _ l5 (@aa _ _ _ _ _ (pv 3) (@aa _ _ _ _ _ (pv 1) aj rfl) rfl) rfl)) aj rfl) rfl)) (jf (pv 2) (@aF _ _ _ _ _ _ (bU K) cy (pv 5) ai (fun _ _=>rfl)) set_dict) (by rfl) (by rfl) (by rfl))) dG)))) (by intro _;rfl)) (@aD _ _ _ (@bC _ _ _ _ (pv 2))))),?_⟩
 refine Sv.Pw hlive c5 dM hds az (ρ:=[.raw _, .d false _, .no, .no, .no, .no]) rfl ?_
 clear az hds
 have hm:(false,HD.th (aA aJ x dx (mK p (.dict ((aY es).map aG)) wd W.v (.ref a0) (cW wd (aH es)))),V.ref x)∈(pD H nb (aA aJ x dx (mK p (.dict ((aY es).map aG)) wd W.v (.ref a0) (cW wd (aH es))))).hold:=aK.mpr rfl
 have hl:=hok.yG
 have hnd:=hok.zc.imp fun z=>Cj z
 refine Sv.seq ?_
 refine Sv.OT (ly.new ?_)
 intro A2
 refine Sv.seq ?_
 refine Sv.forL ?_
 refine aE.ev (aE.Rb (by decide) rfl (fun f c v m=>?_) ?_)
 ·cases aK.mp m
  exact Rn
 refine Ev.uU rfl hm eK jO rfl .d ?_
 refine⟨cW wd (aH es),rfl,by rw[Hv];omega,fun G' Vh=>?_⟩
 have acW:∀t∈aH es,bZ (cW wd (aH es)) t.1=some (.int ((bK wd t.2.1).length:Int)):=fun t m=>uP (by rw[Om];exact hnd) (c9.mpr ⟨t,m,rfl⟩)
 have abV:∀(l:List CT) (t:CT),fu wd (l++[t])=fu wd l++if(bK wd t.2.1).length=1 then[t] else[]:=fun l t=>by
  unfold fu
  rw[qq,mS]
  by_cases c:(bK wd t.2.1).length=1<;>simp[c]
 refine⟨false,fun i ds=>ds=((fu wd ((aH es).take i)).map (·.1)).map .int,rfl,?_,?_⟩
 ·rintro i d ds ⟨kv,hkv,rfl⟩ hl' rfl
  obtain⟨t,ht,rfl⟩:=gJ hkv
  have hmt:=dg ht
  refine Gv.name ?_
  refine⟨by walk_at "wk",?_⟩
  refine Tv.test ?_
  refine Ev.eq (Ev.n9 (Ev.uU rfl (Vh _ hm) eK jO rfl .d ⟨_,rfl,?_⟩))
  walk_at "dt"
  refine⟨_,acW t hmt,?_⟩
  walk_at "dt"
  have hs2:=abV ((aH es).take i) t
  rw[<-take_snoc ht] at hs2
  by_cases c:(bK wd t.2.1).length=1
  ·rw[if_pos (decide_eq_true (by omega))]
   rw[if_pos c] at hs2
   walk_at "dt"
   show _=_
   rw[hs2,fF,fF]
   rfl
  ·rw[if_neg (by rw[decide_eq_true_iff];omega)]
   rw[if_neg c,gH] at hs2
   show _=_
   rw[hs2]
 ·rintro ds hl' rfl
  rw[Hv,jF,show fL (((fu wd (aH es)).map (·.1)).map PyData.int)=true from pN.mpr fun y m=>by obtain⟨k,_,rfl⟩:=c9.mp m;rfl]
  have h1:∀t∈fu wd (aH es),t∈aH es/\(bK wd t.2.1).length=1:=fun t m=>by
   obtain⟨g1,g2⟩:=jh.mp m
   exact⟨g1,by simpa using g2⟩
  have nL:(fu wd (aH es)).length<=4000:=cG (nM _ _) (cG hl (by decide))
  refine⟨_,rfl,fun v=>⟨fun i ρ=>∃(x3 x4 x5:Sl),ρ=[.raw (.ref x), .d false (.int turn), .bN A2 true (gv p wd turn ((fu wd (aH es)).take i)),x3,x4,x5],⟨_,_,_,rfl⟩,?_,?_⟩⟩
  ·rintro i d ρ' hi ⟨x3,x4,x5,rfl⟩
   obtain⟨k,hk,rfl⟩:=gJ hi
   obtain⟨t,ht,rfl⟩:=gJ hk
   obtain⟨hmt,hone⟩:=h1 t (dg ht)
   obtain⟨hck,hr0,hr1⟩:=hok.uX hmt
   have hv:=hok.Jk hmt
   obtain⟨⟨a,xl⟩,hax⟩:=VG (p:=p) (r:=t.2.2) hone
   have hpl:=zH hck
   have hfl:(gv p wd turn ((fu wd (aH es)).take i)).length<=4000:=cG (Pz _ _ _ _) (cG (by rw[mH];exact Nat.min_le_right _ _) nL)
   have ef:gv p wd turn ((fu wd (aH es)).take (i+1))=pP p wd turn (gv p wd turn ((fu wd (aH es)).take i)) t:=by rw[take_snoc ht,Bj]
   unfold pP at ef
   rw[hax] at ef
   dsimp only at ef
   have hm2:∀{y:Bool×HD×V},(false,HD.th (aA aJ x dx (mK p (.dict ((aY es).map aG)) wd W.v (.ref a0) (cW wd (aH es)))),V.ref x)∈y::(pD H nb (aA aJ x dx (mK p (.dict ((aY es).map aG)) wd W.v (.ref a0) (cW wd (aH es))))).hold:=fun{y}=>bX _ hm
   generalize iM:(mP (fZ (iF _ _ _ _) _) _:TS)=tl
   refine Gv.name ?_
   refine Sv.seq (Sv.asg (Ev.n9 (Ev.uU rfl hm2 eK nh rfl .d ⟨_,rfl,?_⟩)))
   walk_at "dt"
   refine⟨_,hv,?_⟩
   walk_at "dt"
   subst iM
   refine Sv.seq (Sv.asg (Ev.gG XX ?_))
   refine Av.cons (Ev.uU rfl hm2 eK m9 rfl .d ?_)
   walk_at "dt"
   refine Ev.uU rfl hm2 eK jr rfl .d ?_
   walk_at "dt"
   refine⟨rfl,p,t.2.2,t.2.1,wd,rfl,hp,oM,hr0,hr1,by omega,fun pr m=>?_,fun pr m=>?_,hW,?_⟩
   ·obtain⟨g0,g1,g2,g3⟩:=hck.2.2 pr m
    exact⟨g0,by omega,by unfold Sm;omega⟩
   ·obtain⟨g0,g1,g2,g3⟩:=hck.2.2 pr m
    rw[GP (by omega) g3];omega
   rw[hax]
   show Gv _ _ _ _ (PyData.tuple [.int a, .int xl]) _
   refine Gv.name ?_
   generalize iM:(fZ _ (mJ (bf 2) _ _):TS)=tl
   walk_at "dt"
   refine Ev.Li rfl ?_
   walk_at "dt"
   rw[Bool.bne_true]
   by_cases c:cT (gv p wd turn ((fu wd (aH es)).take i)) a=true
   ·rw[if_pos c] at ef
    rw[c]
    walk_at "dt"
    show∃(x3 x4 x5:Sl),(_:Rh)=[Sl.raw (.ref x),Sl.d false (.int turn),Sl.bN A2 true (gv p wd turn ((fu wd (aH es)).take (i+1))),x3,x4,x5]
    rw[ef]
    exact⟨_,_,_,rfl⟩
   ·rw[if_neg c] at ef
    rw[Ac] at c
    rw[c]
    walk_at "dt"
    subst iM
    refine Sv.OG rfl ?_
    refine Ev.DT ?_
    walk_at "dt"
    show∃(x3 x4 x5:Sl),(_:Rh)=[Sl.raw (.ref x),Sl.d false (.int turn),Sl.bN A2 true (gv p wd turn ((fu wd (aH es)).take (i+1))),x3,x4,x5]
    rw[ef]
    unfold eX
    rw[c]
    exact⟨_,_,_,rfl⟩
  ·rintro ρ' ⟨x3,x4,x5,rfl⟩
   rw[show(fu wd (aH es)).take _=fu wd (aH es) from sj (by rw[ao,ao];exact aU _)]
   refine Sv.Og 2 rfl ?_
   walk_at "dt"
   exact q
def uG(C:Addr):CF:=fun c ds Φ=>∃(x dx:Addr) (p n many:Int) (es:aR) (R:Addr->Prop),c=aA C x dx []/\ds=[.int p, .int n, .dict ((aY es).map aG)]/\aS p n many es/\0<=n/\n<=4000/\
 ∀(ll lw a0 lc:Addr) (bs:List Addr),bs.length=n.toNat->Φ (aA C x dx (dY p (.d (.dict ((aY es).map aG))) ll lw a0 bs lc (List.replicate n.toNat none) (gU R lw []) (fS n (aH es)) (cW (List.replicate n.toNat none) (aH es)))) true .none
theorem Vi{C:Addr}:iV (uG C):=by
 intro c ds Φ Ψ hm z;revert hm
 walk_at "mo";exact fun q=>fun ll lw a0 lc bs hb=>z _ _ _ (q ll lw a0 lc bs hb)
theorem zJ:bY ["self","p","n","check_deeds","number","place","factor"] ["self","p","n","check_deeds"] (aN oZ):=⟨rfl,rfl,rfl,by decide+kernel,rfl,by decide+kernel,by decide+kernel⟩
theorem acv(F:bM K "__init__" "Finding.__init__" oZ f fd){aJ:Addr}(eK:cg K aJ)(m9:aT K aJ "p")(nh:aT K aJ "check_deeds")(jr:aT K aJ "letters")(kr:aT K aJ "whys")(lH:aT K aJ "having")(jO:aT K aJ "counts")(kE:mg "sorted"=none)(c8:mg "len"=none)(eB:mg "range"=none):
  bq P w K mg base bG 1 f fd ["self","p","n","check_deeds"] (cB 4 (uG aJ)):=by
 refine F.ok zJ (fun vs H Q E h=>h.1) (fun cdv A outer s H vs Q E hr h=>?_)
 obtain⟨_,nb,c,ws,ds,rfl,hlive,c5,hcf,dM,hds,hF⟩:=h
 obtain⟨Φ,az,hF⟩:∃Φ:Cu->Pd,(∀c' f d v H',Φ c' f d->iJ c c' H H'->c'.P (fun a=>nb a\/a∈c'.F) H'->af (fun a=>nb a\/a∈c'.F\/(f=true/\H a≠none)) H' d v->Q v H')/\uG aJ c ds Φ:=⟨_,fun c' f d v H' q=>q v H',hF⟩
 obtain⟨x,dx,p,n,many,es,R,rfl,rfl,hok,hn0,hn1,q⟩:=hF
 refine⟨_,(@ay _ _ _ _ _ (@je _ _ _ _ _ _ _ _ (pv 0) (pv 1) rfl) (@ay _ _ _ _ _ (@je _ _ _ _ _ _ _ _ (pv 0) (pv 3) rfl) (@ay _ _ _ _ _ (@je _ _ _ _ _ _ _ _ (pv 0) (@aM _ _ _ _ _ _ _ _ Fc (@iw _ _ _ _ (@aa _ _ _ _ _ iD aj rfl)) (pv 2)) rfl) (@ay _ _ _ _ _ (@je _ _ _ _ _ _ _ _ (pv 0) qj rfl) (@ay _ _ _ _ _ (@je _ _ _ _ _ _ _ _ (pv 0) (jX (gF.of (show iU (aN oZ) ["self","p","n","check_deeds","number","place","factor"] _ ["place"] [none]=true by decide+kernel)) (@o7 _ _ _ _ _ _ rfl eB (@aa _ _ _ _ _ (pv 2) aj rfl) (by rfl)) (fun _ _ _ _=>⟨(bB (i:=0) (by show List.Nodup (["place"]:List Str);decide+kernel) rfl (Or.inl rfl)),oh,(@iw _ _ _ _ aj)⟩)) rfl) (@ay _ _ _ _ _ (@je _ _ _ _ _ _ _ _ (pv 0) qj rfl) (@aD _ _ _ (@jd _ _ _ _ _ _ _ _ iA rfl (iz (K:=K) rfl (@cZ _ _ _ _ _ _ _ _ (AB) (QA rfl) rfl kE AO (@aa _ _ _ _ _ (pv 3) aj rfl) (by decide) (by decide) (by rfl) (by rfl))) (bB (i:=4) zJ.nd rfl (Or.inl rfl)) (@ay _ _ _ _ _ (@gC _ _ _ _ _ _ (@cZ _ _ _ _ _ _ _ _ (iB K) jq rfl c8 jl (@aa _ _ _ _ _ (@aF _ _ _ _ _ _ (bU K) cy (@aF _ _ _ _ _ _ (jb) lu (pv 3) (pv 4) (fun _ _=>rfl)) ai (fun _ _=>rfl)) aj rfl) (by decide) (by decide) (by rfl) (by rfl)) (jf (@cI _ _ _ _ _ (pv 0) rfl) (pv 4) set_dict) (by rfl) (by rfl) (by rfl)) (@aD _ _ _ (@jd _ _ _ _ _ _ _ _ iA rfl (iz (K:=K) rfl (@aF _ _ _ _ _ _ (bU K) cy (@aF _ _ _ _ _ _ (jb) lu (pv 3) (pv 4) (fun _ _=>rfl)) ai (fun _ _=>rfl))) (@jM _ (K) _ _ _ (2) _ rfl rfl (@dj _ _ _ _ _ (bB (i:=5) zJ.nd rfl (Or.inl rfl)) (@dj _ _ _ _ _ (bB (i:=6) zJ.nd rfl (Or.inl rfl)) jx (by rfl)) (by rfl)) (by rfl) (by rfl)) (@aD _ _ _ (@jV _ _ _ _ (nI qT tW uw rO (@aF _ _ _ _ _ _ (dS K) cC (@cI _ _ _ _ _ (pv 0) rfl) (pv 5) (fun _ _=>rfl)) (@aa _ _ _ _ _ (pv 4) aj rfl)) (by rfl))) (by intro _;rfl)))) (by intro _;rfl))))))))),?_⟩
 refine Sv.kX hlive c5 hcf dM hds az (ρ:=[.cu _, .d false _, .d false _, .d false _, .no, .no, .no]) rfl ?_
 clear az hds
 have hl:=hok.yG
 refine Sv.seq (Sv.jN rfl eK m9 (.inl rfl) (iy rfl) ?_)
 walk_at "dt"
 refine Sv.jN rfl eK nh (.inl rfl) (iy rfl) ?_
 walk_at "dt"
 refine Sv.aaK rfl eK jr rfl (iy rfl) ?_
 refine aE.Si ?_
 walk_at "dt"
 intro gg ll
 refine Sv.seq (Sv.RE (R:=R) rfl eK kr rfl (iy rfl) fun lw=>?_)
 refine Sv.seq (Sv.acB rfl eK lH rfl (iy rfl) ?_)
 refine Bw.ack ?_
 walk_at "dt"
 refine⟨List.replicate n.toNat [],by rw[Gp];rfl,fun a0 bs fY=>?_⟩
 refine Sv.seq (Sv.Dn rfl eK jO rfl (iy rfl) (ly.new fun lc=>?_))
 refine Sv.forL ?_
 refine aE.ev (aE.IA ?_)
 refine Ev.var rfl ⟨aY es,rfl,by rw[Vo];omega,fun rs hs hp=>?_⟩
 rw[Y4] at hp
 have G9:=EM hok.zc hs hp
 subst G9
 rw[rj] at fY
 refine⟨_,rfl,fun v=>⟨fun i ρ=>∃(x4 x5 x6:Sl),ρ=[.cu (aA aJ x dx (dY p (.d (.dict ((aY es).map aG))) ll lw a0 bs lc (List.replicate n.toNat none) (gU R lw []) (fS n ((aH es).take i)) (cW (List.replicate n.toNat none) ((aH es).take i)))), .d false (.int p), .d false (.int n), .d false (.dict ((aY es).map aG)),x4,x5,x6],?_,?_,?_⟩⟩
 ·refine⟨.no, .no, .no,?_⟩
  show _=[Sl.cu (aA aJ x dx [("p", .d (.int p)),("check_deeds", .d (.dict ((aY es).map aG))),("letters", .cu (kC ll ((List.replicate n.toNat (none:Option Int)).map bF))),("whys", .cu (gU R lw [])),("having", .cu (jR a0 bs (fS n []))),("counts", .cu (cD lc []))]),_,_,_,_,_,_]
  rw[aal,Gp]
  rfl
 ·rintro i d ρ' hi ⟨x4,x5,x6,rfl⟩
  obtain⟨k,hk,rfl⟩:=gJ hi
  obtain⟨t,ht,rfl⟩:=gJ hk
  have hv:=hok.Jk (dg ht)
  obtain⟨hck,hr0,hr1⟩:=hok.uX (dg ht)
  have hpl:=zH hck
  have hil:i<(aH es).length:=(bT.mp ht).1
  have iM:((aH es).take i).length=i:=by rw[mH];omega
  have hnew:cT (cW (List.replicate n.toNat none) ((aH es).take i)) t.1=false:=by
   rw[<-Ac,lg,Om]
   intro m
   obtain⟨u,hu,e⟩:=c9.mp m
   obtain⟨j,hj⟩:=qd hu
   rw[Dr] at hj
   split at hj
   ·rename_i c
    have h1:=Fw.mp hok.zc j i (by rw[ao];omega) (by rw[ao];exact hil) c
    rw[List.getElem_map,List.getElem_map] at h1
    have e1:=(bT.mp hj).2
    have e2:=(bT.mp ht).2
    rw[e1,e2,e] at h1
    omega
   ·cases hj
  generalize iM:(mP (fZ _ (mJ _ _ _)) _:TS)=tl
  walk_at "dt"
  subst iM
  refine Sv.seq (Sv.Bx rfl eK jO rfl ?_)
  refine Ev.G2 (Ev.lC (Ev.n9 ?_))
  walk_at "dt"
  refine⟨_,rfl,?_⟩
  walk_at "dt"
  refine⟨_,hv,_,rfl,?_⟩
  walk_at "dt"
  refine⟨by rw[Hv,iM];omega,?_⟩
  refine Sv.forL (Ev.lC (Ev.n9 ?_))
  walk_at "dt"
  refine⟨_,rfl,?_⟩
  walk_at "dt"
  refine⟨_,hv,_,rfl,?_⟩
  walk_at "dt"
  intro v2
  have hN:eX (cW (List.replicate n.toNat none) ((aH es).take i)) t.1 (.int ((t.2.1.map pairD).length:Int))=cW (List.replicate n.toNat none) ((aH es).take (i+1)):=by
   rw[wg (by rw[hnew];decide),take_snoc ht]
   unfold cW
   rw[fF,ao]
   show _=_++[(t.1,PyData.int ((bK (List.replicate n.toNat none) t.2.1).length:Int))]
   rw[abE fun pr m=>⟨(hck.2.2 pr m).1,(hck.2.2 pr m).2.1⟩]
  rw[hN]
  refine⟨fun j ρ=>∃(x5 x6:Sl),ρ=[.cu (aA aJ x dx (dY p (.d (.dict ((aY es).map aG))) ll lw a0 bs lc (List.replicate n.toNat none) (gU R lw []) (mq n ((aH es).take i) t.1 (t.2.1.take j)) (cW (List.replicate n.toNat none) ((aH es).take (i+1))))), .d false (.int p), .d false (.int n), .d false (.dict ((aY es).map aG)), .d true (.int t.1),x5,x6],?_,?_,?_⟩
  ·refine⟨x5,x6,?_⟩
   rw[uW,Me]
   rfl
  ·rintro j d ρ' hj ⟨x5,x6,rfl⟩
   obtain⟨pr,eV,rfl⟩:=gJ hj
   obtain⟨g0,g1,_⟩:=hck.2.2 pr (dg eV)
   have hjl:j<t.2.1.length:=(bT.mp eV).1
   have hne:∀q∈t.2.1.take j,q.1≠pr.1:=fun q m=>by
    obtain⟨j',hj'⟩:=qd m
    rw[Dr] at hj'
    split at hj'
    ·rename_i c
     have:=Fw.mp hck.2.1 j' j (by omega) hjl c
     rw[(bT.mp hj').2,(bT.mp eV).2] at this
     omega
    ·cases hj'
   have hb:∃b,bs[pr.1.toNat]?=some b:=⟨_,bP (by rw[fY];omega)⟩
   obtain⟨b,hb⟩:=hb
   generalize iM:(nB _:TS)=tl
   walk_at "dt"
   subst iM
   refine Sv.Ug (i:=0) (f:="having") rfl rfl (qE.ID rfl eK lH rfl ?_)
   walk_at "dt"
   refine⟨_,pr.1.toNat,b,rfl,by unfold gV;rw[if_pos g0,if_pos (by rw[fY];omega)],hb,pr.1.toNat,_,hb,Nk g0 g1 hne,oq (abL _ _) (by rw[iM];omega),?_⟩
   walk_at "dt"
   show∃(x5 x6:Sl),_
   rw[Vy g0 g1 hne,<-take_snoc eV]
   exact⟨_,_,rfl⟩
  ·rintro ρ' ⟨x5,x6,rfl⟩
   rw[ao,jF,abw,<-take_snoc ht]
   exact⟨_,_,_,rfl⟩
 ·rintro ρ' ⟨x4,x5,x6,rfl⟩
  rw[show(aH es).take _=aH es from sj (by rw[ao,ao];exact aU _)]
  exact⟨_,rfl,⟨rfl,rfl,fun a m=>by
   rcases aL.mp (show a∈x::dx::[] from m) with h|h
   ·rw[h];exact cA
   ·rw[aK.mp h];exact bX _ cA⟩,q ll lw a0 lc bs fY⟩
def Em(_C:Addr):DF:=fun ds Φ=>∃(p n many:Int) (es:aR),ds=[.int p, .int n, .dict ((ldK es).map aG), .dict ((aY es).map aG)]/\aS p n many es/\gp p/\p<10^40/\0<=n/\n<=4000/\∀d,rD p n es d->Φ true d
theorem aa1{C:Addr}:fq (Em C):=by
 intro ds Φ Ψ hm z;revert hm
 walk_at "mo";exact fun q=>fun d hd=>z _ _ (q d hd)
theorem rT:bY ["p","n","letter_deeds","check_deeds","finding","turn","found"] ["p","n","letter_deeds","check_deeds"] (aN Dp):=⟨rfl,rfl,rfl,by decide+kernel,rfl,by decide+kernel,by decide+kernel⟩
theorem WD(F:bM K "found_by" "found_by" Dp f fd){aJ:Addr}(eK:cg K aJ)(jr:aT K aJ "letters")(kr:aT K aJ "whys")(HC:ff P w K mg base aJ "take" 1 ["self","found"] (cB 2 (t7 aJ)))(L7:ff P w K mg base aJ "found_in" 4 ["self","turn"] (lq 2 (tR aJ)))(TZ:tu P w K mg base aJ "Finding" 1 ["self","p","n","check_deeds"] (cB 4 (uG aJ)))(aau:Callee P w K mg base "first_found" 1 ["letter_deeds"] (cK 1 C7)):
  bq P w K mg base bG 5 f fd ["p","n","letter_deeds","check_deeds"] (cK 4 (Em aJ)):=by
 refine F.ok rT (fun vs H Q E h=>h.1) (fun cdv A outer s H vs Q E hr h=>?_)
 obtain⟨nb,ds,Φ,hlive,hds,az,hF⟩:=jK h
 obtain⟨p,n,many,es,rfl,hok,hp,oM,hn0,hn1,q⟩:=hF
 refine⟨_,(@ay _ _ _ _ _ (@aV _ _ (4) _ _ _ _ rT.nd rfl (Or.inl rfl) (@Oj _ _ _ _ _ _ _ _ _ _ _ TZ (hr.mono (by decide)) (@aa _ _ _ _ _ (pv 0) (@aa _ _ _ _ _ (pv 1) (@aa _ _ _ _ _ (pv 3) aj rfl) rfl) rfl) (by rfl) (by decide) (by rfl) (by rfl)) (by rfl) (by first|exact .inl rfl|exact .inr rfl|assumption)) (@ay _ _ _ _ _ (@jV _ _ _ _ (@oB _ _ _ _ _ _ _ _ _ _ _ _ _ _ HC (pv 4) (hr.mono (by decide)) (@aa _ _ _ _ _ (@bw _ _ _ _ _ _ _ _ _ _ aau (hr.mono (by decide)) (@aa _ _ _ _ _ (pv 2) aj rfl) (by rfl) (by decide) (by rfl) (by rfl)) aj rfl) (by rfl) (by rfl) (by rfl)) (by rfl)) (@ay _ _ _ _ _ (@aV _ _ (5) _ _ _ _ rT.nd rfl (Or.inl rfl) ai (by rfl) (by first|exact .inl rfl|exact .inr rfl|assumption)) (@ay _ _ _ _ _ (@aV _ _ (6) _ _ _ _ rT.nd rfl (Or.inl rfl) (@oB _ _ _ _ _ _ _ _ _ _ _ _ _ _ L7 (pv 4) (hr.mono (by decide)) (@aa _ _ _ _ _ (pv 5) aj rfl) (by rfl) (by rfl) (by rfl)) (by rfl) (by first|exact .inl rfl|exact .inr rfl|assumption)) (@ay _ _ _ _ _ (@E8 _ _ _ _ _ _ iA (@bA _ _ _ _ _ _ _ _ (RG hr.units) (pv 6) qj (br _)) (@ay _ _ _ _ _ (@jV _ _ _ _ (@oB _ _ _ _ _ _ _ _ _ _ _ _ _ _ HC (pv 4) (hr.mono (by decide)) (@aa _ _ _ _ _ (pv 6) aj rfl) (by rfl) (by rfl) (by rfl)) (by rfl)) (@ay _ _ _ _ _ (@aV _ _ (5) _ _ _ _ rT.nd rfl (Or.inl rfl) (@aM _ _ _ _ _ _ _ _ gu (pv 5) ai) (by rfl) (by first|exact .inl rfl|exact .inr rfl|assumption)) (@aD _ _ _ (@aV _ _ (6) _ _ _ _ rT.nd rfl (Or.inl rfl) (@oB _ _ _ _ _ _ _ _ _ _ _ _ _ _ L7 (pv 4) (hr.mono (by decide)) (@aa _ _ _ _ _ (pv 5) aj rfl) (by rfl) (by rfl) (by rfl)) (by rfl) (by first|exact .inl rfl|exact .inr rfl|assumption)))))) (@aD _ _ _ (@bC _ _ _ _ (@gc _ _ _ _ _ (@aa _ _ _ _ _ (@cI _ _ _ _ _ (pv 4) rfl) (@aa _ _ _ _ _ (@cI _ _ _ _ _ (pv 4) rfl) aj rfl) rfl))))))))),?_⟩
 refine Sv.jG hlive hds az (ρ:=[.d false _, .d false _, .d false _, .d false _, .no, .no, .no]) rfl ?_
 clear az hds
 have hp0:0<p:=by have:=hp.1;omega
 refine Sv.seq (Sv.make Vi ?_)
 walk_at "dt"
 refine⟨rfl,fun x dx=>⟨x,dx,p,n,many,es,fun a=>H a≠none,rfl,rfl,hok,hn0,hn1,fun ll lw a0 lc bs fY=>⟨rfl,?_⟩⟩⟩
 have Ow:∀(wd:Wo) (W:Ks) (S:Addr->Prop) (H':Hp),(aA aJ x dx (dY p (.d (.dict ((aY es).map aG))) ll lw a0 bs lc wd (gU (fun a=>H a≠none) lw W) (fS n (aH es)) (cW wd (aH es)))).P S H'->∃v,af S H' (.dict ((aY es).map aG)) v/\(aA aJ x dx (dY p (.cu (mZ v)) ll lw a0 bs lc wd (cD lw W) (fS n (aH es)) (cW wd (aH es)))).P (fun a=>S a\/H a≠none) H':=fun wd W S H' h=>T7 (Vg wd (aH es)) h
 refine Sv.seq (Sv.D7 (bW.Ou (D:= .dict ((aY es).map aG)) (cp:=fun v=>aA aJ x dx (dY p (.cu (mZ v)) ll lw a0 bs lc (List.replicate n.toNat none) (cD lw []) (fS n (aH es)) (cW (List.replicate n.toNat none) (aH es)))) Pu rfl rfl (aA.is rfl) (fun v=>⟨rfl,rfl,rfl⟩) (Ow _ _) ?_))
 refine Av.cons (Ev.gG ZF ?_)
 walk_at "dt"
 refine⟨rfl,p,n,many,es,rfl,hok,?_⟩
 walk_at "dt"
 refine⟨rfl,rfl,fun v=>?_⟩
 have QT:∀a xl w,((dB es a).map fun x=>(x.2,jC x.1))=some (xl,w)->0<=a/\a<n/\(List.replicate n.toNat (none:Option Int))[a.toNat]?=some none:=fun a xl w e=>by
  obtain⟨kx,e2,_⟩:=jo.mp e
  obtain⟨g0,g1,_⟩:=hok.Co e2
  exact⟨g0,g1,by rw[eY,if_pos (by omega)]⟩
 refine⟨x,dx,ll,lw,a0,lc,p,n,many,es, .cu (mZ v),bs,_,[],gP (fJ es),_,rfl,rfl,rfl,hok,hn0,hn1,rj,g8 _,cG (Jz _) (cG hok.Nr (by decide)),fY,wm es,QT,?_⟩
 obtain⟨p1,p2⟩:=Yw hn0 hok
 have J3:=J4 (W:=[]) (g:=fun a=>(dB es a).map fun x=>(x.2,jC x.1)) .nil _ (L6 (fJ es)) fun a m=>⟨((wm es).key a).mp m,fun z=>by cases z⟩
 rw[p1]
 generalize hW:eS [] (fun a=>(dB es a).map fun x=>(x.2,jC x.1)) ((gP (fJ es)).map (·.1))=W0 at p2 J3
 refine⟨aA aJ x dx (dY p (.d (.dict ((aY es).map aG))) ll lw a0 bs lc (er n es).wd (gU (fun a=>H a≠none) lw W0) (fS n (aH es)) (cW (er n es).wd (aH es))),rfl,rfl,rfl,rfl,fun S H' h1 h2=>OY h1 h2,?_⟩
 walk_at "dt"
 have Fe:∀t,nU (bJ p n es t).wd:=fun t x m=>by
  obtain⟨_,_,g⟩:=nZ hp0 hok t
  have:=g x m
  unfold Sm;omega
 have hcall:∀{ρ:Rh} {t:Nat} {W:Ks} {Ds:Pd},ρ[4]?=some (.cu (aA aJ x dx (dY p (.d (.dict ((aY es).map aG))) ll lw a0 bs lc (bJ p n es t).wd (gU (fun a=>H a≠none) lw W) (fS n (aH es)) (cW (bJ p n es t).wd (aH es)))))->ρ[5]?=some (.d true (.int ((t:Int)+1)))->Ds true (.dict ((gv p (bJ p n es t).wd ((t:Int)+1) (fu (bJ p n es t).wd (aH es))).map aG))->Ev ⟨none,H,nb,[]⟩ ρ (kP aJ "found_in" (lq 2 (tR aJ)) [] E0 (bf 4) (aX (bf 5) bE)) Ds:=fun{ρ t W Ds} e4 e5 az=>by
  refine Ev.DM abe e4 rfl (aA.is rfl) ?_
  refine fh.cons (Ev.var e5 ?_)
  refine fh.nil ?_
  exact⟨rfl,x,dx,ll,lw,a0,lc,p,n,many,(t:Int)+1,es,bs,_,_,_,rfl,rfl,hok,hp,oM,hn0,hn1,(nZ hp0 hok t).1,Fe t, .inl rfl,az⟩
 refine hcall (t:=0) rfl rfl ?_
 walk_at "dt"
 obtain⟨FD,AY⟩:∃FD:Nat->Ks->Cu,FD=fun t W=>aA aJ x dx (dY p (.d (.dict ((aY es).map aG))) ll lw a0 bs lc (bJ p n es t).wd (gU (fun a=>H a≠none) lw W) (fS n (aH es)) (cW (bJ p n es t).wd (aH es))):=⟨_,rfl⟩
 obtain⟨FK,Ep⟩:∃FK:Nat->Ks,FK=fun t=>gv p (bJ p n es t).wd ((t:Int)+1) (fu (bJ p n es t).wd (aH es)):=⟨_,rfl⟩
 refine Sv.K8 (fun ρ=>∃(t:Nat) (W:Ks),(W.map (·.1)).Nodup/\(∀a,bZ W a=(bJ p n es t).wh a)/\t<=W.length/\ρ=[.d false (.int p), .d false (.int n), .d false (.dict ((ldK es).map aG)), .d false (.dict ((aY es).map aG)), .cu (FD t W), .d true (.int ((t:Int)+1)), .d true (.dict ((FK t).map aG))]) (fun(ρ:Rh)=>match(ρ[5]?:Option Sl) with|some (Sl.d _ (PyData.int t))=>(5000-t).toNat|_=>0) ⟨0,W0,J3.1,p2,g8 _,by rw[AY,Ep];rfl⟩ ?_
 rintro ρ' ⟨t,W,hnd,hval,htW,rfl⟩
 obtain⟨i1,i2,i3⟩:=nZ hp0 hok t
 have hWn:W.length<=n.toNat:=by have:=WC hnd hval i2;omega
 have hF:=DA p (bJ p n es t).wd ((t:Int)+1) es
 have FI:FK t=gv p (bJ p n es t).wd ((t:Int)+1) (fu (bJ p n es t).wd (aH es)):=by rw[Ep]
 rw[<-FI] at hF
 refine Tv.test (Ev.Q8 (Ev.var rfl ⟨_,rfl,_,rfl,?_⟩))
 by_cases c:(FK t).isEmpty=true
 ·rw[c]
  rw[if_neg (by decide)]
  rw[AY]
  refine Sv.YN rfl eK jr kr ?_
  have hf:∀a,cN p es (bJ p n es t).wd a=none:=fun a=>by
   have:=hF.val a
   rw[List.isEmpty_iff.mp c] at this
   cases e:cN p es (bJ p n es t).wd a with
   |none=>rfl
   |some kx=>rw[e] at this;cases this
  have hE:eT p n es=bJ p n es t:=by
   have:=yt (n:=n) hf (n.toNat+1-t)
   rw[show t+(n.toNat+1-t)=n.toNat+1 by omega] at this
   exact this
  refine q _ ⟨W,by rw[hE],fun a=>by rw[hE];exact hval a⟩
 ·rw[Ac] at c
  rw[c]
  rw[if_pos (by decide)]
  rw[show FD t W=aA aJ x dx (dY p (.d (.dict ((aY es).map aG))) ll lw a0 bs lc (bJ p n es t).wd (gU (fun a=>H a≠none) lw W) (fS n (aH es)) (cW (bJ p n es t).wd (aH es))) by rw[AY]]
  refine Sv.seq (Sv.D7 (bW.Ou (D:= .dict ((aY es).map aG)) (cp:=fun v=>aA aJ x dx (dY p (.cu (mZ v)) ll lw a0 bs lc (bJ p n es t).wd (cD lw W) (fS n (aH es)) (cW (bJ p n es t).wd (aH es)))) Pu rfl rfl (aA.is rfl) (fun v=>⟨rfl,rfl,rfl⟩) (Ow _ _) ?_))
  refine Av.cons (Ev.var rfl ?_)
  refine Av.nil ?_
  refine⟨rfl,rfl,fun v=>?_⟩
  have hgt:∀a xl w,((cN p es (bJ p n es t).wd a).map fun kx=>(kx.2,jz kx.1 ((t:Int)+1)))=some (xl,w)->0<=a/\a<n/\(bJ p n es t).wd[a.toNat]?=some none:=fun a xl w e=>by
   obtain⟨kx,e2,_⟩:=jo.mp e
   obtain⟨g0,g1,g2,_⟩:=hok.rA hp0 e2
   exact⟨g0,g1,g2⟩
  have JW:(FK t).length<=4000:=by
   rw[FI]
   exact cG (Pz _ _ _ _) (cG (nM _ _) (cG hok.yG (by decide)))
  refine⟨x,dx,ll,lw,a0,lc,p,n,many,es, .cu (mZ v),bs,_,W,FK t,_,rfl,rfl,rfl,hok,hn0,hn1,i1,by omega,JW,fY,hF,hgt,?_⟩
  obtain⟨s1,s2⟩:=UC hp0 hok ((t:Int)+1) (bJ p n es t) hval i1 i2
  rw[<-FI] at s1 s2
  have GW:=J4 (W:=W) (g:=fun a=>(cN p es (bJ p n es t).wd a).map fun kx=>(kx.2,jz kx.1 ((t:Int)+1))) hnd ((FK t).map (·.1)) hF.nd fun a m=>⟨(hF.key a).mp m,fun z=>by
   have h1:=(hF.key a).mp m
   obtain⟨⟨xl,w⟩,h2⟩:=pS.mp h1
   obtain⟨g0,g1,g2⟩:=hgt a xl w h2
   rw[<-mh,hval] at z
   obtain⟨w',XT⟩:=pS.mp z
   obtain⟨_,y,hy⟩:=i2 a w' XT
   rw[g2] at hy;cases hy⟩
  rw[s1]
  generalize hW':eS W (fun a=>(cN p es (bJ p n es t).wd a).map fun kx=>(kx.2,jz kx.1 ((t:Int)+1))) ((FK t).map (·.1))=W' at s2 GW
  have hne:(FK t).length≠0:=fun z=>by rw[o6] at z;rw[z] at c;cases c
  have eN:cV p es ((t:Int)+1) (bJ p n es t)=bJ p n es (t+1):=rfl
  rw[eN] at s2⊢
  refine⟨aA aJ x dx (dY p (.d (.dict ((aY es).map aG))) ll lw a0 bs lc (bJ p n es (t+1)).wd (gU (fun a=>H a≠none) lw W') (fS n (aH es)) (cW (bJ p n es (t+1)).wd (aH es))),rfl,rfl,rfl,rfl,fun S H' h1 h2=>OY h1 h2,?_⟩
  walk_at "dt"
  refine hcall (t:=t+1) (W:=W') rfl rfl ?_
  walk_at "dt"
  refine⟨⟨t+1,W',GW.1,s2,by rw[GW.2.1,ao];omega,?_⟩,?_⟩
  ·rw[AY,Ep];rfl
  ·show(5000-_:Int).toNat<(5000-_:Int).toNat
   omega
theorem xS:bY ["script","stir","cell"] ["script"] (aN Bs):=⟨rfl,rfl,rfl,by decide+kernel,rfl,by decide+kernel,by decide+kernel⟩
theorem Ze(F:bM K "_law_bag" "_law_bag" Bs f fd)(EZ:mg "abs"=none):
  bq P w K mg base bG 1 f fd ["script"] (P7 K):=by
 refine F.ok xS (fun vs H Q E h=>?_) (fun cdv A outer s H vs Q E hr h=>?_)
 ·obtain⟨a,ns,rfl,hS,hl,q⟩:=h
  rfl
 obtain⟨a,ns,rfl,hS,hl,q⟩:=h
 refine⟨_,(@ay _ _ _ _ _ (@aV _ _ (1) _ _ _ _ xS.nd rfl (Or.inl rfl) ai (by rfl) (by first|exact .inl rfl|exact .inr rfl|assumption)) (@ay _ _ _ _ _ (@jd _ _ _ _ _ _ _ _ iA rfl (iz (K:=K) rfl (@Iu _ _ _ _ _ _ _ _ _ _ NU (pv 0) IT (@IG _ _ _ ai))) (bB (i:=2) xS.nd rfl (Or.inl rfl)) (@aD _ _ _ (@aV _ _ (1) _ _ _ _ xS.nd rfl (Or.inl rfl) (@aM _ _ _ _ _ _ _ _ i8 (@aM _ _ _ _ _ _ _ _ gu (@aM _ _ _ _ _ _ _ _ gu (@aM _ _ _ _ _ _ _ _ jn (pv 1) ai) (@aM _ _ _ _ _ _ _ _ i8 (pv 2) ai)) ai) ai) (by rfl) (by first|exact .inl rfl|exact .inr rfl|assumption))) (by intro _;rfl)) (@aD _ _ _ (@bC _ _ _ _ (@iw _ _ _ _ (@aa _ _ _ _ _ (jX (gF.of (show iU (aN Bs) ["script","stir","cell"] _ ["cell"] [none]=true by decide+kernel)) (iz (K:=K) rfl (@Iu _ _ _ _ _ _ _ _ _ _ NU (pv 0) IT (@IG _ _ _ ai))) (fun _ _ _ _=>⟨(bB (i:=0) (by show List.Nodup (["cell"]:List Str);decide+kernel) rfl (Or.inl rfl)),oh,(@aM _ _ _ _ _ _ _ _ i8 (@cZ _ _ _ _ _ _ _ _ _ Rg rfl EZ PyProof.Rows.boot_abs (@aa _ _ _ _ _ (pv 0) aj rfl) (by decide) (by decide) (by rfl) (by rfl)) (@aM _ _ _ _ _ _ _ _ wO ai ai))⟩)) (@aa _ _ _ _ _ ai (@aa _ _ _ _ _ ai (@aa _ _ _ _ _ (pv 1) (@aa _ _ _ _ _ ai aj rfl) rfl) rfl) rfl) rfl)))))),?_⟩
 have Lr:lY (ns.map V.int) none (some 63)=ns.map V.int:=by
  have e:(ns.map V.int).length=ns.length:=ao _
  show List.take (min 63 (ns.map V.int).length-0) (List.drop 0 (ns.map V.int))=_
  rw[List.drop_zero]
  exact sj (by omega)
 walk_at "st"
 refine R.KA hS fun c hc=>?_
 rw[Lr]
 refine R.AS (bh.of aQ) ?_
 refine GO (xs:=ns.map V.int) (fun i σ H1=>∃(st:Int) (x:Option V),σ=[some (.ref a),some (.int st),x]/\0<=st/\st<2147483647/\H1=upd H c (.lst (ns.map V.int))) ⟨19,none,rfl,by omega,by omega,rfl⟩ ?_ ?_ ?_
 ·rintro i σ H1 hi ⟨st,x,rfl,h1,h2,rfl⟩
  exact bh.of aQ
 ·rintro i x σ H1 hx ⟨st,y,rfl,h1,h2,rfl⟩
  rw[bI] at hx
  obtain⟨n,_,rfl⟩:=jo.mp hx
  walk_at "st"
  exact⟨_,_,rfl,iT _ (by decide),iQ _ (by decide),rfl⟩
 ·rintro σ H1 ⟨st,x,rfl,h1,h2,rfl⟩
  walk_at "st"
  refine R.KA ((dD hc).seq hS) fun c2 hc2=>?_
  rw[Lr]
  refine R.AS (bh.of aQ) ?_
  intro acc hacc
  refine R.DW (xs:=ns.map V.int) (fun i σ H2=>∃(x:Option V),σ=[x]/\H2=upd (upd (upd H c (.lst (ns.map V.int))) c2 (.lst (ns.map V.int))) acc (.lst (((ns.take i).map fun n=>(if n<0 then-n else n)%10^60).map V.int))) ⟨none,rfl,rfl⟩ ?_ ?_ ?_
  ·rintro i σ H1 hi ⟨x,rfl,rfl⟩
   refine bh.of ?_
   rw[aB (ji aQ hacc)]
   exact aQ
  ·rintro i x σ H1 hx ⟨y,rfl,rfl⟩
   rw[bI] at hx
   obtain⟨n,hn,rfl⟩:=jo.mp hx
   walk_at "st"
   refine⟨_,aQ,?_,_,rfl,?_⟩
   ·rw[ao,ao,mH]
    exact Ku (by omega)
   ·rw[E7,Fv,hn,fF,fF]
    rfl
  ·rintro σ H1 ⟨x,rfl,rfl⟩
   walk_at "st"
   refine(show Cm _ _ _ from⟨by show 5<=sizeLine;decide,fun p hp=>?_⟩)
   have hn1:=ji (aQ (H:=upd (upd H c (.lst (ns.map V.int))) c2 (.lst (ns.map V.int))) (a:=acc)) hp
   have s1:cS H (upd (upd (upd H c (.lst (ns.map V.int))) c2 (.lst (ns.map V.int))) acc (.lst (((ns.take (ns.map V.int).length).map fun n=>(if n<0 then-n else n)%10^60).map V.int))):=(dD hc).trans ((dD hc2).trans (dD hacc))
   refine q p acc _ (s1.trans (dD hp)) (s1.free hp) ⟨_,0,0,st,0,aQ,by rw[aB hn1];exact aQ,?_,?_,by omega,by omega,by omega,h1,h2⟩
   ·intro y hy
    obtain⟨z,_,rfl⟩:=c9.mp hy
    exact⟨iT _ (by decide),iQ _ (by decide)⟩
   ·rw[ao,mH]
    omega
theorem PJ:bY ["bag","many","found"] ["bag","many"] (aN CC):=⟨rfl,rfl,rfl,by decide+kernel,rfl,by decide+kernel,by decide+kernel⟩
theorem abc(F:bM K "_law_draw" "_law_draw" CC f fd)(c8:mg "len"=none):
  bq P w K mg base bG 1 f fd ["bag","many"] kG:=by
 refine F.ok PJ (fun vs H Q E h=>?_) (fun cdv A outer s H vs Q E hr h=>?_)
 ·obtain⟨b,l,many,rfl,hB,hm,hs,q⟩:=h
  rfl
 obtain⟨b,l,many,rfl,hB,hm,hs,q⟩:=h
 refine⟨_,(@ay _ _ _ _ _ (@cR _ _ _ _ _ _ _ _ (PW.pt (nN (@bA _ _ _ _ _ _ _ _ gX (@aF _ _ _ _ _ _ _ cC (pv 0) ai (fun _ _=>rfl)) ai (br _)) (ou (@bA _ _ _ _ _ _ _ _ rQ (@aF _ _ _ _ _ _ _ cC (pv 0) ai (fun _ _=>rfl)) (@cZ _ _ _ _ _ _ _ _ _ Ly rfl c8 jl (@aa _ _ _ _ _ (@aF _ _ _ _ _ _ _ cC (pv 0) ai (fun _ _=>rfl)) aj rfl) (by decide) (by decide) (by rfl) (by rfl)) (br _))))) (@ay _ _ _ _ _ (@gC _ _ _ _ _ _ (@aF _ _ _ _ _ _ _ cC (@aF _ _ _ _ _ _ _ cC (pv 0) ai (fun _ _=>rfl)) (@aF _ _ _ _ _ _ _ cC (pv 0) ai (fun _ _=>rfl)) (fun _ _=>rfl)) (jf (pv 0) ai set_list) (by rfl) (by rfl) (by rfl)) (@aD _ _ _ (@gC _ _ _ _ _ _ (@aM _ _ _ _ _ _ _ _ gu (@aF _ _ _ _ _ _ _ cC (pv 0) ai (fun _ _=>rfl)) ai) (jf (pv 0) ai set_list) (by rfl) (by rfl) (by rfl)))) (@aD _ _ _ (@cR _ _ _ _ _ _ _ _ (@bA _ _ _ _ _ _ _ _ gX (@aF _ _ _ _ _ _ _ cC (pv 0) ai (fun _ _=>rfl)) ai (br _)) (@ay _ _ _ _ _ (@gC _ _ _ _ _ _ (@aM _ _ _ _ _ _ _ _ gu (@aF _ _ _ _ _ _ _ cC (pv 0) ai (fun _ _=>rfl)) ai) (jf (pv 0) ai set_list) (by rfl) (by rfl) (by rfl)) (@ay _ _ _ _ _ (@gC _ _ _ _ _ _ (@aM _ _ _ _ _ _ _ _ i8 (@aM _ _ _ _ _ _ _ _ gu (@aM _ _ _ _ _ _ _ _ gu (@aM _ _ _ _ _ _ _ _ gu (@aM _ _ _ _ _ _ _ _ wO (@aF _ _ _ _ _ _ _ cC (pv 0) ai (fun _ _=>rfl)) ai) (@aM _ _ _ _ _ _ _ _ jn ai (@aF _ _ _ _ _ _ _ cC (pv 0) ai (fun _ _=>rfl)))) (@aM _ _ _ _ _ _ _ _ jn ai (@aF _ _ _ _ _ _ _ cC (pv 0) ai (fun _ _=>rfl)))) ai) ai) (jf (pv 0) ai set_list) (by rfl) (by rfl) (by rfl)) (@aD _ _ _ (@bC _ _ _ _ (@aM _ _ _ _ _ _ _ _ i8 (@aM _ _ _ _ _ _ _ _ o9 (@aF _ _ _ _ _ _ _ cC (pv 0) ai (fun _ _=>rfl)) ai) (pv 1)))))) dG))) (@ay _ _ _ _ _ (@aV _ _ (2) _ _ _ _ PJ.nd rfl (Or.inl rfl) (@aM _ _ _ _ _ _ _ _ i8 (@aF _ _ _ _ _ _ _ cC (pv 0) ai (fun _ _=>rfl)) (pv 1)) (by rfl) (by first|exact .inl rfl|exact .inr rfl|assumption)) (@ay _ _ _ _ _ (@gC _ _ _ _ _ _ (@aM _ _ _ _ _ _ _ _ o9 (@aF _ _ _ _ _ _ _ cC (pv 0) ai (fun _ _=>rfl)) (pv 1)) (jf (pv 0) ai set_list) (by rfl) (by rfl) (by rfl)) (@aD _ _ _ (@bC _ _ _ _ (pv 2)))))),?_⟩
 obtain⟨ns,i,c,st,n,h1,h2,h3,h4,h5,h6,h7,h8,h9⟩:=id hB
 have hlb:=aaN h1 h2
 have fin:∀(H1:Hp) (i' c':Int),H1 b=some (.lst [.ref l, .int i', .int c', .int st, .int n])->aZ (Nb b) H H1->0<=i'->0<=c'->c'<10^60->
   ∀(H2:Hp),H2=upd H1 b (.lst [.ref l, .int i', .int (c'/many), .int st, .int n])->Q (.int (c'%many)) H2:=fun H1 i' c' e1 bt g1 g2 g3 H2 e2=>by
  subst e2
  have hd1:0<=c'/many:=yq g2 (by omega)
  have hd2:c'/many<=c':=Gq _ g2
  exact q _ _ (iT _ (by omega)) (iQ _ hm) (bt.trans (aZ.set rfl)) (eg.put hlb (bt _ _ hlb h2) h3 h4 g1 hd1 (by omega) h8 h9)
 walk_at "st"
 refine qQ (fun c1=>?_) (fun c1=>?_)
 ·have c1:c=0:=of_decide_eq_true c1
  walk_at "st"
  refine qQ (fun c2=>?_) (fun c2=>?_)
  ·have c2:i<(List.map V.int ns).length:=of_decide_eq_true c2
   rw[ao] at c2
   have hi:i.toNat<ns.length:=by omega
   obtain⟨g1,g2⟩:=h3 _ (mj hi)
   walk_at "st"
   refine R.wj h2 (v:= .int ns[i.toNat]) (lD h5 (by rw[bI,bP hi];rfl)) ?_
   walk_at "st"
   refine fin (upd H b (.lst [.ref l, .int (i+1), .int ns[i.toNat], .int st, .int n])) (i+1) ns[i.toNat] aQ (aZ.set rfl) (by omega) g1 g2 _ ?_
   rw[E7]
   rfl
  ·walk_at "st"
   exact q _ _ (iT _ (by omega)) (iQ _ hm) (aZ.set rfl) (eg.put hlb h2 h3 h4 h5 h6 h7 (iT _ (by decide)) (iQ _ (by decide)))
 ·have c1:¬c=0:=of_decide_eq_false (Ge.mpr c1)
  walk_at "st"
  exact fin H i c h1 (aZ.refl _ _) h5 h6 h7 _ rfl
theorem acn(is:List Int):PyData.eqv (.list (is.map PyData.int)) (.list [])=decide (is=[]):=by
 cases is<;>simp[PyData.eqv,PyData.eqvAll]
theorem Z2(is:List Int):SeqAt.shaped (.list (is.map PyData.int))=true:=by
 have h:PyData.depthAll (is.map PyData.int)=0/\PyData.canLayAll0 (is.map PyData.int)=true:=by
  induction is with
  |nil=>simp[PyData.depthAll,PyData.canLayAll0]
  |cons a r ih=>simp[PyData.depthAll,PyData.depth,PyData.canLayAll0,PyData.canLay0,ih.2,ih.1]
 unfold SeqAt.shaped
 simp[PyData.canLay0,PyData.depth,h.2,h.1]
theorem LQ{nb:Addr->Prop}{H:Hp}:∀is:List Int,ah nb H (is.map PyData.int) (is.map V.int)
 |[]=>ah.nil
 |i::is=>ah.cons (.int i) (LQ is)
theorem aac{r:Int}(h0:r<=10100)(h:∀d:Int,2<=d->d<102->¬(d*d<=r/\r%d=0)):As r:=fun d d1 d2 e=>by
 by_cases hd:d<102
 ·exact h d d1 hd ⟨d2,e⟩
 ·have:102*102<=d*d:=FZ (by omega) (by omega) (by omega) (by omega)
  omega
theorem HK:bY ["number","found"] ["number"] (aN wU):=⟨rfl,rfl,rfl,by decide+kernel,rfl,by decide+kernel,by decide+kernel⟩
theorem YA(F:bM K "_law_prime_from" "_law_prime_from" wU f fd)(eB:mg "range"=none):
  bq P w K mg base bG 1 f fd ["number"] Gz:=by
 refine F.ok HK (fun vs H Q E h=>?_) (fun cdv A outer s H vs Q E hr h=>?_)
 ·obtain⟨n,rfl,hn1,hn2,q⟩:=h
  rfl
 obtain⟨n,rfl,hn1,hn2,q⟩:=h
 refine⟨_,(@ay _ _ _ _ _ (@jd _ _ _ _ _ _ _ _ iA rfl (@E9 _ _ _ _ _ _ _ rfl eB (@aa _ _ _ _ _ (pv 0) (@aa _ _ _ _ _ (@aM _ _ _ _ _ _ _ _ gu (pv 0) ai) aj rfl) rfl) (by rfl) (by rfl)) (bB (i:=1) HK.nd rfl (Or.inr rfl)) (@aD _ _ _ (@cR _ _ _ _ _ _ _ _ (@bA _ _ _ _ _ _ _ _ (EH hr.units) (jX (gF.of (show iU (aN wU) ["number","found"] _ ["k","found"] [none,some 1]=true by decide+kernel)) (@E9 _ _ _ _ _ _ _ rfl eB (@aa _ _ _ _ _ ai (@aa _ _ _ _ _ ai aj rfl) rfl) (by rfl) (by rfl)) (fun _ _ _ _=>⟨(bB (i:=0) (by show List.Nodup (["k","found"]:List Str);decide+kernel) rfl (Or.inl rfl)),(pZ (PW.pt (nN (@bA _ _ _ _ _ _ _ _ zQ (@aM _ _ _ _ _ _ _ _ jn (pv 0) (pv 0)) (pv 1) (br _)) (ou (@bA _ _ _ _ _ _ _ _ gX (@aM _ _ _ _ _ _ _ _ i8 (pv 1) (pv 0)) ai (br _)))))),(pv 0)⟩)) (@iw _ _ _ _ aj) (br _)) (@aD _ _ _ (@bC _ _ _ _ (pv 1))) dG)) (by intro _;rfl)) (@aD _ _ _ (@bC _ _ _ _ ai))),?_⟩
 walk_at "st"
 refine J7 (fun i σ H1=>cS H H1/\∃(x:Option V),σ=[some (.int n),x]) ⟨cS.refl _,none,rfl⟩ ?_ ?_
 ·rintro i σ H1 hi ⟨s1,x,rfl⟩
  have hi2:(i:Int)<60:=by omega
  walk_at "st"
  intro acc hacc
  refine R.EI (fun j σ H2=>cS H1 H2/\(∃x:Option V,σ=[x,some (.int (n+i))])/\∃is:List Int,H2 acc=some (.lst (is.map V.int))/\is.length<=j/\(is=[]->∀d:Int,2<=d->d<2+j->¬(d*d<=n+i/\(n+i)%d=0))) ?_ ?_ ?_
  ·exact⟨dD hacc,⟨none,rfl⟩,[],aQ,g8 _,fun _ d d1 d2=>by omega⟩
  ·rintro j σ H2 hj ⟨s2,⟨x,rfl⟩,is,e2,l2,h2⟩
   have hj2:(j:Int)<100:=by omega
   have next:∀d:Int,d<2+((j+1:Nat):Int)->d<2+j\/d=2+j:=fun d h=>by omega
   walk_at "st"
   refine qQ (fun c1=>?_) (fun c1=>?_)
   ·have c1:(2+(j:Int))*(2+j)<=n+i:=of_decide_eq_true c1
    walk_at "st"
    refine qQ (fun c2=>?_) (fun c2=>?_)
    ·have c2:(n+i)%(2+(j:Int))=0:=of_decide_eq_true c2
     walk_at "st"
     refine⟨_,e2,?_,?_,⟨_,rfl⟩,is++[2+(j:Int)],?_,?_,fun e=>?_⟩
     ·rw[ao];exact Ku (by omega)
     ·exact fun a o h=>by rw[aB (ji h hacc)];exact s2 _ _ h
     ·rw[aQ,fF];rfl
     ·rw[dW,kT];omega
     ·simp at e
    ·have c2:¬(n+i)%(2+(j:Int))=0:=of_decide_eq_false (Ge.mpr c2)
     refine⟨s2,⟨_,rfl⟩,is,e2,by omega,fun e d d1 d2=>?_⟩
     rcases next d d2 with h|h
     ·exact h2 e d d1 h
     ·rw[h];exact fun z=>c2 z.2
   ·have c1:¬(2+(j:Int))*(2+j)<=n+i:=of_decide_eq_false (Ge.mpr c1)
    walk_at "st"
    refine⟨s2,⟨_,rfl⟩,is,e2,by omega,fun e d d1 d2=>?_⟩
    rcases next d d2 with h|h
    ·exact h2 e d d1 h
    ·rw[h];exact fun z=>c1 z.1
  ·rintro σ H2 ⟨s2,⟨x,rfl⟩,is,e2,l2,h2⟩
   walk_at "st"
   refine R.acG (by decide) fun p H3 s3 f3 e3=>?_
   refine⟨fun _=>False, .list (is.map PyData.int), .list [], .lst id (s3 _ _ e2) (LQ is), .lst id e3 ah.nil,Z2 is,by decide,?_⟩
   rw[acn]
   walk_at "st"
   have s:cS H H3:=s1.trans (s2.trans s3)
   refine qQ (fun c=>?_) (fun c=>?_)
   ·have c:is=[]:=by simpa using c
    walk_at "st"
    exact q _ _ s (by omega) (by omega) (aac (by omega) fun d d1 d2=>h2 c d d1 (by omega))
   ·walk_at "st"
    exact⟨s,_,rfl⟩
 ·rintro σ H1 ⟨s1,x,rfl⟩
  walk_at "st"
  refine q _ _ s1 (by omega) (by omega) fun d d1 d2=>?_
  have:2*2<=d*d:=FZ d1 d1 (by omega) (by omega)
  omega
def GY:DF:=fun ds Φ=>ds=[]/\∀p:Int,gp p->p<10^40->∀f,Φ f (.int p)
theorem ach:fq GY:=by
 intro ds Φ Ψ hm z;revert hm
 walk_at "mo";exact fun q=>fun p h1 h2 f=>z _ _ (q p h1 h2 f)
theorem Wi:∀x∈([2,3,5,7,2,11,101,10007,65537,1000003,998244353,1000000007,2147483647,1000000000039,10^Int.toNat 39+3,10^Int.toNat 40-17,2305843009213693951,618970019642690137449562111,162259276829213363391578010288127,170141183460469231731687303715884105727]:List Int),x∈yd/\x<10^40:=by decide
theorem vM:bY ["bag","some","way"] ["bag"] (aN Dw):=⟨rfl,rfl,rfl,by decide+kernel,rfl,by decide+kernel,by decide+kernel⟩
theorem acz(F:bM K "_law_prime" "_law_prime" Dw f fd)(eU:Callee P w K mg base "_law_draw" 1 ["bag","many"] kG)(R6:Callee P w K mg base "_law_prime_from" 1 ["number"] Gz):
  bq P w K mg base bG 2 f fd ["bag"] (iG 1 GY):=by
 refine F.ok vM (fun vs H Q E h=>h.1) (fun cdv A outer s H vs Q E hr h=>?_)
 obtain⟨b,l,ws,nb,ds,Φ,rfl,hB,hlive,hnb,hds,az,hF⟩:=oW h
 obtain⟨rfl,q⟩:=hF
 refine⟨_,(@ay _ _ _ _ _ (@QN _ 1 _ _ _ _ _ _ vM.nd rfl (Or.inl rfl) rfl (Or.inl rfl)) (@ay _ _ _ _ _ (@aV _ _ (1) _ _ _ _ vM.nd rfl (Or.inl rfl) (@aM _ _ _ _ _ _ _ _ Hs (pv 1) (@iw _ _ _ _ (@aa _ _ _ _ _ (@aM _ _ _ _ _ _ _ _ gu (@aM _ _ _ _ _ _ _ _ wO ai ai) ai) (@aa _ _ _ _ _ (@aM _ _ _ _ _ _ _ _ mX (@aM _ _ _ _ _ _ _ _ wO ai ai) ai) (@aa _ _ _ _ _ ai (@aa _ _ _ _ _ ai aj rfl) rfl) rfl) rfl))) (by rfl) (by first|exact .inl rfl|exact .inr rfl|assumption)) (@ay _ _ _ _ _ (@aV _ _ (1) _ _ _ _ vM.nd rfl (Or.inl rfl) (@aM _ _ _ _ _ _ _ _ Hs (pv 1) (@iw _ _ _ _ (@aa _ _ _ _ _ ai (@aa _ _ _ _ _ ai aj rfl) rfl))) (by rfl) (by first|exact .inl rfl|exact .inr rfl|assumption)) (@ay _ _ _ _ _ (@aV _ _ (2) _ _ _ _ vM.nd rfl (Or.inl rfl) (@bw _ _ _ _ _ _ _ _ _ _ eU (hr.mono (by decide)) (@aa _ _ _ _ _ (pv 0) (@aa _ _ _ _ _ ai aj rfl) rfl) (by rfl) (by decide) (by rfl) (by rfl)) (by rfl) (by first|exact .inl rfl|exact .inr rfl|assumption)) (@aD _ _ _ (@bC _ _ _ _ (@acq _ _ _ _ _ _ _ _ (@bA _ _ _ _ _ _ _ _ rQ (pv 2) ai (br _)) (@aF _ _ _ _ _ _ (dS K) cC (pv 1) (pv 2) (fun _ _=>rfl)) (@bw _ _ _ _ _ _ _ _ _ _ R6 (hr.mono (by decide)) (@aa _ _ _ _ _ (@aM _ _ _ _ _ _ _ _ gu ai (@bw _ _ _ _ _ _ _ _ _ _ eU (hr.mono (by decide)) (@aa _ _ _ _ _ (pv 0) (@aa _ _ _ _ _ ai aj rfl) rfl) (by rfl) (by decide) (by rfl) (by rfl))) aj rfl) (by rfl) (by decide) (by rfl) (by rfl))))))))),?_⟩
 refine Sv.pJ hB hlive hnb hds az (ρ:=[.au, .no, .no]) rfl ?_
 clear az hds
 walk_at "dt"
 intro way w1 w2
 by_cases c:way<20
 ·walk_at "dt"
  obtain⟨m,em,hm1,hm2⟩:=pick (L:=[2,3,5,7,2,11,101,10007,65537,1000003,998244353,1000000007,2147483647,1000000000039,10^Int.toNat 39+3,10^Int.toNat 40-17,2305843009213693951,618970019642690137449562111,162259276829213363391578010288127,170141183460469231731687303715884105727]) (k:=way) w1 (by show _<(20:Int);omega) _ Wi
  refine⟨_,em,?_⟩
  exact q m (Z9 m hm1) hm2 _
 ·walk_at "dt"
  intro r r1 r2
  walk_at "dt"
  exact fun r' h1 h2=>q r' h1 h2 _
def EY:DF:=fun ds Φ=>∃p a b:Int,ds=[.int p, .int a, .int b]/\gp p/\p<10^40/\b%p≠0/\ -(10^61)<=a/\a<=10^61/\((∃k,b*sol p b a-a=p*k)->Φ true (.int (sol p b a)))
theorem VZ:fq EY:=by
 intro ds Φ Ψ hm z;revert hm
 walk_at "mo";exact fun q=>fun h=>z _ _ (q h)
theorem lG:bY ["p","a","b","old","new","one","two","times"] ["p","a","b"] (aN CQ):=⟨rfl,rfl,rfl,by decide+kernel,rfl,by decide+kernel,by decide+kernel⟩
theorem Yz(F:bM K "_law_over" "_law_over" CQ f fd):
  bq P w K mg base bG 1 f fd ["p","a","b"] (cK 3 EY):=by
 refine F.ok lG (fun vs H Q E h=>h.1) (fun cdv A outer s H vs Q E hr h=>?_)
 obtain⟨nb,ds,Φ,hlive,hds,az,hF⟩:=jK h
 obtain⟨p,a,b,rfl,hp,oM,hb,a0,a1,q⟩:=hF
 refine⟨_,(@ay _ _ _ _ _ (@gC _ _ _ _ _ _ (@gc _ _ _ _ _ (@aa _ _ _ _ _ (@aM _ _ _ _ _ _ _ _ i8 (pv 2) (pv 0)) (@aa _ _ _ _ _ (pv 0) (@aa _ _ _ _ _ ai (@aa _ _ _ _ _ ai aj rfl) rfl) rfl) rfl)) (@jM _ (K) _ _ _ (4) _ rfl rfl (@dj _ _ _ _ _ (bB (i:=3) lG.nd rfl (Or.inl rfl)) (@dj _ _ _ _ _ (bB (i:=4) lG.nd rfl (Or.inl rfl)) (@dj _ _ _ _ _ (bB (i:=5) lG.nd rfl (Or.inl rfl)) (@dj _ _ _ _ _ (bB (i:=6) lG.nd rfl (Or.inl rfl)) jx (by rfl)) (by rfl)) (by rfl)) (by rfl)) (by rfl) (by rfl)) (by rfl) (by rfl) (by rfl)) (@ay _ _ _ _ _ (@E8 _ _ _ _ _ _ iA (@bA _ _ _ _ _ _ _ _ nk (pv 4) ai (br _)) (@ay _ _ _ _ _ (@aV _ _ (7) _ _ _ _ lG.nd rfl (Or.inl rfl) (@aM _ _ _ _ _ _ _ _ o9 (pv 3) (pv 4)) (by rfl) (by first|exact .inl rfl|exact .inr rfl|assumption)) (@aD _ _ _ (@gC _ _ _ _ _ _ (@gc _ _ _ _ _ (@aa _ _ _ _ _ (pv 4) (@aa _ _ _ _ _ (@aM _ _ _ _ _ _ _ _ mX (pv 3) (@aM _ _ _ _ _ _ _ _ jn (pv 7) (pv 4))) (@aa _ _ _ _ _ (pv 6) (@aa _ _ _ _ _ (@aM _ _ _ _ _ _ _ _ mX (pv 5) (@aM _ _ _ _ _ _ _ _ jn (pv 7) (pv 6))) aj rfl) rfl) rfl) rfl)) (@jM _ (K) _ _ _ (4) _ rfl rfl (@dj _ _ _ _ _ (bB (i:=3) lG.nd rfl (Or.inl rfl)) (@dj _ _ _ _ _ (bB (i:=4) lG.nd rfl (Or.inl rfl)) (@dj _ _ _ _ _ (bB (i:=5) lG.nd rfl (Or.inl rfl)) (@dj _ _ _ _ _ (bB (i:=6) lG.nd rfl (Or.inl rfl)) jx (by rfl)) (by rfl)) (by rfl)) (by rfl)) (by rfl) (by rfl)) (by rfl) (by rfl) (by rfl))))) (@aD _ _ _ (@bC _ _ _ _ (@aM _ _ _ _ _ _ _ _ i8 (@aM _ _ _ _ _ _ _ _ jn (pv 1) (pv 5)) (pv 0)))))),?_⟩
 refine Sv.jG hlive hds az (ρ:=[.d false _, .d false _, .d false _, .no, .no, .no, .no, .no]) rfl ?_
 clear az hds
 have p2:=hp.1
 have m1:=iT b (show p≠0 by omega)
 have m2:=iQ b (show 0<p by omega)
 walk_at "dt"
 show nD _ _ _ _ [PyData.int (b%p), .int p, .int 1, .int 0] _
 walk_at "dt"
 refine Sv.K8 (fun ρ=>∃(L lt r t:Int) (x6:Sl),ρ=[.d false (.int p), .d false (.int a), .d false (.int b), .d true (.int L), .d true (.int r), .d true (.int lt), .d true (.int t),x6]/\(-p<=lt/\lt<=p)/\((L=b%p/\r=p/\lt=1/\t=0)\/Eu p b L lt r t)) (fun ρ:Rh=>match ρ[4]? with|some (Sl.d _ (PyData.int r))=>r.toNat|_=>0) ⟨_,_,_,_,_,rfl,by omega, .inl ⟨rfl,rfl,rfl,rfl⟩⟩ ?_
 rintro ρ ⟨L,lt,r,t,x6,rfl,hlt,hI⟩
 by_cases c:r=0
 ·rcases hI with ⟨_,h,_,_⟩|hE
  ·omega
  subst c
  obtain⟨k,hk⟩:=hE.fin hp hb
  obtain⟨t1,t2⟩:=hE.tb
  have sa:Sm a:=by unfold Sm;omega
  have sl:Sm lt:=by unfold Sm;omega
  walk_at "dt"
  have e:=ow (a*lt) p
  have ef:=ow lt p
  have ex:∃k,b*(a*lt%p)-a=p*k:=⟨a*k+a*(lt/p)*b-a*lt/p*b,by
   generalize a*lt/p=Q1 at*
   generalize a*lt%p=R1 at*
   generalize lt/p=Q2 at*
   generalize lt%p=R2 at*
   have h1:R1=a*lt-p*Q1:=by omega
   have h2:lt=p*Q2+R2:=by omega
   rw[h1]
   have h3:a*(R2*b)=a*(1+p*k):=by rw[hk]
   grind⟩
  have es:=O7 (x:=a*lt%p) (a:=a) hp hb (iT _ (by omega)) (iQ _ (by omega)) ex
  rw[es]
  rw[es] at ex
  exact q ex
 ·rcases hI with ⟨rfl,rfl,rfl,rfl⟩|hE
  ·have e0:b%r/r=0:=Int.ediv_eq_zero_of_lt m1 m2
   walk_at "dt"
   show nD _ _ _ _ [PyData.int r, .int (b%r-b%r/r*r), .int 0, .int (1-b%r/r*0)] _
   rw[e0]
   walk_at "dt"
   refine⟨⟨_,_,_,_,_,rfl,by omega, .inr ?_⟩,?_⟩
   ·rw[qX,tL,Int.mul_zero,tL]
    exact Eu.start p2
   ·show(b%r-0*r).toNat<r.toNat
    rw[qX];omega
  ·obtain⟨t1,t2⟩:=hE.tb
   have e1:=hE.l0
   have e2:=hE.r0
   have e3:=hE.lp
   have e4:=hE.rp
   have hr:0<r:=by omega
   have q1:0<=L/r:=yq (by omega) (by omega)
   have q2:L/r<=L:=Gq _ (by omega)
   obtain⟨N1,N2⟩:=hE.next hr
   walk_at "dt"
   show nD _ _ _ _ [PyData.int r, .int (L-L/r*r), .int t, .int (lt-L/r*t)] _
   walk_at "dt"
   exact⟨⟨_,_,_,_,_,rfl,⟨t1,t2⟩, .inr N1⟩,by show(L-L/r*r).toNat<r.toNat;omega⟩
def qV:DF:=fun ds Φ=>∃(p:Int) (prs:bz) (wd:Wo),ds=[.int p,fE prs,dN wd]/\0<p/\prs.length<=10000/\pW prs wd.length/\nU wd/\Φ true (.int (dP prs wd%p))
theorem Dd:fq qV:=by
 intro ds Φ Ψ hm z;revert hm
 walk_at "mo";exact fun q=>z _ _ q
theorem SY:bY ["p","pairs","word"] ["p","pairs","word"] (aN AN):=⟨rfl,rfl,rfl,by decide+kernel,rfl,by decide+kernel,by decide+kernel⟩
theorem Ru(F:bM K "_law_sum" "_law_sum" AN f fd)(Ea:mg "sum"=none):
    bq P w K mg base bG 1 f fd ["p","pairs","word"] (cK 3 qV):=by
  refine F.ok SY (fun vs H Q E h=>h.1) (fun cdv A outer s H vs Q E hr h=>?_)
  obtain⟨nb,ds,Φ,hlive,hds,az,hF⟩:=jK h
  obtain⟨p,prs,wd,rfl,hp,hl,h1,h2,q⟩:=hF
  refine⟨_,(@aD _ _ _ (@bC _ _ _ _ (@aM _ _ _ _ _ _ _ _ i8 (@cZ _ _ _ _ _ _ _ _ (Ci K) (Xk rfl) rfl Ea PyProof.Rows.boot_sum (@aa _ _ _ _ _ (jX (gF.of (show iU (aN AN) ["p","pairs","word"] _ ["place","factor","word"] [none,none,some 2]=true by decide+kernel)) (iz (K:=K) rfl (pv 1)) (fun _ _ _ _=>⟨(@jM _ (K) _ _ _ (2) _ rfl rfl (@dj _ _ _ _ _ (bB (i:=0) (by show List.Nodup (["place","factor","word"]:List Str);decide+kernel) rfl (Or.inl rfl)) (@dj _ _ _ _ _ (bB (i:=1) (by show List.Nodup (["place","factor","word"]:List Str);decide+kernel) rfl (Or.inl rfl)) jx (by rfl)) (by rfl)) (by rfl) (by rfl)),(pZ (@bA _ _ _ _ _ _ _ _ NT (@aF _ _ _ _ _ _ (dS K) cC (pv 2) (pv 0) (fun _ _=>rfl)) iD (br _))),(@aM _ _ _ _ _ _ _ _ jn (pv 1) (@aF _ _ _ _ _ _ (dS K) cC (pv 2) (pv 0) (fun _ _=>rfl)))⟩)) aj rfl) (by decide) (by decide) (by rfl) (by rfl)) (pv 0)))),?_⟩
  refine Sv.jG hlive hds az (ρ:=[.d false _, .d false _, .d false _]) rfl ?_
  clear az hds
  walk_at "dt"
  refine aE.ev (aE.uT (by decide) rfl ?_)
  walk_at "dt"
  refine⟨by rw[ao];exact hl,fun v=>⟨false,fun i ds=>∃ns:List Int,ds=ns.map .int/\ns.sum=dP (prs.take i) wd,⟨[],rfl,by simp[dP]⟩,?_,?_⟩⟩
  · rintro i d ds hd hl' ⟨ns,rfl,hs⟩
    obtain⟨pr,eV,rfl⟩:=gJ hd
    obtain⟨g1,g2,g3⟩:=h1 pr (dg eV)
    obtain⟨o,ho,hat⟩:=pI (xs:=wd) bF g1 g2 rfl
    have hi:i<prs.length:=(bT.mp eV).1
    have tM:=QI (wd:=wd) hi
    have RI:prs[i]=pr:=(bT.mp eV).2
    rw[RI] at tM
    walk_at "dt"
    refine⟨by walk_at "wk",?_⟩
    walk_at "dt"
    rw[vg]
    cases o with
    | none =>
      walk_at "dt"
      refine⟨ns,rfl,?_⟩
      rw[tM,hs]
      unfold sH
      rw[ho];simp
    | some x =>
      have hx:Sm x:=h2 x (dg ho)
      have adG:cO (wd.map bF) pr.1=some (.int x):=hat
      walk_at "dt"
      refine⟨ns++[pr.2*x],by simp,?_⟩
      rw[tM,List.sum_append,hs]
      unfold sH
      rw[ho];simp
  · rintro ds hl' ⟨ns,rfl,hs⟩
    rw[ao,jF] at hs
    refine⟨ns,rfl,?_⟩
    rw[hs]
    walk_at "dt"
    exact q
def xB:DF:=fun ds Φ=>∃p:Int,ds=[.int p]/\2<=p/\p<10^40/\∀x:Int,0<=x->x<p->Φ true (.int x)
theorem AV:fq xB:=by
 intro ds Φ Ψ hm z;revert hm
 walk_at "mo";exact fun q=>fun x a b=>z _ _ (q x a b)
theorem YO:bY ["bag","p"] ["bag","p"] (aN E2):=⟨rfl,rfl,rfl,by decide+kernel,rfl,by decide+kernel,by decide+kernel⟩
theorem Sd(F:bM K "_law_letter" "_law_letter" E2 f fd)(eU:Callee P w K mg base "_law_draw" 1 ["bag","many"] kG):
  bq P w K mg base bG 2 f fd ["bag","p"] (iG 2 xB):=by
 refine F.ok YO (fun vs H Q E h=>h.1) (fun cdv A outer s H vs Q E hr h=>?_)
 obtain⟨b,l,ws,nb,ds,Φ,rfl,hB,hlive,hnb,hds,az,hF⟩:=oW h
 obtain⟨p,rfl,p2,g7,q⟩:=hF
 refine⟨_,(@aD _ _ _ (@bC _ _ _ _ (@aM _ _ _ _ _ _ _ _ i8 (@aM _ _ _ _ _ _ _ _ jn (@bw _ _ _ _ _ _ _ _ _ _ eU (hr.mono (by decide)) (@aa _ _ _ _ _ (pv 0) (@aa _ _ _ _ _ (pv 1) aj rfl) rfl) (by rfl) (by decide) (by rfl) (by rfl)) (@aM _ _ _ _ _ _ _ _ gu (@aM _ _ _ _ _ _ _ _ o9 (pv 1) ai) ai)) (pv 1)))),?_⟩
 refine Sv.pJ hB hlive hnb hds az (ρ:=[.au, .d false _]) rfl ?_
 clear az hds
 walk_at "dt"
 intro r r1 r2
 have h1:0<=r*(p/3+1):=Int.mul_nonneg r1 (by omega)
 have h2:r*(p/3+1)<=10^40*10^40:=FZ (by omega) (by omega) (by omega) (by omega)
 walk_at "dt"
 exact q _ (iT _ (by omega)) (iQ _ (by omega))
def EA:DF:=fun ds Φ=>∃p:Int,ds=[.int p]/\gp p/\p<10^40/\∀x:Int,0<x->x<p->Φ true (.int x)
theorem ZH:fq EA:=by
 intro ds Φ Ψ hm z;revert hm
 walk_at "mo";exact fun q=>fun x a b=>z _ _ (q x a b)
theorem Xh{p a b:Int}(hp:gp p)(h:p∣a*b):p∣a\/p∣b:=by
 by_cases ha:p∣a
 ·exact .inl ha
 ·right
  have hg:Int.gcd p a=1:=by
   have d1:(Int.gcd p a:Int)∣p:=Int.gcd_dvd_left ..
   have d2:(Int.gcd p a:Int)∣a:=Int.gcd_dvd_right ..
   have h0:0<(Int.gcd p a:Int):=by
    have:Int.gcd p a≠0:=fun z=>by have:=(J0.mp z).1;have:=hp.1;omega
    omega
   rcases hp.2 _ h0 d1 with e|e
   ·exact_mod_cast e
   ·rw[e] at d2;exact absurd d2 ha
  have h':p.natAbs∣a.natAbs*b.natAbs:=by rw[<-GZ];exact vW.mpr h
  have c:Nat.Coprime p.natAbs a.natAbs:=hg
  exact vW.mp (c.dvd_of_dvd_mul_left h')
theorem ZM:bY ["bag","p"] ["bag","p"] (aN BP):=⟨rfl,rfl,rfl,by decide+kernel,rfl,by decide+kernel,by decide+kernel⟩
theorem Yo(F:bM K "_law_factor" "_law_factor" BP f fd)(eU:Callee P w K mg base "_law_draw" 1 ["bag","many"] kG):
  bq P w K mg base bG 2 f fd ["bag","p"] (iG 2 EA):=by
 refine F.ok ZM (fun vs H Q E h=>h.1) (fun cdv A outer s H vs Q E hr h=>?_)
 obtain⟨b,l,ws,nb,ds,Φ,rfl,hB,hlive,hnb,hds,az,hF⟩:=oW h
 obtain⟨p,rfl,hp,g7,q⟩:=hF
 refine⟨_,(@aD _ _ _ (@bC _ _ _ _ (@aM _ _ _ _ _ _ _ _ i8 (@aM _ _ _ _ _ _ _ _ jn (@aM _ _ _ _ _ _ _ _ gu ai (@bw _ _ _ _ _ _ _ _ _ _ eU (hr.mono (by decide)) (@aa _ _ _ _ _ (pv 0) (@aa _ _ _ _ _ (@aM _ _ _ _ _ _ _ _ mX (pv 1) ai) aj rfl) rfl) (by rfl) (by decide) (by rfl) (by rfl))) (@aM _ _ _ _ _ _ _ _ gu (@aM _ _ _ _ _ _ _ _ o9 (pv 1) ai) ai)) (pv 1)))),?_⟩
 refine Sv.pJ hB hlive hnb hds az (ρ:=[.au, .d false _]) rfl ?_
 clear az hds
 have p2:=hp.1
 walk_at "dt"
 intro r r1 r2
 walk_at "dt"
 refine q _ ?_ (iQ _ (by omega))
 have h0:=iT ((1+r)*(p/3+1)) (show p≠0 by omega)
 have hne:(1+r)*(p/3+1)%p≠0:=fun e=>by
  rcases Xh hp (Int.dvd_of_emod_eq_zero e) with h|h
  ·have:=Dj (by omega) h;omega
  ·have:=Dj (by omega) h;omega
 omega
def Ho:DF:=fun ds Φ=>∃p n:Int,ds=[.int p, .int n]/\2<=p/\p<10^40/\0<=n/\n<=10000/\∀os:List Int,(os.length:Int)=n->(∀x∈os,0<=x/\x<p)->Φ true (.list (os.map .int))
theorem Y8:fq Ho:=by
 intro ds Φ Ψ hm z;revert hm
 walk_at "mo";exact fun q=>fun os a b=>z _ _ (q os a b)
theorem MN:bY ["bag","p","n","way"] ["bag","p","n"] (aN qM):=⟨rfl,rfl,rfl,by decide+kernel,rfl,by decide+kernel,by decide+kernel⟩
theorem abQ(F:bM K "_law_letters" "_law_letters" qM f fd)(eU:Callee P w K mg base "_law_draw" 1 ["bag","many"] kG)(uD:Callee P w K mg base "_law_letter" 2 ["bag","p"] (iG 2 xB))(eB:mg "range"=none)(lK:mg "int"=none)(m6:mg "min"=none):
  bq P w K mg base bG 3 f fd ["bag","p","n"] (iG 3 Ho):=by
 refine F.ok MN (fun vs H Q E h=>h.1) (fun cdv A outer s H vs Q E hr h=>?_)
 obtain⟨b,l,ws,nb,ds,Φ,rfl,hB,hlive,hnb,hds,az,hF⟩:=oW h
 obtain⟨p,n,rfl,p2,g7,n0,n1,q⟩:=hF
 refine⟨_,(@ay _ _ _ _ _ (@aV _ _ (3) _ _ _ _ MN.nd rfl (Or.inl rfl) (@bw _ _ _ _ _ _ _ _ _ _ eU (hr.mono (by decide)) (@aa _ _ _ _ _ (pv 0) (@aa _ _ _ _ _ ai aj rfl) rfl) (by rfl) (by decide) (by rfl) (by rfl)) (by rfl) (by first|exact .inl rfl|exact .inr rfl|assumption)) (@ay _ _ _ _ _ (@cR _ _ _ _ _ _ _ _ (@bA _ _ _ _ _ _ _ _ gX (pv 3) ai (br _)) (@aD _ _ _ (@bC _ _ _ _ (jX (gF.of (show iU (aN qM) ["bag","p","n","way"] _ ["k","bag","p"] [none,some 0,some 1]=true by decide+kernel)) (@o7 _ _ _ _ _ _ rfl eB (@aa _ _ _ _ _ (pv 2) aj rfl) (by rfl)) (fun _ _ _ _=>⟨(bB (i:=0) (by show List.Nodup (["k","bag","p"]:List Str);decide+kernel) rfl (Or.inl rfl)),oh,(@aM _ _ _ _ _ _ _ _ jn (@bw _ _ _ _ _ _ _ _ _ _ uD (hr.mono (by decide)) (@aa _ _ _ _ _ (pv 1) (@aa _ _ _ _ _ (pv 2) aj rfl) rfl) (by rfl) (by decide) (by rfl) (by rfl)) (@lQ _ _ _ _ _ _ _ _ _ SG rfl lK Gb (@aa _ _ _ _ _ (@oG _ _ _ _ _ _ _ _ gX (@bw _ _ _ _ _ _ _ _ _ _ eU (hr.mono (by decide)) (@aa _ _ _ _ _ (pv 1) (@aa _ _ _ _ _ ai aj rfl) rfl) (by rfl) (by decide) (by rfl) (by rfl)) ai (br _)) aj rfl) (by decide) (by decide) (by rfl) (by rfl)))⟩)))) dG) (@ay _ _ _ _ _ (@cR _ _ _ _ _ _ _ _ (@bA _ _ _ _ _ _ _ _ gX (pv 3) ai (br _)) (@aD _ _ _ (@bC _ _ _ _ (jX (gF.of (show iU (aN qM) ["bag","p","n","way"] _ ["k","bag","p"] [none,some 0,some 1]=true by decide+kernel)) (@o7 _ _ _ _ _ _ rfl eB (@aa _ _ _ _ _ (pv 2) aj rfl) (by rfl)) (fun _ _ _ _=>⟨(bB (i:=0) (by show List.Nodup (["k","bag","p"]:List Str);decide+kernel) rfl (Or.inl rfl)),oh,(@bw _ _ _ _ _ _ _ _ _ _ eU (hr.mono (by decide)) (@aa _ _ _ _ _ (pv 1) (@aa _ _ _ _ _ (@cZ _ _ _ _ _ _ _ _ _ (Fy rfl) rfl m6 CS (@aa _ _ _ _ _ (pv 2) (@aa _ _ _ _ _ ai aj rfl) rfl) (by decide) (by decide) (by rfl) (by rfl)) aj rfl) rfl) (by rfl) (by decide) (by rfl) (by rfl))⟩)))) dG) (@aD _ _ _ (@bC _ _ _ _ (jX (gF.of (show iU (aN qM) ["bag","p","n","way"] _ ["k","bag","p"] [none,some 0,some 1]=true by decide+kernel)) (@o7 _ _ _ _ _ _ rfl eB (@aa _ _ _ _ _ (pv 2) aj rfl) (by rfl)) (fun _ _ _ _=>⟨(bB (i:=0) (by show List.Nodup (["k","bag","p"]:List Str);decide+kernel) rfl (Or.inl rfl)),oh,(@bw _ _ _ _ _ _ _ _ _ _ uD (hr.mono (by decide)) (@aa _ _ _ _ _ (pv 1) (@aa _ _ _ _ _ (pv 2) aj rfl) rfl) (by rfl) (by decide) (by rfl) (by rfl))⟩))))))),?_⟩
 refine Sv.pJ hB hlive hnb hds az (ρ:=[.au, .d false _, .d false _, .no]) rfl ?_
 clear az hds
 walk_at "dt"
 intro way w1 w2
 by_cases c:way=2
 ·walk_at "dt"
  refine aE.ev (aE.sq (by decide) rfl ?_)
  walk_at "dt"
  refine jD.ints (fun x=>0<=x/\x<p) ?_ fun os nL hos=>q os (by omega) hos
  rintro i d ⟨hi,rfl⟩
  walk_at "dt"
  refine⟨by walk_at "wk",?_⟩
  walk_at "dt"
  refine Ev.lJ AV rfl ?_
  walk_at "dt"
  refine⟨rfl,p,rfl,p2,g7,fun r r1 r2=>?_⟩
  walk_at "dt"
  intro s s1 s2
  by_cases c2:s=3
  ·walk_at "dt"
   rw[decide_eq_true c2]
   exact⟨by simp;omega,by simp;omega⟩
  ·walk_at "dt"
   rw[decide_eq_false c2]
   exact⟨by simp,by simp;omega⟩
 by_cases c3:way=1
 ·walk_at "dt"
  refine aE.ev (aE.sq (by decide) rfl ?_)
  walk_at "dt"
  refine jD.ints (fun x=>0<=x/\x<p) ?_ fun os nL hos=>q os (by omega) hos
  rintro i d ⟨hi,rfl⟩
  walk_at "dt"
  refine⟨by walk_at "wk",?_⟩
  walk_at "dt"
  intro r r1 r2
  refine⟨r,rfl,r1,?_⟩
  split at r2<;>omega
 ·walk_at "dt"
  refine aE.ev (aE.sq (by decide) rfl ?_)
  walk_at "dt"
  refine jD.ints (fun x=>0<=x/\x<p) ?_ fun os nL hos=>q os (by omega) hos
  rintro i d ⟨hi,rfl⟩
  walk_at "dt"
  refine⟨by walk_at "wk",?_⟩
  walk_at "dt"
  refine Ev.lJ AV rfl ?_
  walk_at "dt"
  exact⟨rfl,p,rfl,p2,g7,fun r r1 r2=>⟨r,rfl,r1,r2⟩⟩
def DC:DF:=fun ds Φ=>∃n wide:Int,ds=[.int n, .int wide]/\1<=n/\n<=420/\1<=wide/\wide<=60/\∀rs:List Int,rs≠[]->rs.length<=420->rs.Pairwise (· < ·)->(∀x∈rs,0<=x/\x<n)->Φ true (.list (rs.map .int))
theorem TQ:fq DC:=by
 intro ds Φ Ψ hm z;revert hm
 walk_at "mo";exact fun q=>fun rs a b c d=>z _ _ (q rs a b c d)
theorem aaE:bY ["bag","n","wide"] ["bag","n","wide"] (aN xF):=⟨rfl,rfl,rfl,by decide+kernel,rfl,by decide+kernel,by decide+kernel⟩
theorem Vw(F:bM K "_law_places" "_law_places" xF f fd)(eU:Callee P w K mg base "_law_draw" 1 ["bag","many"] kG)(kE:mg "sorted"=none)(eH:mg "list"=none)(Gr:mg "set"=none)(eB:mg "range"=none):
  bq P w K mg base bG 2 f fd ["bag","n","wide"] (iG 3 DC):=by
 refine F.ok aaE (fun vs H Q E h=>h.1) (fun cdv A outer s H vs Q E hr h=>?_)
 obtain⟨b,l,ws,nb,ds,Φ,rfl,hB,hlive,hnb,hds,az,hF⟩:=oW h
 obtain⟨n,wide,rfl,n0,n1,w0,w1,q⟩:=hF
 refine⟨_,(@ay _ _ _ _ _ (@cR _ _ _ _ _ _ _ _ (PW.pt (nN (@bA _ _ _ _ _ _ _ _ zQ (pv 1) ai (br _)) (ou (@bA _ _ _ _ _ _ _ _ gX (@bw _ _ _ _ _ _ _ _ _ _ eU (hr.mono (by decide)) (@aa _ _ _ _ _ (pv 0) (@aa _ _ _ _ _ ai aj rfl) rfl) (by rfl) (by decide) (by rfl) (by rfl)) ai (br _))))) (@aD _ _ _ (@bC _ _ _ _ (@lQ _ _ _ _ _ _ _ _ _ (S2 rfl) rfl eH lB (@aa _ _ _ _ _ (@lQ _ _ _ _ _ _ _ _ _ UG rfl eB PyProof.Rows.boot_range (@aa _ _ _ _ _ (pv 1) aj rfl) (by decide) (by decide) (by rfl) (by rfl)) aj rfl) (by decide) (by decide) (by rfl) (by rfl)))) dG) (@aD _ _ _ (@bC _ _ _ _ (@cZ _ _ _ _ _ _ _ _ (xP P w) (Zl rfl) rfl kE AO (@aa _ _ _ _ _ (@lQ _ _ _ _ _ _ _ _ (xC P w K) (YQ rfl) rfl Gr PyProof.Rows.boot_set (@aa _ _ _ _ _ (jX (gF.of (show iU (aN xF) ["bag","n","wide"] _ ["k","bag","n"] [none,some 0,some 1]=true by decide+kernel)) (@o7 _ _ _ _ _ _ rfl eB (@aa _ _ _ _ _ (@aM _ _ _ _ _ _ _ _ gu ai (@bw _ _ _ _ _ _ _ _ _ _ eU (hr.mono (by decide)) (@aa _ _ _ _ _ (pv 0) (@aa _ _ _ _ _ (pv 2) aj rfl) rfl) (by rfl) (by decide) (by rfl) (by rfl))) aj rfl) (by rfl)) (fun _ _ _ _=>⟨(bB (i:=0) (by show List.Nodup (["k","bag","n"]:List Str);decide+kernel) rfl (Or.inl rfl)),oh,(@bw _ _ _ _ _ _ _ _ _ _ eU (hr.mono (by decide)) (@aa _ _ _ _ _ (pv 1) (@aa _ _ _ _ _ (pv 2) aj rfl) rfl) (by rfl) (by decide) (by rfl) (by rfl))⟩)) aj rfl) (by decide) (by decide) (by rfl) (by rfl)) aj rfl) (by decide) (by decide) (by rfl) (by rfl))))),?_⟩
 refine Sv.pJ hB hlive hnb hds az (ρ:=[.au, .d false _, .d false _]) rfl ?_
 clear az hds
 have main:Ev {B:=some (b,l),H0:=H,A:=nb} [Sl.au,Sl.d false (PyData.int n),Sl.d false (PyData.int wide)]
          (fc (xP P w)
           (aX
            (fc (xC P w K)
             (aX
              (kY
               (tV
                (aX
                 (cP (ie fun i j => V.int (i + j)) (tC (V.int 1))
                  (iF kG [] E0 (aX (bf 0) (aX (bf 2) bE))))
                 bE))
               (iK 0) qi (iF kG [] E0 (aX (bf 1) (aX (bf 2) bE)))
               [none,some 0,some 1])
              bE))
            bE)) Φ:=by
  refine aE.ev (aE.acZ (aE.ev (aE.sq (by decide) rfl ?_)))
  walk_at "dt"
  intro m0 m1 m2
  walk_at "dt"
  refine jD.ints (fun x=>0<=x/\x<n) ?_ fun os nL hos=>⟨os,rfl,by omega,fun rs hrs hmem=>?_⟩
  ·rintro i d ⟨hi,rfl⟩
   walk_at "dt"
   refine⟨by walk_at "wk",?_⟩
   walk_at "dt"
   exact fun r r1 r2=>⟨r,rfl,r1,r2⟩
  have hrl:0<rs.length:=by
   have:0<os.length:=by omega
   obtain⟨y,hy⟩:=List.exists_mem_of_length_pos this
   exact List.length_pos_of_mem ((hmem y).mpr hy)
  have ac1:rs.length<=os.length:=C6 (hrs.imp fun h=>by omega) fun k hk=>(hmem k).mp hk
  exact q rs (fun z=>by rw[z] at hrl;simp at hrl) (by omega) hrs fun x hx=>hos x ((hmem x).mp hx)
 walk_at "dt"
 by_cases c:n<=20
 ·rw[if_pos (decide_eq_true c)]
  walk_at "dt"
  intro r r1 r2
  by_cases c2:r=15
  ·walk_at "dt"
   refine aE.ev (aE.ZY ?_)
   walk_at "dt"
   refine q _ ?_ ?_ ?_ ?_
   ·intro z
    have:=congrArg List.length z
    simp at this
    omega
   ·simp;omega
   ·rw[EG]
    exact LO.imp fun h=>by omega
   ·intro x hx
    obtain⟨i,hi,rfl⟩:=c9.mp hx
    have:=qC.mp hi
    omega
  ·walk_at "dt"
   exact main
 ·rw[if_neg (by simpa using c)]
  walk_at "dt"
  exact main
def wJ:Nat->PyData->Prop
 |0,_=>False
 |n+1,d=>i6 d=true\/∃ds,(d= .list ds\/d= .tuple ds)/\ds.length<=10000/\∀e∈ds,wJ n e
theorem Q7{n:Nat}(r:List Int)(h:r.length<=10000):wJ (n+2) (rL r):= .inr ⟨_, .inl rfl,by rw[ao];exact h,fun e he=>by
 obtain⟨o,_,rfl⟩:=c9.mp he
 exact .inl rfl⟩
theorem adf{k:Nat}(d:PyData)(l:List Str)(hd:i6 d=true)(h:l.length<=10000):wJ (k+3) (RY d l):= .inr ⟨_, .inr rfl,(by decide:2<=10000),fun e he=>by
 rcases aL.mp he with rfl|he
 ·exact .inl hd
 rcases aL.mp he with rfl|he
 ·exact .inr ⟨_, .inl rfl,by rw[ao];exact h,fun e he=>by obtain⟨y,_,rfl⟩:=c9.mp he;exact .inl rfl⟩
 ·cases he⟩
def sf(n:Nat):DF:=fun ds Φ=>∃d,ds=[d,d]/\wJ n d/\Φ true (.bool true)
theorem tQ(n:Nat):fq (sf n):=by
 intro ds Φ Ψ hm z;revert hm
 walk_at "mo";exact fun q=>z _ _ q
theorem Xv:∀vs H Q E,¬cK 2 (sf 0) vs H Q E:=fun vs H Q E ⟨_,_,_,_,_,d,_,h,_⟩=>h
theorem abj:bY ["found","due"] ["found","due"] (aN AH):=⟨rfl,rfl,rfl,by decide+kernel,rfl,by decide+kernel,by decide+kernel⟩
theorem ya(n:Nat)(F:bM K "_law_alike" "_law_alike" AH f fd)(uM:Callee P w K mg base "_law_alike" (n) ["found","due"] (cK 2 (sf n)))(jA:mg "isinstance"=none)(eH:mg "list"=none)(pM:mg "tuple"=none)(qt:mg "all"=none)(c8:mg "len"=none)(oQ:mg "bool"=none)(lK:mg "int"=none)(pL:mg "str"=none)(eB:mg "range"=none):
  bq P w K mg base bG (n+1) f fd ["found","due"] (cK 2 (sf (n+1))):=by
 refine F.ok abj (fun vs H Q E h=>h.1) (fun cdv A outer s H vs Q E hr h=>?_)
 obtain⟨nb,ds,Φ,hlive,hds,az,hF⟩:=jK h
 obtain⟨d,rfl,hok,q⟩:=hF
 refine⟨_,(@ay _ _ _ _ _ (@cR _ _ _ _ _ _ _ _ (@qo _ (K) _ _ rfl (@cZ _ _ _ _ _ _ _ _ (zu) OX rfl jA lP (@aa _ _ _ _ _ (pv 1) (@aa _ _ _ _ _ (@gc _ _ _ _ _ (@aa _ _ _ _ _ (kN (v:= .ty "list") rfl eH lB rfl) (@aa _ _ _ _ _ (kN (v:= .ty "tuple") rfl pM N8 rfl) aj rfl) rfl)) aj rfl) rfl) (by decide) (by decide) (by rfl) (by rfl)) (fun _=>rfl)) (@ay _ _ _ _ _ (@cR _ _ _ _ _ _ _ _ (PW.pt (rE (@rq _ _ _ _ (@qo _ (K) _ _ rfl (@cZ _ _ _ _ _ _ _ _ (zu) OX rfl jA lP (@aa _ _ _ _ _ (pv 0) (@aa _ _ _ _ _ (@gc _ _ _ _ _ (@aa _ _ _ _ _ (kN (v:= .ty "list") rfl eH lB rfl) (@aa _ _ _ _ _ (kN (v:= .ty "tuple") rfl pM N8 rfl) aj rfl) rfl)) aj rfl) rfl) (by decide) (by decide) (by rfl) (by rfl)) (fun _=>rfl))) (yg (@bA _ _ _ _ _ _ _ _ nk (@cZ _ _ _ _ _ _ _ _ (lX K) oJ rfl jA lP (@aa _ _ _ _ _ (pv 0) (@aa _ _ _ _ _ (kN (v:= .ty "list") rfl eH lB rfl) aj rfl) rfl) (by decide) (by decide) (by rfl) (by rfl)) (@cZ _ _ _ _ _ _ _ _ (lX K) oJ rfl jA lP (@aa _ _ _ _ _ (pv 1) (@aa _ _ _ _ _ (kN (v:= .ty "list") rfl eH lB rfl) aj rfl) rfl) (by decide) (by decide) (by rfl) (by rfl)) (br _))))) (@aD _ _ _ (@bC _ _ _ _ sy)) dG) (@ay _ _ _ _ _ (@cR _ _ _ _ _ _ _ _ (@bA _ _ _ _ _ _ _ _ nk (@cZ _ _ _ _ _ _ _ _ (iB K) jq rfl c8 jl (@aa _ _ _ _ _ (pv 0) aj rfl) (by decide) (by decide) (by rfl) (by rfl)) (@cZ _ _ _ _ _ _ _ _ (iB K) jq rfl c8 jl (@aa _ _ _ _ _ (pv 1) aj rfl) (by decide) (by decide) (by rfl) (by rfl)) (br _)) (@aD _ _ _ (@bC _ _ _ _ sy)) dG) (@aD _ _ _ (@bC _ _ _ _ (@cZ _ _ _ _ _ _ _ _ (Gm K) (acI rfl) rfl qt PyProof.Rows.boot_all (@aa _ _ _ _ _ (jX (gF.of (show iU (aN AH) ["found","due"] _ ["k","found","due"] [none,some 0,some 1]=true by decide+kernel)) (@o7 _ _ _ _ _ _ rfl eB (@aa _ _ _ _ _ (@cZ _ _ _ _ _ _ _ _ (iB K) jq rfl c8 jl (@aa _ _ _ _ _ (pv 1) aj rfl) (by decide) (by decide) (by rfl) (by rfl)) aj rfl) (by rfl)) (fun _ _ _ _=>⟨(bB (i:=0) (by show List.Nodup (["k","found","due"]:List Str);decide+kernel) rfl (Or.inl rfl)),oh,(@bw _ _ _ _ _ _ _ _ _ _ uM (hr.mono (aU _)) (@aa _ _ _ _ _ (@aF _ _ _ _ _ _ (xO K) LN (pv 1) (pv 0) (fun _ _=>rfl)) (@aa _ _ _ _ _ (@aF _ _ _ _ _ _ (xO K) LN (pv 2) (pv 0) (fun _ _=>rfl)) aj rfl) rfl) (by rfl) (by decide) (by rfl) (by rfl))⟩)) aj rfl) (by decide) (by decide) (by rfl) (by rfl)))))) dG) (@ay _ _ _ _ _ (@cR _ _ _ _ _ _ _ _ (PW.pt (rE (@bA _ _ _ _ _ _ _ _ nk (@cZ _ _ _ _ _ _ _ _ (lX K) oJ rfl jA lP (@aa _ _ _ _ _ (pv 0) (@aa _ _ _ _ _ (kN (v:= .ty "bool") rfl oQ JS rfl) aj rfl) rfl) (by decide) (by decide) (by rfl) (by rfl)) (@cZ _ _ _ _ _ _ _ _ (lX K) oJ rfl jA lP (@aa _ _ _ _ _ (pv 1) (@aa _ _ _ _ _ (kN (v:= .ty "bool") rfl oQ JS rfl) aj rfl) rfl) (by decide) (by decide) (by rfl) (by rfl)) (br _)) (yg (@bA _ _ _ _ _ _ _ _ nk (@cZ _ _ _ _ _ _ _ _ (lX K) oJ rfl jA lP (@aa _ _ _ _ _ (pv 0) (@aa _ _ _ _ _ (kN (v:= .ty "int") rfl lK Gb rfl) aj rfl) rfl) (by decide) (by decide) (by rfl) (by rfl)) (@cZ _ _ _ _ _ _ _ _ (lX K) oJ rfl jA lP (@aa _ _ _ _ _ (pv 1) (@aa _ _ _ _ _ (kN (v:= .ty "int") rfl lK Gb rfl) aj rfl) rfl) (by decide) (by decide) (by rfl) (by rfl)) (br _))))) (@aD _ _ _ (@bC _ _ _ _ sy)) dG) (@aD _ _ _ (@bC _ _ _ _ (@MY _ _ _ _ _ _ _ (@oG _ _ _ _ _ _ _ _ gX (@cZ _ _ _ _ _ _ _ _ (lX K) oJ rfl jA lP (@aa _ _ _ _ _ (pv 0) (@aa _ _ _ _ _ (kN (v:= .ty "str") rfl pL Kq rfl) aj rfl) rfl) (by decide) (by decide) (by rfl) (by rfl)) (@cZ _ _ _ _ _ _ _ _ (lX K) oJ rfl jA lP (@aa _ _ _ _ _ (pv 1) (@aa _ _ _ _ _ (kN (v:= .ty "str") rfl pL Kq rfl) aj rfl) rfl) (by decide) (by decide) (by rfl) (by rfl)) (br _)) (@Ke _ _ _ _ _ (@oG _ _ _ _ _ _ _ _ gX (pv 0) (pv 1) (br _)))))))),?_⟩
 refine Sv.jG hlive hds az (ρ:=[.d false _, .d false _]) rfl ?_
 clear az hds
 walk_at "dt"
 rcases hok with hs|⟨ds,hd,hl,he⟩
 ·have h1:(jS d "list" ||jS d "tuple")=false:=by cases d<;>first|rfl|cases hs
  rw[h1]
  walk_at "dt"
  rw[beq_self_eq_true]
  walk_at "dt"
  rw[beq_self_eq_true]
  walk_at "dt"
  rw[beq_self_eq_true]
  walk_at "dt"
  exact⟨true, .self hs,q⟩
 rcases hd with rfl|rfl
 ·rw[(LW ds).1,(LW ds).2,z0]
  walk_at "dt"
  refine aE.ev (aE.sq (by decide) rfl ?_)
  walk_at "dt"
  refine⟨true,fun i es=>es=List.replicate i (.bool true),rfl,?_,?_⟩
  ·rintro i d' es ⟨hi,rfl⟩ hl' rfl
   have hi':i<ds.length:=by omega
   have hat:cO ds (0+(i:Int))=some ds[i]:=lD (by omega) (by rw[show(0+(i:Int)).toNat=i by omega];exact bP hi')
   walk_at "dt"
   refine⟨by walk_at "wk",?_⟩
   walk_at "dt"
   refine Ev.gG (tQ n) ?_
   walk_at "dt"
   refine⟨rfl,ds[i],rfl,he _ (mj hi'),fun _=>rfl,?_⟩
   show _=List.replicate (i+1) _
   rw[OE]
  ·rintro es hl' rfl
   refine⟨List.replicate ds.length true,by simp,?_⟩
   rw[show(List.replicate ds.length true).all id=true by simp]
   exact q
 ·rw[(Mu ds).1,(Mu ds).2,se]
  walk_at "dt"
  refine aE.ev (aE.sq (by decide) rfl ?_)
  walk_at "dt"
  refine⟨true,fun i es=>es=List.replicate i (.bool true),rfl,?_,?_⟩
  ·rintro i d' es ⟨hi,rfl⟩ hl' rfl
   have hi':i<ds.length:=by omega
   have hat:cO ds (0+(i:Int))=some ds[i]:=lD (by omega) (by rw[show(0+(i:Int)).toNat=i by omega];exact bP hi')
   walk_at "dt"
   refine⟨by walk_at "wk",?_⟩
   walk_at "dt"
   refine Ev.gG (tQ n) ?_
   walk_at "dt"
   refine⟨rfl,ds[i],rfl,he _ (mj hi'),fun _=>rfl,?_⟩
   show _=List.replicate (i+1) _
   rw[OE]
  ·rintro es hl' rfl
   refine⟨List.replicate ds.length true,by simp,?_⟩
   rw[show(List.replicate ds.length true).all id=true by simp]
   exact q
def Cg:DF:=fun ds Φ=>∃(prs:bz) (wd:Wo),ds=[fE prs,dN wd]/\prs.length<=10000/\pW prs wd.length/\Φ true (.list (((bK wd prs).map (·.1)).map .int))
theorem VT:fq Cg:=by
 intro ds Φ Ψ hm z;revert hm
 walk_at "mo";exact fun q=>z _ _ q
theorem RD:bY ["pairs","word"] ["pairs","word"] (aN xj):=⟨rfl,rfl,rfl,by decide+kernel,rfl,by decide+kernel,by decide+kernel⟩
theorem VP(F:bM K "_law_gaps" "_law_gaps" xj f fd):
    bq P w K mg base bG 1 f fd ["pairs","word"] (cK 2 Cg):=by
  refine F.ok RD (fun vs H Q E h=>h.1) (fun cdv A outer s H vs Q E hr h=>?_)
  obtain⟨nb,ds,Φ,hlive,hds,az,hF⟩:=jK h
  obtain⟨prs,wd,rfl,hl,hok,q⟩:=hF
  refine⟨_,(@aD _ _ _ (@bC _ _ _ _ (jX (gF.of (show iU (aN xj) ["pairs","word"] _ ["place","factor","word"] [none,none,some 1]=true by decide+kernel)) (iz (K:=K) rfl (pv 0)) (fun _ _ _ _=>⟨(@jM _ (K) _ _ _ (2) _ rfl rfl (@dj _ _ _ _ _ (bB (i:=0) (by show List.Nodup (["place","factor","word"]:List Str);decide+kernel) rfl (Or.inl rfl)) (@dj _ _ _ _ _ (bB (i:=1) (by show List.Nodup (["place","factor","word"]:List Str);decide+kernel) rfl (Or.inl rfl)) jx (by rfl)) (by rfl)) (by rfl) (by rfl)),(pZ (@bA _ _ _ _ _ _ _ _ oU (@aF _ _ _ _ _ _ (dS K) cC (pv 2) (pv 0) (fun _ _=>rfl)) iD (br _))),(pv 0)⟩)))),?_⟩
  refine Sv.jG hlive hds az (ρ:=[.d false _, .d false _]) rfl ?_
  clear az hds
  have nj:(prs.map pairD).length=prs.length:=ao ..
  refine Sv.ret ?_
  refine aE.ev (aE.uT (by decide) rfl ?_)
  walk_at "dt"
  refine fun v=>⟨true,fun i ds=>ds=((bK wd (prs.take i)).map (·.1)).map PyData.int,rfl,?_,?_⟩
  · rintro i d ds hd hl' rfl
    obtain⟨pr,eV,rfl⟩:=gJ hd
    have hr:=hok pr (dg eV)
    obtain⟨o,ho,hat⟩:=pI (xs:=wd) bF (k:=pr.1) hr.1 hr.2.1 rfl
    walk_at "dt"
    refine⟨by walk_at "wk",?_⟩
    walk_at "dt"
    rw[vg]
    cases o with
    | none =>
      walk_at "dt"
      show _=List.map _ (List.map _ (bK wd (prs.take (i+1))))
      unfold bK
      rw[take_snoc eV,qq,oF (by rw[ho];rfl)]
      simp
    | some x =>
      walk_at "dt"
      show _=List.map _ (List.map _ (bK wd (prs.take (i+1))))
      unfold bK
      rw[take_snoc eV,qq,om (by rw[ho];simp)]
      simp
  · rintro ds hl' rfl
    rw[nj,jF]
    rw[z0]
    exact q
def EV:DF:=fun ds Φ=>∃p n:Int,ds=[.int p, .int n]/\gp p/\p<10^40/\1<=n/\n<=60/\∀prs:bz,m8 p n prs->prs.length<=420->Φ true (fE prs)
theorem Zg:fq EV:=by
 intro ds Φ Ψ hm z;revert hm
 walk_at "mo";exact fun q=>fun prs a b=>z _ _ (q prs a b)
theorem Qf:bY ["bag","p","n","wide"] ["bag","p","n"] (aN wu):=⟨rfl,rfl,rfl,by decide+kernel,rfl,by decide+kernel,by decide+kernel⟩
theorem QM(F:bM K "_law_pairs" "_law_pairs" wu f fd)(eU:Callee P w K mg base "_law_draw" 1 ["bag","many"] kG)(acD:Callee P w K mg base "_law_factor" 2 ["bag","p"] (iG 2 EA))(acr:Callee P w K mg base "_law_places" 2 ["bag","n","wide"] (iG 3 DC)):
  bq P w K mg base bG 3 f fd ["bag","p","n"] (iG 3 EV):=by
 refine F.ok Qf (fun vs H Q E h=>h.1) (fun cdv A outer s H vs Q E hr h=>?_)
 obtain⟨b,l,ws,nb,ds,Φ,rfl,hB,hlive,hnb,hds,az,hF⟩:=oW h
 obtain⟨p,n,rfl,hp,g7,n1,n4,q⟩:=hF
 refine⟨_,(@ay _ _ _ _ _ (@aV _ _ (3) _ _ _ _ Qf.nd rfl (Or.inl rfl) (@aF _ _ _ _ _ _ (dS K) cC (@iw _ _ _ _ (@aa _ _ _ _ _ ai (@aa _ _ _ _ _ ai (@aa _ _ _ _ _ ai (@aa _ _ _ _ _ ai (@aa _ _ _ _ _ ai (@aa _ _ _ _ _ (pv 2) aj rfl) rfl) rfl) rfl) rfl) rfl)) (@bw _ _ _ _ _ _ _ _ _ _ eU (hr.mono (by decide)) (@aa _ _ _ _ _ (pv 0) (@aa _ _ _ _ _ ai aj rfl) rfl) (by rfl) (by decide) (by rfl) (by rfl)) (fun _ _=>rfl)) (by rfl) (by first|exact .inl rfl|exact .inr rfl|assumption)) (@aD _ _ _ (@bC _ _ _ _ (jX (gF.of (show iU (aN wu) ["bag","p","n","wide"] _ ["place","bag","p"] [none,some 0,some 1]=true by decide+kernel)) (iz (K:=K) rfl (@bw _ _ _ _ _ _ _ _ _ _ acr (hr.mono (by decide)) (@aa _ _ _ _ _ (pv 0) (@aa _ _ _ _ _ (pv 2) (@aa _ _ _ _ _ (pv 3) aj rfl) rfl) rfl) (by rfl) (by decide) (by rfl) (by rfl))) (fun _ _ _ _=>⟨(bB (i:=0) (by show List.Nodup (["place","bag","p"]:List Str);decide+kernel) rfl (Or.inl rfl)),oh,(@gc _ _ _ _ _ (@aa _ _ _ _ _ (pv 0) (@aa _ _ _ _ _ (@bw _ _ _ _ _ _ _ _ _ _ acD (hr.mono (by decide)) (@aa _ _ _ _ _ (pv 1) (@aa _ _ _ _ _ (pv 2) aj rfl) rfl) (by rfl) (by decide) (by rfl) (by rfl)) aj rfl) rfl))⟩))))),?_⟩
 refine Sv.pJ hB hlive hnb hds az (ρ:=[.au, .d false _, .d false _, .no]) rfl ?_
 clear az hds
 walk_at "dt"
 intro w w0 w1
 obtain⟨m,em,m0,m1⟩:=pick (L:=[2,3,5,2,3,n]) w0 (by show w<6;omega) (fun x=>1<=x/\x<=60) (by simp;omega)
 refine⟨_,rfl,_,em,?_⟩
 refine Gv.pV ?_
 walk_at "dt"
 refine aE.ev (aE.uT (by decide) rfl ?_)
 refine Ev.lJ TQ rfl ?_
 walk_at "dt"
 refine⟨rfl,n,m,rfl,n1,by omega,m0,m1,fun rs r0 r1 r2 r3=>?_⟩
 refine⟨_,rfl,by rw[ao];omega,fun v=>jD.rel pairD true (fun i pr=>rs[i]?=some pr.1/\0<pr.2/\pr.2<p) ?_ fun prs hpl Nc=>?_⟩
 ·rintro j d hd
  obtain⟨x,hx,rfl⟩:=gJ hd
  walk_at "dt"
  refine⟨by walk_at "wk",?_⟩
  walk_at "dt"
  refine Ev.lJ ZH rfl ?_
  walk_at "dt"
  refine⟨rfl,p,rfl,hp,g7,fun y y1 y2=>?_⟩
  walk_at "dt"
  exact⟨fun _=>rfl,(x,y),rfl,hx,y1,y2⟩
 rw[ao] at hpl
 have hmap:prs.map (·.1)=rs:=by
  apply ja
  intro i
  rw[bI]
  by_cases hi:i<prs.length
  ·have e:=bP hi
   rw[(Nc i _ e).1,e];rfl
  ·rw[fN (by omega),fN (by omega)];rfl
 refine q prs ⟨fun z=>r0 (by rw[<-hmap,z];rfl),?_,fun pr eV=>?_⟩ (by omega)
 ·rw[<-hmap,EG] at r2
  exact r2
 ·obtain⟨k,hk⟩:=qd eV
  obtain⟨e1,e2,e3⟩:=Nc k pr hk
  obtain⟨g1,g2⟩:=r3 _ (dg e1)
  exact⟨g1,g2,by omega,e3⟩
def DX:DF:=fun ds Φ=>∃(p n many:Int) (es:aR),ds=[.int p, .int n, .list (es.map bR)]/\aS p n many es/\uh p n/\Φ true (.tuple [dN (eT p n es).wd, .list (eZ n (eT p n es))])
theorem acA:fq DX:=by
 intro ds Φ Ψ hm z;revert hm
 walk_at "mo";exact fun q=>z _ _ q
theorem kg:bY ["p","n","deeds","letters","why","number","deed","turn","ahead","gaps","place","factor"] ["p","n","deeds"] (aN xV):=⟨rfl,rfl,rfl,by decide+kernel,rfl,by decide+kernel,by decide+kernel⟩
theorem Rp(F:bM K "_law_picture" "_law_picture" xV f fd)(QU:Callee P w K mg base "_law_over" 1 ["p","a","b"] (cK 3 EY))(ue:Callee P w K mg base "_law_sum" 1 ["p","pairs","word"] (cK 3 qV))(eB:mg "range"=none)(eH:mg "list"=none)(c8:mg "len"=none):
    bq P w K mg base bG 2 f fd ["p","n","deeds"] (cK 3 DX):=by
  refine F.ok kg (fun vs H Q E h=>h.1) (fun cdv A outer s H vs Q E hr h=>?_)
  obtain⟨nb,ds,Φ,hlive,hds,az,hF⟩:=jK h
  obtain⟨p,n,many,es,rfl,hok,hn,q⟩:=hF
  refine⟨_,(@ay _ _ _ _ _ (@aV _ _ (3) _ _ _ _ kg.nd rfl (Or.inl rfl) (@aM _ _ _ _ _ _ _ _ Fc (@iw _ _ _ _ (@aa _ _ _ _ _ iD aj rfl)) (pv 1)) (by rfl) (by first|exact .inl rfl|exact .inr rfl|assumption)) (@ay _ _ _ _ _ (@aV _ _ (4) _ _ _ _ kg.nd rfl (Or.inl rfl) (@aM _ _ _ _ _ _ _ _ Fc (@iw _ _ _ _ (@aa _ _ _ _ _ iD aj rfl)) (pv 1)) (by rfl) (by first|exact .inl rfl|exact .inr rfl|assumption)) (@ay _ _ _ _ _ (@jd _ _ _ _ _ _ _ _ iA rfl (iz (K:=K) rfl (pv 2)) (@jM _ (K) _ _ _ (2) _ rfl rfl (@dj _ _ _ _ _ (bB (i:=5) kg.nd rfl (Or.inl rfl)) (@dj _ _ _ _ _ (bB (i:=6) kg.nd rfl (Or.inl rfl)) jx (by rfl)) (by rfl)) (by rfl) (by rfl)) (@aD _ _ _ (@cR _ _ _ _ _ _ _ _ (PW.pt (nN (@bA _ _ _ _ _ _ _ _ gX (@aF _ _ _ _ _ _ (bU K) cy (pv 6) ai (fun _ _=>rfl)) l5 (br _)) (ou (@bA _ _ _ _ _ _ _ _ oU (@aF _ _ _ _ _ _ (dS K) cC (pv 4) (@aF _ _ _ _ _ _ (bU K) cy (pv 6) ai (fun _ _=>rfl)) (fun _ _=>rfl)) iD (br _))))) (@ay _ _ _ _ _ (@gC _ _ _ _ _ _ (@aF _ _ _ _ _ _ (bU K) cy (pv 6) ai (fun _ _=>rfl)) (jf (pv 3) (@aF _ _ _ _ _ _ (bU K) cy (pv 6) ai (fun _ _=>rfl)) set_list) (by rfl) (by rfl) (by rfl)) (@aD _ _ _ (@gC _ _ _ _ _ _ (@gc _ _ _ _ _ (@aa _ _ _ _ _ l5 (@aa _ _ _ _ _ (pv 5) aj rfl) rfl)) (jf (pv 4) (@aF _ _ _ _ _ _ (bU K) cy (pv 6) ai (fun _ _=>rfl)) set_list) (by rfl) (by rfl) (by rfl)))) dG)) (by intro _;rfl)) (@ay _ _ _ _ _ (@jd _ _ _ _ _ _ _ _ iA rfl (@E9 _ _ _ _ _ _ _ rfl eB (@aa _ _ _ _ _ ai (@aa _ _ _ _ _ (@aM _ _ _ _ _ _ _ _ gu (pv 1) ai) aj rfl) rfl) (by rfl) (by rfl)) (bB (i:=7) kg.nd rfl (Or.inl rfl)) (@ay _ _ _ _ _ (@aV _ _ (8) _ _ _ _ kg.nd rfl (Or.inr rfl) (@lQ _ _ _ _ _ _ _ _ (l8 K) xZ rfl eH lB (@aa _ _ _ _ _ (pv 3) aj rfl) (by decide) (by decide) (by rfl) (by rfl)) (by rfl) (by first|exact .inl rfl|exact .inr rfl|assumption)) (@ay _ _ _ _ _ (@jd _ _ _ _ _ _ _ _ iA rfl (iz (K:=K) rfl (pv 2)) (@jM _ (K) _ _ _ (2) _ rfl rfl (@dj _ _ _ _ _ (bB (i:=5) kg.nd rfl (Or.inl rfl)) (@dj _ _ _ _ _ (bB (i:=6) kg.nd rfl (Or.inl rfl)) jx (by rfl)) (by rfl)) (by rfl) (by rfl)) (@ay _ _ _ _ _ (@aV _ _ (9) _ _ _ _ kg.nd rfl (Or.inl rfl) (@iw _ _ _ _ aj) (by rfl) (by first|exact .inl rfl|exact .inr rfl|assumption)) (@ay _ _ _ _ _ (@cR _ _ _ _ _ _ _ _ (@bA _ _ _ _ _ _ _ _ gX (@aF _ _ _ _ _ _ (bU K) cy (pv 6) ai (fun _ _=>rfl)) l5 (br _)) (@aD _ _ _ (KJ (i:=9) kg.nd rfl rfl (gF.of (show iU (aN xV) ["p","n","deeds","letters","why","number","deed","turn","ahead","gaps","place","factor"] _ ["pair","ahead"] [none,some 8]=true by decide+kernel)) (iz (K:=K) rfl (@aF _ _ _ _ _ _ (bU K) cy (pv 6) ai (fun _ _=>rfl))) (fun _ _ _ _=>⟨(bB (i:=0) (by show List.Nodup (["pair","ahead"]:List Str);decide+kernel) rfl (Or.inl rfl)),(pZ (@bA _ _ _ _ _ _ _ _ oU (@aF _ _ _ _ _ _ (dS K) cC (pv 1) (@aF _ _ _ _ _ _ (bU K) cy (pv 0) ai (fun _ _=>rfl)) (fun _ _=>rfl)) iD (br _))),(pv 0)⟩))) dG) (@aD _ _ _ (@cR _ _ _ _ _ _ _ _ (PW.pt (nN (@bA _ _ _ _ _ _ _ _ gX (@cZ _ _ _ _ _ _ _ _ (iB K) jq rfl c8 jl (@aa _ _ _ _ _ (pv 9) aj rfl) (by decide) (by decide) (by rfl) (by rfl)) ai (br _)) (ou (@bA _ _ _ _ _ _ _ _ oU (@aF _ _ _ _ _ _ (dS K) cC (pv 3) (@aF _ _ _ _ _ _ (bU K) cy (@aF _ _ _ _ _ _ (dS K) cC (pv 9) ai (fun _ _=>rfl)) ai (fun _ _=>rfl)) (fun _ _=>rfl)) iD (br _))))) (@ay _ _ _ _ _ (@gC _ _ _ _ _ _ (@aF _ _ _ _ _ _ (dS K) cC (pv 9) ai (fun _ _=>rfl)) (@jM _ (K) _ _ _ (2) _ rfl rfl (@dj _ _ _ _ _ (bB (i:=10) kg.nd rfl (Or.inl rfl)) (@dj _ _ _ _ _ (bB (i:=11) kg.nd rfl (Or.inl rfl)) jx (by rfl)) (by rfl)) (by rfl) (by rfl)) (by rfl) (by rfl) (by rfl)) (@ay _ _ _ _ _ (@gC _ _ _ _ _ _ (@bw _ _ _ _ _ _ _ _ _ _ QU (hr.mono (by decide)) (@aa _ _ _ _ _ (pv 0) (@aa _ _ _ _ _ (@aM _ _ _ _ _ _ _ _ mX (@aF _ _ _ _ _ _ (bU K) cy (pv 6) ai (fun _ _=>rfl)) (@bw _ _ _ _ _ _ _ _ _ _ ue (hr.mono (by decide)) (@aa _ _ _ _ _ (pv 0) (@aa _ _ _ _ _ (@aF _ _ _ _ _ _ (bU K) cy (pv 6) ai (fun _ _=>rfl)) (@aa _ _ _ _ _ (pv 8) aj rfl) rfl) rfl) (by rfl) (by decide) (by rfl) (by rfl))) (@aa _ _ _ _ _ (pv 11) aj rfl) rfl) rfl) (by rfl) (by decide) (by rfl) (by rfl)) (jf (pv 3) (pv 10) set_list) (by rfl) (by rfl) (by rfl)) (@aD _ _ _ (@gC _ _ _ _ _ _ (@gc _ _ _ _ _ (@aa _ _ _ _ _ l5 (@aa _ _ _ _ _ (pv 5) (@aa _ _ _ _ _ (pv 7) aj rfl) rfl) rfl)) (jf (pv 4) (pv 10) set_list) (by rfl) (by rfl) (by rfl))))) dG)))) (by intro _;rfl)) (@aD _ _ _ (@cR _ _ _ _ _ _ _ _ (@bA _ _ _ _ _ _ _ _ (EH hr.units) (pv 3) (pv 8) (br _)) (@aD _ _ _ (@bC _ _ _ _ (@gc _ _ _ _ _ (@aa _ _ _ _ _ (pv 3) (@aa _ _ _ _ _ (pv 4) aj rfl) rfl)))) dG)))) (by intro _;rfl)) (@aD _ _ _ (@bC _ _ _ _ (@gc _ _ _ _ _ (@aa _ _ _ _ _ (pv 3) (@aa _ _ _ _ _ (pv 4) aj rfl) rfl)))))))),?_⟩
  refine Sv.jG hlive hds az (ρ:=[.d false _, .d false _, .d false _, .no, .no, .no, .no, .no, .no, .no, .no, .no]) rfl ?_
  clear az hds
  have hp0:0<p:=by have:=hn.1.1;omega
  have hel:=hok.len
  have hn0:=hn.2.2.1
  have Xp:=hn.2.2.2
  refine Sv.seq (Sv.Cb (aE.rep (d:= .none) (Ev.aI ⟨rfl,rfl,Ev.var rfl ⟨n,rfl,?_⟩⟩)))
  refine⟨by omega,by omega,fun A3=>?_⟩
  refine Sv.seq (Sv.Cb (aE.rep (d:= .none) (Ev.aI ⟨rfl,rfl,Ev.var rfl ⟨n,rfl,?_⟩⟩)))
  refine⟨by omega,by omega,fun A4=>?_⟩
  refine Sv.seq ?_
  refine Sv.forL (Ev.var rfl ⟨_,rfl,fun v=>?_⟩)
  refine⟨fun i ρ=>∃(f3:Bool) (x5 x6 x7 x8 x9 ku kK:Sl),ρ=[.d false (.int p), .d false (.int n), .d false (.list (es.map bR)), .own A3 f3 ((er n (es.take i)).wd.map bF), .own A4 true (eZ n (er n (es.take i))),x5,x6,x7,x8,x9,ku,kK],⟨true,_,_,_,_,_,_,_,by rw[uW,(Mq n).1,(Mq n).2,Gp];rfl⟩,?_,?_⟩
  · rintro i d ρ hd ⟨f3,x5,x6,x7,x8,x9,ku,kK,rfl⟩
    obtain⟨⟨k,de⟩,hq,rfl⟩:=gJ hd
    have hm:=dg hq
    have hts:=take_snoc hq
    have hwl:(er n (es.take i)).wd.length=n.toNat:=by show((List.range n.toNat).map _).length=_;rw[ao,ig]
    cases de with
    | lt a b =>
      obtain⟨a0,a1,b0,b1⟩:0<=a/\a<n/\0<=b/\b<p:=hok.ok _ hm
      rw[show bR (k, .lt a b)= .tuple [.int k, .tuple [.str "letter", .int a, .int b]] from rfl]
      walk_at "dt"
      refine⟨_, .ss _,_,rfl,?_⟩
      rw[if_pos rfl]
      walk_at "dt"
      refine⟨_,VS a0 a1,?_⟩
      rw[vo a0 a1]
      cases hf:dB (es.take i) a with
      | none =>
        obtain⟨g1,g2⟩:=Tc (n:=n) (k:=k) (b:=b) a0 a1 hf
        refine⟨true,rfl,?_⟩
        rw[if_pos rfl]
        walk_at "dt"
        refine⟨a,a.toNat,rfl,BC a0 (by rw[ao,hwl];omega),?_⟩
        walk_at "dt"
        refine⟨a,a.toNat,rfl,BC a0 (by rw[Oq];omega),?_⟩
        show∃(f3:Bool) (y5 y6 y7 y8 y9 iS jj:Sl),(_:Rh)=[.d false (.int p), .d false (.int n), .d false (.list (es.map bR)), .own A3 f3 ((er n (es.take (i+1))).wd.map bF), .own A4 true (eZ n (er n (es.take (i+1)))),y5,y6,y7,y8,y9,iS,jj]
        rw[hts,g1,g2,Ft]
        exact⟨_,_,_,_,_,_,_,_,rfl⟩
      | some z =>
        obtain⟨g1,g2⟩:=P1 (n:=n) (ts:=es.take i) (q:=(k, .lt a b)) fun a' h=>by
          unfold ltAt at h
          dsimp only at h
          by_cases c:a=a'
          · rw[<-c,hf];exact eO _
          · rw[if_neg c] at h;exact absurd rfl h
        refine⟨false,rfl,?_⟩
        rw[if_neg bV]
        walk_at "dt"
        show∃(f3:Bool) (y5 y6 y7 y8 y9 iS jj:Sl),(_:Rh)=[.d false (.int p), .d false (.int n), .d false (.list (es.map bR)), .own A3 f3 ((er n (es.take (i+1))).wd.map bF), .own A4 true (eZ n (er n (es.take (i+1)))),y5,y6,y7,y8,y9,iS,jj]
        rw[hts,g1,g2]
        exact⟨_,_,_,_,_,_,_,_,rfl⟩
    | ck prs r =>
      rw[show bR (k, .ck prs r)= .tuple [.int k, .tuple [.str "check",fE prs, .int r]] from rfl]
      walk_at "dt"
      refine⟨_, .sd _ _,_,rfl,?_⟩
      rw[show decide (Str.ofString "check"=Str.ofString "letter")=false by decide,if_neg (by decide)]
      rw[if_neg (by decide)]
      walk_at "dt"
      obtain⟨g1,g2⟩:=P1 (n:=n) (ts:=es.take i) (q:=(k, .ck prs r)) fun a' h=>absurd rfl h
      show∃(f3:Bool) (y5 y6 y7 y8 y9 iS jj:Sl),(_:Rh)=[.d false (.int p), .d false (.int n), .d false (.list (es.map bR)), .own A3 f3 ((er n (es.take (i+1))).wd.map bF), .own A4 true (eZ n (er n (es.take (i+1)))),y5,y6,y7,y8,y9,iS,jj]
      rw[hts,g1,g2]
      exact⟨_,_,_,_,_,_,_,_,rfl⟩
  · rintro ρ ⟨f3,x5,x6,x7,x8,x9,ku,kK,rfl⟩
    rw[ao,jF]
    refine Sv.lift 3 rfl (yN _) ?_
    refine Sv.seq ?_
    refine Sv.abd (Ev.int ⟨1,rfl,Ev.ie (Ev.var rfl ⟨n,rfl,Ev.int ⟨2,rfl,n+2,rfl,by omega,?_⟩⟩)⟩)
    have e1:(n+2-1).toNat=n.toNat+1:=by omega
    rw[e1]
    refine⟨fun t ρ=>∃(y5 y6 y7 y8 y9 iS jj:Sl),ρ=[.d false (.int p), .d false (.int n), .d false (.list (es.map bR)), .own A3 true ((bJ p n es t).wd.map bF), .own A4 true (eZ n (bJ p n es t)),y5,y6,y7,y8,y9,iS,jj],⟨_,_,_,_,_,_,_,rfl⟩,?_,?_⟩
    · rintro t d ρ ⟨ht,rfl⟩ ⟨y5,y6,y7,y8,y9,iS,jj,rfl⟩
      obtain⟨i1,i2,i3⟩:=nZ hp0 hok t
      have eN:bJ p n es (t+1)=cV p es ((t:Int)+1) (bJ p n es t):=rfl
      have Mi:(cV p es ((t:Int)+1) (bJ p n es t)).wd=(bJ p n es t).wd->eT p n es=bJ p n es (t+1):=fun h=>by
        have hf:=V6 hok hp0 i1 h
        have h1:=yt (n:=n) hf (n.toNat+1-t)
        rw[show t+(n.toNat+1-t)=n.toNat+1 by omega] at h1
        have h2:=yt (n:=n) hf 1
        exact h1.trans h2.symm
      rw[eN] at Mi
      refine Gv.pV ?_
      rw[show(1+(t:Int))=(t:Int)+1 by omega]
      simp only[eN]
      generalize bJ p n es t=c at*
      clear eN
      have vz:nU c.wd:=fun x m=>by
        have:=i3 x m
        have Ga:=hn.2.1
        unfold Sm;omega
      walk_at "dt"
      refine Sv.forL (Ev.var rfl ⟨_,rfl,fun v=>?_⟩)
      refine⟨fun j ρ=>∃(y5 y6 y9 iS jj:Sl),ρ=[.d false (.int p), .d false (.int n), .d false (.list (es.map bR)), .own A3 true ((cV p (es.take j) ((t:Int)+1) c).wd.map bF), .own A4 true (eZ n (cV p (es.take j) ((t:Int)+1) c)),y5,y6, .d true (.int ((t:Int)+1)), .d false (dN c.wd),y9,iS,jj],⟨_,_,_,_,_,by rw[uW,(MM i1).1,(MM i1).2];rfl⟩,?_,?_⟩
      · rintro j d ρ hd ⟨y5,y6,y9,iS,jj,rfl⟩
        obtain⟨⟨k,de⟩,hq,rfl⟩:=gJ hd
        have hm:=dg hq
        have hts:=take_snoc hq
        have same:(∀a:Int,nX p c.wd (k,de) a≠none->cN p (es.take j) c.wd a≠none)->∀y5 y6 y9 iS jj:Sl,∃(z5 z6 z9 Dh Eb:Sl),[Sl.d false (.int p), .d false (.int n), .d false (.list (es.map bR)), .own A3 true ((cV p (es.take j) ((t:Int)+1) c).wd.map bF), .own A4 true (eZ n (cV p (es.take j) ((t:Int)+1) c)),y5,y6, .d true (.int ((t:Int)+1)), .d false (dN c.wd),y9,iS,jj]=[.d false (.int p), .d false (.int n), .d false (.list (es.map bR)), .own A3 true ((cV p (es.take (j+1)) ((t:Int)+1) c).wd.map bF), .own A4 true (eZ n (cV p (es.take (j+1)) ((t:Int)+1) c)),z5,z6, .d true (.int ((t:Int)+1)), .d false (dN c.wd),z9,Dh,Eb]:=fun h y5 y6 y9 iS jj=>by
          obtain⟨g1,g2⟩:=Xb (t:=(t:Int)+1) i1 h
          rw[hts,g1,g2]
          exact⟨_,_,_,_,_,rfl⟩
        cases de with
        | lt a b =>
          rw[show bR (k, .lt a b)= .tuple [.int k, .tuple [.str "letter", .int a, .int b]] from rfl]
          walk_at "dt"
          intro A9
          walk_at "dt"
          refine⟨_, .sd _ _,_,rfl,?_⟩
          rw[show decide (Str.ofString "letter"=Str.ofString "check")=false by decide,if_neg (by decide)]
          walk_at "dt"
          exact same (fun _ h=>absurd rfl h) _ _ _ _ _
        | ck prs r =>
          obtain⟨⟨o1,o2,o3⟩,r0,r1⟩:m8 p n prs/\0<=r/\r<p:=hok.ok _ hm
          rw[show bR (k, .ck prs r)= .tuple [.int k, .tuple [.str "check",fE prs, .int r]] from rfl]
          walk_at "dt"
          intro A9
          walk_at "dt"
          refine⟨_, .ss _,_,rfl,?_⟩
          rw[if_pos rfl]
          walk_at "dt"
          refine aE.ev (aE.uT (by decide) rfl ?_)
          have hlen:=zH (p:=p) (n:=n) ⟨o1,o2,o3⟩
          walk_at "dt"
          refine⟨by rw[ao];omega,fun v2=>⟨false,fun m ds=>ds=(bK c.wd (prs.take m)).map pairD,rfl,?_,?_⟩⟩
          · rintro m d ds hd hl' rfl
            obtain⟨u,hu,rfl⟩:=gJ hd
            obtain⟨u0,u1,_⟩:=o3 u (dg hu)
            obtain⟨o,ho,hat⟩:=pI (xs:=c.wd) (k:=u.1) (m:=c.wd.length) bF u0 (by omega) rfl
            walk_at "dt"
            refine⟨by walk_at "wk",?_⟩
            walk_at "dt"
            show if sM (bF o)=true then _ else _
            have hls:=Fj (wd:=c.wd) (prs:=prs.take m) (pr:=u)
            rw[vg]
            cases o with
            | none =>
              rw[if_pos ho] at hls
              rw[if_pos (show(none:Option Int).isNone=true from rfl)]
              walk_at "dt"
              show _=List.map pairD (bK c.wd (prs.take (m+1)))
              rw[take_snoc hu,hls,fF]
              rfl
            | some z =>
              rw[if_neg (by rw[ho];intro z;cases z)] at hls
              rw[if_neg (show¬(some z:Option Int).isNone=true by intro y;cases y)]
              show _=List.map pairD (bK c.wd (prs.take (m+1)))
              rw[take_snoc hu,hls]
          · rintro ds hl' rfl
            rw[ao,jF]
            dsimp only
            have hto:ic p prs r c.wd=match bK c.wd prs with|[pr]=>some (pr.1,sol p pr.2 (r-dP prs c.wd%p))|_=>none:=rfl
            obtain⟨LP,qD⟩:∃LP,bK c.wd prs=LP:=⟨_,rfl⟩
            rw[qD] at hto⊢
            have hck:∀a:Int,nX p c.wd (k, .ck prs r) a=match ic p prs r c.wd with|some (a',x)=>if a'=a then some (k,x) else none|none=>none:=fun a=>rfl
            match LP,qD,hto with
            | [], qD, hto =>
              walk_at "dt"
              exact same (fun a h=>absurd (by rw[hck,hto]) h) _ _ _ _ _
            | a1 :: b1 :: r1, qD, hto =>
              walk_at "dt"
              exact same (fun a h=>absurd (by rw[hck,hto]) h) _ _ _ _ _
            | [pr], qD, hto =>
              dsimp only at hto
              have Lu:pr∈bK c.wd prs:=by rw[qD];exact aK.mpr rfl
              have aaF:pr∈prs:=(jh.mp Lu).1
              have oA:c.wd[pr.1.toNat]?=some none:=by simpa using(jh.mp Lu).2
              obtain⟨u0,u1,u2,u3⟩:=o3 pr aaF
              have hwn:c.wh pr.1=none:=by
                cases hw:c.wh pr.1 with
                |none=>rfl
                |some w=>obtain⟨_,x,hx⟩:=i2 _ _ hw;rw[oA] at hx;cases hx
              have hps:=nR p (es.take j) ((t:Int)+1) c (i:=pr.1.toNat) (by omega)
              rw[oA] at hps
              dsimp only at hps
              rw[show((pr.1.toNat:Nat):Int)=pr.1 by omega] at hps
              have hsl:(cV p (es.take j) ((t:Int)+1) c).wd.length=n.toNat:=by rw[sA];exact i1
              have hat:cO ((cV p (es.take j) ((t:Int)+1) c).wd.map bF) pr.1=some (bF ((cN p (es.take j) c.wd pr.1).map fun(x:Int×Int)=>x.2)):=lD u0 (by rw[bI,hps];rfl)
              have JN:∀a:Int,nX p c.wd (k, .ck prs r) a=if pr.1=a then some (k,sol p pr.2 (r-dP prs c.wd%p)) else none:=fun a=>by rw[hck,hto]
              cases hf:cN p (es.take j) c.wd pr.1 with
              | some z =>
                rw[hf] at hat
                walk_at "dt"
                refine same (fun a h=>?_) _ _ _ _ _
                rw[JN] at h
                by_cases e:pr.1=a
                · rw[<-e,hf];exact eO _
                · rw[if_neg e] at h;exact absurd rfl h
              | none =>
                rw[hf] at hat
                obtain⟨g1,g2⟩:=aad (t:=(t:Int)+1) i1 u0 u1 oA hwn JN hf
                have rz:pW prs c.wd.length:=fun q m=>by
                  have:=o3 q m
                  have Ga:=hn.2.1
                  refine⟨by omega,by omega,?_⟩
                  unfold Sm;omega
                have s0:=iT (dP prs c.wd) (show p≠0 by omega)
                have s1:=iQ (dP prs c.wd) hp0
                have g7:=hn.2.1
                walk_at "dt"
                refine Ev.gG VZ ?_
                walk_at "dt"
                refine Ev.gG Dd ?_
                walk_at "dt"
                refine⟨rfl,p,prs,c.wd,rfl,by omega,by omega,rz,vz,?_⟩
                walk_at "dt"
                refine⟨rfl,p,r-dP prs c.wd%p,pr.2,rfl,hn.1,g7,?_,by omega,by omega,fun _=>?_⟩
                · rw[GP (by omega) u3];omega
                walk_at "dt"
                refine⟨pr.1,pr.1.toNat,rfl,BC u0 (by rw[ao,hsl];omega),?_⟩
                walk_at "dt"
                refine⟨pr.1,pr.1.toNat,rfl,BC u0 (by rw[Oq];omega),?_⟩
                show∃(z5 z6 z9 Dh Eb:Sl),(_:Rh)=[.d false (.int p), .d false (.int n), .d false (.list (es.map bR)), .own A3 true ((cV p (es.take (j+1)) ((t:Int)+1) c).wd.map bF), .own A4 true (eZ n (cV p (es.take (j+1)) ((t:Int)+1) c)),z5,z6, .d true (.int ((t:Int)+1)), .d false (dN c.wd),z9,Dh,Eb]
                rw[hts,g1,g2,Ft]
                exact⟨_,_,_,_,_,rfl⟩
      · rintro ρ ⟨y5,y6,y9,iS,jj,rfl⟩
        rw[ao,jF]
        refine Sv.jE (Tv.lend 3 rfl (Tv.test (Ev.zx (Ev.var rfl (Ev.var rfl ⟨O4 _,O4 _,_,rfl,?_⟩)))))
        rw[show(PyData.list ((cV p es ((t:Int)+1) c).wd.map bF)).eqv (dN c.wd)=decide ((cV p es ((t:Int)+1) c).wd=c.wd) from Z7 _ _]
        by_cases hc:(cV p es ((t:Int)+1) c).wd=c.wd
        · rw[if_pos (by rw[decide_eq_true hc];rfl)]
          have e:=Mi hc
          refine Sv.Ah 3 rfl (Sv.Ah 4 rfl ?_)
          walk_at "dt"
          rw[e] at q
          exact q
        · rw[if_neg (by rw[decide_eq_false hc];decide)]
          refine Sv.next ?_
          exact⟨_,_,_,_,_,_,_,rfl⟩
    · rintro ρ ⟨y5,y6,y7,y8,y9,iS,jj,rfl⟩
      rw[show bJ p n es (n.toNat+1)=eT p n es from rfl]
      refine Sv.Ah 3 rfl (Sv.Ah 4 rfl ?_)
      walk_at "dt"
      exact q
def BS:DF:=fun ds Φ=>∃(p n many:Int) (wd:Wo) (es:aR),ds=[.int p,dN wd, .list (es.map bR)]/\aS p n many es/\0<p/\p<10^40/\n<=10000/\(wd.length:Int)=n/\(∀x,some x∈wd->0<=x/\x<p)/\Φ true (rL ((es.filter fun q=>!fQ p wd q.2).map (·.1)))
theorem WO:fq BS:=by
 intro ds Φ Ψ hm z;revert hm
 walk_at "mo";exact fun q=>z _ _ q
theorem Bm:bY ["p","letters","deeds","found","number","deed"] ["p","letters","deeds"] (aN GD):=⟨rfl,rfl,rfl,by decide+kernel,rfl,by decide+kernel,by decide+kernel⟩
theorem acj(F:bM K "_law_unlike" "_law_unlike" GD f fd)(WM:Callee P w K mg base "_law_gaps" 1 ["pairs","word"] (cK 2 Cg))(ue:Callee P w K mg base "_law_sum" 1 ["p","pairs","word"] (cK 3 qV)):
    bq P w K mg base bG 2 f fd ["p","letters","deeds"] (cK 3 BS):=by
  refine F.ok Bm (fun vs H Q E h=>h.1) (fun cdv A outer s H vs Q E hr h=>?_)
  obtain⟨nb,ds,Φ,hlive,hds,az,hF⟩:=jK h
  obtain⟨p,n,many,wd,es,rfl,hok,hp0,g7,hn,hwl,Fe,q⟩:=hF
  refine⟨_,(@ay _ _ _ _ _ (@aV _ _ (3) _ _ _ _ Bm.nd rfl (Or.inl rfl) (@iw _ _ _ _ aj) (by rfl) (by first|exact .inl rfl|exact .inr rfl|assumption)) (@ay _ _ _ _ _ (@jd _ _ _ _ _ _ _ _ iA rfl (iz (K:=K) rfl (pv 2)) (@jM _ (K) _ _ _ (2) _ rfl rfl (@dj _ _ _ _ _ (bB (i:=4) Bm.nd rfl (Or.inl rfl)) (@dj _ _ _ _ _ (bB (i:=5) Bm.nd rfl (Or.inl rfl)) jx (by rfl)) (by rfl)) (by rfl) (by rfl)) (@aD _ _ _ (@cR _ _ _ _ _ _ _ _ (@bA _ _ _ _ _ _ _ _ gX (@aF _ _ _ _ _ _ (bU K) cy (pv 5) ai (fun _ _=>rfl)) l5 (br _)) (@aD _ _ _ (@cR _ _ _ _ _ _ _ _ (@bA _ _ _ _ _ _ _ _ nk (@aF _ _ _ _ _ _ (dS K) cC (pv 1) (@aF _ _ _ _ _ _ (bU K) cy (pv 5) ai (fun _ _=>rfl)) (fun _ _=>rfl)) (@aF _ _ _ _ _ _ (bU K) cy (pv 5) ai (fun _ _=>rfl)) (br _)) (@aD _ _ _ (@jV _ _ _ _ (nI qT tW uw rO (pv 3) (@aa _ _ _ _ _ (pv 4) aj rfl)) (by rfl))) dG)) (@aD _ _ _ (@cR _ _ _ _ _ _ _ _ (PW.pt (nN (@bA _ _ _ _ _ _ _ _ (EH hr.units) (@bw _ _ _ _ _ _ _ _ _ _ WM (hr.mono (by decide)) (@aa _ _ _ _ _ (@aF _ _ _ _ _ _ (bU K) cy (pv 5) ai (fun _ _=>rfl)) (@aa _ _ _ _ _ (pv 1) aj rfl) rfl) (by rfl) (by decide) (by rfl) (by rfl)) (@iw _ _ _ _ aj) (br _)) (ou (@bA _ _ _ _ _ _ _ _ nk (@bw _ _ _ _ _ _ _ _ _ _ ue (hr.mono (by decide)) (@aa _ _ _ _ _ (pv 0) (@aa _ _ _ _ _ (@aF _ _ _ _ _ _ (bU K) cy (pv 5) ai (fun _ _=>rfl)) (@aa _ _ _ _ _ (pv 1) aj rfl) rfl) rfl) (by rfl) (by decide) (by rfl) (by rfl)) (@aF _ _ _ _ _ _ (bU K) cy (pv 5) ai (fun _ _=>rfl)) (br _))))) (@aD _ _ _ (@jV _ _ _ _ (nI qT tW uw rO (pv 3) (@aa _ _ _ _ _ (pv 4) aj rfl)) (by rfl))) dG)))) (by intro _;rfl)) (@aD _ _ _ (@bC _ _ _ _ (pv 3))))),?_⟩
  refine Sv.jG hlive hds az (ρ:=[.d false _, .d false _, .d false _, .no, .no, .no]) rfl ?_
  clear az hds
  have hel:=hok.len
  walk_at "dt"
  intro A3
  refine Sv.seq ?_
  refine Sv.forL (Ev.var rfl ⟨_,rfl,fun v=>?_⟩)
  refine⟨fun i ρ=>∃(x4 x5:Sl),ρ=[.d false (.int p), .d false (dN wd), .d false (.list (es.map bR)), .own A3 true ((((es.take i).filter fun q=>!fQ p wd q.2).map (·.1)).map .int),x4,x5],⟨_,_,rfl⟩,?_,?_⟩
  · rintro i d ρ hd ⟨x4,x5,rfl⟩
    obtain⟨⟨k,de⟩,hq,rfl⟩:=gJ hd
    have hm:=dg hq
    have hts:=take_snoc hq
    have hil:i<es.length:=(bT.mp hq).1
    have hlen:((((es.take i).filter fun q=>!fQ p wd q.2).map (·.1)).map PyData.int).length<10000:=by
      rw[ao,ao]
      have:=nM (fun q:Int×cQ=>!fQ p wd q.2) (es.take i)
      rw[mH] at this
      omega
    have fin:∀(b:Bool) (x4 x5:Sl),fQ p wd de=b->∃(y4 y5:Sl),[Sl.d false (.int p), .d false (dN wd), .d false (.list (es.map bR)), .own A3 true (((((es.take i).filter fun q=>!fQ p wd q.2).map (·.1)).map .int)++if b=true then[] else[.int k]),x4,x5]=[.d false (.int p), .d false (dN wd), .d false (.list (es.map bR)), .own A3 true ((((es.take (i+1)).filter fun q=>!fQ p wd q.2).map (·.1)).map .int),y4,y5]:=fun b x4 x5 hb=>by
      rw[hts,qq,fF,fF]
      cases b with
      |true=>rw[if_pos rfl,om (by rw[hb];decide)];exact⟨_,_,rfl⟩
      |false=>rw[if_neg bV,oF (by rw[hb];rfl)];exact⟨_,_,rfl⟩
    have CU:∀(x4 x5:Sl),fQ p wd de=true->∃(y4 y5:Sl),[Sl.d false (.int p), .d false (dN wd), .d false (.list (es.map bR)), .own A3 true ((((es.take i).filter fun q=>!fQ p wd q.2).map (·.1)).map .int),x4,x5]=[.d false (.int p), .d false (dN wd), .d false (.list (es.map bR)), .own A3 true ((((es.take (i+1)).filter fun q=>!fQ p wd q.2).map (·.1)).map .int),y4,y5]:=fun x4 x5 hb=>by
      have:=fin true x4 x5 hb
      rw[if_pos rfl,gH] at this
      exact this
    have DG:∀(x4 x5:Sl),fQ p wd de=false->∃(y4 y5:Sl),[Sl.d false (.int p), .d false (dN wd), .d false (.list (es.map bR)), .own A3 true (((((es.take i).filter fun q=>!fQ p wd q.2).map (·.1)).map .int)++[.int k]),x4,x5]=[.d false (.int p), .d false (dN wd), .d false (.list (es.map bR)), .own A3 true ((((es.take (i+1)).filter fun q=>!fQ p wd q.2).map (·.1)).map .int),y4,y5]:=fun x4 x5 hb=>by
      have:=fin false x4 x5 hb
      rw[if_neg bV] at this
      exact this
    clear fin
    cases de with
    | lt a b =>
      obtain⟨a0,a1,b0,b1⟩:0<=a/\a<n/\0<=b/\b<p:=hok.ok _ hm
      obtain⟨o,ho,hat⟩:=pI (xs:=wd) (k:=a) (m:=wd.length) bF a0 (by omega) rfl
      rw[show bR (k, .lt a b)= .tuple [.int k, .tuple [.str "letter", .int a, .int b]] from rfl]
      have pX:fQ p wd (.lt a b)=decide (o=some b):=by
        show decide (wd[a.toNat]?=some (some b))=_
        rw[ho];simp
      walk_at "dt"
      refine⟨_, .ss _,_,rfl,?_⟩
      rw[if_pos rfl]
      cases o with
      | none =>
        walk_at "dt"
        refine⟨_, .ni _,?_⟩
        walk_at "dt"
        exact DG _ _ (by rw[pX];exact decide_eq_false (by intro e;cases e))
      | some z =>
        walk_at "dt"
        refine⟨_, .ii _ _,_,rfl,?_⟩
        by_cases c:z=b
        · subst c
          rw[if_neg (by rw[decide_eq_true rfl];decide)]
          refine Sv.next ?_
          exact CU _ _ (by rw[pX];exact decide_eq_true rfl)
        · rw[if_pos (by rw[decide_eq_false c];rfl)]
          walk_at "dt"
          exact DG _ _ (by rw[pX];exact decide_eq_false fun e=>c (gf e))
    | ck prs r =>
      obtain⟨⟨o1,o2,o3⟩,r0,r1⟩:m8 p n prs/\0<=r/\r<p:=hok.ok _ hm
      have hlen2:=zH (p:=p) (n:=n) ⟨o1,o2,o3⟩
      have rz:pW prs wd.length:=fun q m=>by
        have:=o3 q m
        refine⟨by omega,by omega,?_⟩
        unfold Sm;omega
      have vz:nU wd:=fun x m=>by
        have:=Fe x m
        unfold Sm;omega
      have hsl:oH prs wd↔bK wd prs≠[]:=by
        unfold oH bK
        constructor
        · rintro⟨pr,m,e⟩ z
          have:pr∈prs.filter fun pr=>wd[pr.1.toNat]?==some none:=jh.mpr ⟨m,by rw[e];rfl⟩
          rw[z] at this;cases this
        · intro z
          obtain⟨pr,m⟩:=List.exists_mem_of_ne_nil _ z
          obtain⟨m1,m2⟩:=jh.mp m
          exact⟨pr,m1,by simpa using m2⟩
      rw[show bR (k, .ck prs r)= .tuple [.int k, .tuple [.str "check",fE prs, .int r]] from rfl]
      walk_at "dt"
      refine⟨_, .sd _ _,_,rfl,?_⟩
      rw[show decide (Str.ofString "check"=Str.ofString "letter")=false by decide,if_neg (by decide)]
      have hss:rX p prs wd=if oH prs wd then none else some (dP prs wd%p):=rfl
      have pX:fQ p wd (.ck prs r)=decide (rX p prs wd∈[none,some r]):=rfl
      refine Sv.jE (Tv.and (Tv.test (Ev.zx (Ev.gG VT ?_))))
      walk_at "dt"
      refine⟨rfl,prs,wd,rfl,by omega,rz,?_⟩
      refine Ev.lst (Av.nil ⟨by decide,shaped_ints _,rfl,_,rfl,?_⟩)
      rw[show((PyData.list (((bK wd prs).map (·.1)).map .int)).eqv (PyData.list (([]:List Fd).map (·.2))) !=false)=(((bK wd prs).map (·.1)).map PyData.int).isEmpty by rw[G8];exact OL _]
      by_cases c:bK wd prs=[]
      · have hnl:¬oH prs wd:=fun z=>hsl.mp z c
        rw[if_neg hnl] at hss
        rw[c,if_pos (by rfl)]
        refine Tv.test (Ev.ne (Ev.gG Dd ?_))
        walk_at "dt"
        refine⟨rfl,p,prs,wd,rfl,hp0,by omega,rz,vz,?_⟩
        by_cases c2:dP prs wd%p=r
        · walk_at "dt"
          exact CU _ _ (by rw[pX,hss,c2];exact decide_eq_true (by simp))
        · walk_at "dt"
          exact DG _ _ (by rw[pX,hss];exact decide_eq_false (by simpa using c2))
      · have hnl:oH prs wd:=hsl.mpr c
        rw[if_pos hnl] at hss
        rw[if_neg (by cases hz:bK wd prs with|nil=>exact absurd hz c|cons _ _=>exact bV)]
        rw[if_neg (by decide)]
        refine Sv.next ?_
        exact CU _ _ (by rw[pX,hss];exact decide_eq_true (by simp))
  · rintro ρ ⟨x4,x5,rfl⟩
    rw[ao,jF]
    walk_at "dt"
    exact q
def GB:DF:=fun ds Φ=>∃(p:Int) (os:List Int),ds=[.int p, .list (os.map .int)]/\gp p/\p<10^40/\1<=os.length/\os.length<=60/\(∀x∈os,0<=x/\x<p)/\∀(d:cQ) (f:Bool),uA p os.length d->Φ f (jZ d)
theorem Z8:fq GB:=by
 intro ds Φ Ψ hm z;revert hm
 walk_at "mo";exact fun q=>fun d f hd=>z _ _ (q d f hd)
theorem o4:bY ["bag","p","word","way","place","pairs","rest"] ["bag","p","word"] (aN EO):=⟨rfl,rfl,rfl,by decide+kernel,rfl,by decide+kernel,by decide+kernel⟩
theorem V2(F:bM K "_law_deed" "_law_deed" EO f fd)(eU:Callee P w K mg base "_law_draw" 1 ["bag","many"] kG)(Zo:Callee P w K mg base "_law_pairs" 3 ["bag","p","n"] (iG 3 EV))(ue:Callee P w K mg base "_law_sum" 1 ["p","pairs","word"] (cK 3 qV))(uD:Callee P w K mg base "_law_letter" 2 ["bag","p"] (iG 2 xB))(c8:mg "len"=none)(m6:mg "min"=none):
  bq P w K mg base bG 4 f fd ["bag","p","word"] (iG 3 GB):=by
 refine F.ok o4 (fun vs H Q E h=>h.1) (fun cdv A outer s H vs Q E hr h=>?_)
 obtain⟨b,l,ws,nb,ds,Φ,rfl,hB,hlive,hnb,hds,az,hF⟩:=oW h
 obtain⟨p,os,rfl,hp,g7,l1,l4,hos,q⟩:=hF
 refine⟨_,(@ay _ _ _ _ _ (@aV _ _ (3) _ _ _ _ o4.nd rfl (Or.inl rfl) (@bw _ _ _ _ _ _ _ _ _ _ eU (hr.mono (by decide)) (@aa _ _ _ _ _ (pv 0) (@aa _ _ _ _ _ ai aj rfl) rfl) (by rfl) (by decide) (by rfl) (by rfl)) (by rfl) (by first|exact .inl rfl|exact .inr rfl|assumption)) (@ay _ _ _ _ _ (@cR _ _ _ _ _ _ _ _ (@bA _ _ _ _ _ _ _ _ rQ (pv 3) ai (br _)) (@ay _ _ _ _ _ (@aV _ _ (4) _ _ _ _ o4.nd rfl (Or.inl rfl) (@bw _ _ _ _ _ _ _ _ _ _ eU (hr.mono (by decide)) (@aa _ _ _ _ _ (pv 0) (@aa _ _ _ _ _ (@aF _ _ _ _ _ _ (dS K) cC (@iw _ _ _ _ (@aa _ _ _ _ _ (@cZ _ _ _ _ _ _ _ _ (iB K) jq rfl c8 jl (@aa _ _ _ _ _ (pv 2) aj rfl) (by decide) (by decide) (by rfl) (by rfl)) (@aa _ _ _ _ _ (@cZ _ _ _ _ _ _ _ _ _ (Fy rfl) rfl m6 CS (@aa _ _ _ _ _ (@cZ _ _ _ _ _ _ _ _ (iB K) jq rfl c8 jl (@aa _ _ _ _ _ (pv 2) aj rfl) (by decide) (by decide) (by rfl) (by rfl)) (@aa _ _ _ _ _ ai aj rfl) rfl) (by decide) (by decide) (by rfl) (by rfl)) aj rfl) rfl)) (@bw _ _ _ _ _ _ _ _ _ _ eU (hr.mono (by decide)) (@aa _ _ _ _ _ (pv 0) (@aa _ _ _ _ _ ai aj rfl) rfl) (by rfl) (by decide) (by rfl) (by rfl)) (fun _ _=>rfl)) aj rfl) rfl) (by rfl) (by decide) (by rfl) (by rfl)) (by rfl) (by first|exact .inl rfl|exact .inr rfl|assumption)) (@aD _ _ _ (@bC _ _ _ _ (@gc _ _ _ _ _ (@aa _ _ _ _ _ l5 (@aa _ _ _ _ _ (pv 4) (@aa _ _ _ _ _ (@aF _ _ _ _ _ _ (dS K) cC (@iw _ _ _ _ (@aa _ _ _ _ _ (@aF _ _ _ _ _ _ (dS K) cC (pv 2) (pv 4) (fun _ _=>rfl)) (@aa _ _ _ _ _ (@bw _ _ _ _ _ _ _ _ _ _ uD (hr.mono (by decide)) (@aa _ _ _ _ _ (pv 0) (@aa _ _ _ _ _ (pv 1) aj rfl) rfl) (by rfl) (by decide) (by rfl) (by rfl)) aj rfl) rfl)) (@aM _ _ _ _ _ _ _ _ o9 (@bw _ _ _ _ _ _ _ _ _ _ eU (hr.mono (by decide)) (@aa _ _ _ _ _ (pv 0) (@aa _ _ _ _ _ ai aj rfl) rfl) (by rfl) (by decide) (by rfl) (by rfl)) ai) (fun _ _=>rfl)) aj rfl) rfl) rfl))))) dG) (@ay _ _ _ _ _ (@aV _ _ (5) _ _ _ _ o4.nd rfl (Or.inl rfl) (@bw _ _ _ _ _ _ _ _ _ _ Zo (hr.mono (by decide)) (@aa _ _ _ _ _ (pv 0) (@aa _ _ _ _ _ (pv 1) (@aa _ _ _ _ _ (@cZ _ _ _ _ _ _ _ _ (iB K) jq rfl c8 jl (@aa _ _ _ _ _ (pv 2) aj rfl) (by decide) (by decide) (by rfl) (by rfl)) aj rfl) rfl) rfl) (by rfl) (by decide) (by rfl) (by rfl)) (by rfl) (by first|exact .inl rfl|exact .inr rfl|assumption)) (@ay _ _ _ _ _ (@aV _ _ (6) _ _ _ _ o4.nd rfl (Or.inl rfl) (@bw _ _ _ _ _ _ _ _ _ _ ue (hr.mono (by decide)) (@aa _ _ _ _ _ (pv 1) (@aa _ _ _ _ _ (pv 5) (@aa _ _ _ _ _ (pv 2) aj rfl) rfl) rfl) (by rfl) (by decide) (by rfl) (by rfl)) (by rfl) (by first|exact .inl rfl|exact .inr rfl|assumption)) (@ay _ _ _ _ _ (@cR _ _ _ _ _ _ _ _ (@bA _ _ _ _ _ _ _ _ gX (pv 3) ai (br _)) (@aD _ _ _ (@aV _ _ (6) _ _ _ _ o4.nd rfl (Or.inl rfl) (@aM _ _ _ _ _ _ _ _ i8 (@aM _ _ _ _ _ _ _ _ gu (pv 6) ai) (pv 1)) (by rfl) (by first|exact .inl rfl|exact .inr rfl|assumption))) dG) (@ay _ _ _ _ _ (@cR _ _ _ _ _ _ _ _ (@bA _ _ _ _ _ _ _ _ gX (pv 3) ai (br _)) (@aD _ _ _ (@aV _ _ (6) _ _ _ _ o4.nd rfl (Or.inl rfl) (@bw _ _ _ _ _ _ _ _ _ _ uD (hr.mono (by decide)) (@aa _ _ _ _ _ (pv 0) (@aa _ _ _ _ _ (pv 1) aj rfl) rfl) (by rfl) (by decide) (by rfl) (by rfl)) (by rfl) (by first|exact .inl rfl|exact .inr rfl|assumption))) dG) (@aD _ _ _ (@bC _ _ _ _ (@gc _ _ _ _ _ (@aa _ _ _ _ _ l5 (@aa _ _ _ _ _ (pv 5) (@aa _ _ _ _ _ (pv 6) aj rfl) rfl) rfl)))))))))),?_⟩
 refine Sv.pJ hB hlive hnb hds az (ρ:=[.au, .d false _, .d false _, .no, .no, .no, .no]) rfl ?_
 clear az hds
 have p2:=hp.1
 have nj:(os.map PyData.int).length=os.length:=ao ..
 have hws:dN (os.map some)= .list (os.map .int):=by unfold dN;rw[k7];rfl
 walk_at "dt"
 intro w w0 w1
 by_cases c:w<2
 ·walk_at "dt"
  intro r r0 r1
  obtain⟨m,em,m0,m1⟩:=pick (L:=[((os.map PyData.int).length:Int),if 4<((os.map PyData.int).length:Int) then 4 else((os.map PyData.int).length:Int)]) r0 (by show r<2;omega) (fun x=>1<=x/\x<=os.length) (by
   intro x hx
   rw[nj] at hx
   simp only[aL,dh,or_false] at hx
   rcases hx with rfl|rfl
   ·omega
   ·split<;>omega)
  refine⟨_,rfl,_,em,_,rfl,by omega,by unfold Sm;omega,fun pl a0 a1=>?_⟩
  obtain⟨le,hle,hat⟩:∃le,os[pl.toNat]?=some le/\cO (os.map PyData.int) pl=some (.int le):=by
   have hk:pl.toNat<os.length:=by omega
   exact⟨os[pl.toNat],bP hk,lD a0 (by rw[bI,bP hk];rfl)⟩
  obtain⟨b0,b1⟩:=hos le (dg hle)
  walk_at "dt"
  refine Ev.lJ AV rfl ?_
  walk_at "dt"
  refine⟨rfl,p,rfl,p2,g7,fun y y0 y1=>?_⟩
  walk_at "dt"
  intro u u0 u1
  obtain⟨x,ex,x0,x1⟩:=pick (L:=[le,y]) (k:=u/3) (by omega) (by show u/3<2;omega) (fun x=>0<=x/\x<p) (by
   intro x hx
   simp only[aL,dh,or_false] at hx
   rcases hx with rfl|rfl
   ·exact⟨b0,b1⟩
   ·exact⟨y0,y1⟩)
  walk_at "dt"
  exact q (.lt pl x) _ ⟨a0,by omega,x0,x1⟩
 ·generalize iM:(mP (fZ (iF (cK 3 qV) _ _ _) _) _:TS)=tl
  walk_at "dt"
  refine Ev.lJ Zg rfl ?_
  walk_at "dt"
  refine⟨rfl,p,((os.map PyData.int).length:Int),rfl,hp,g7,by omega,by omega,fun prs hck hpl=>?_⟩
  rw[nj] at hck
  walk_at "dt"
  subst iM
  have rz:pW prs (os.map some).length:=fun q m=>by
   have:=hck.2.2 q m
   rw[ao]
   refine⟨by omega,by omega,?_⟩
   unfold Sm;omega
  have vz:nU (os.map some):=fun x m=>by
   obtain⟨y,hy,e⟩:=c9.mp m
   have:=hos y hy
   rw[<-gf e]
   unfold Sm;omega
  have s0:=iT (dP prs (os.map some)) (show p≠0 by omega)
  have s1:=iQ (dP prs (os.map some)) (show 0<p by omega)
  refine Sv.seq (Sv.asg (Ev.gG Dd ?_))
  walk_at "dt"
  refine⟨rfl,p,prs,os.map some,by rw[hws];rfl,by omega,by omega,rz,vz,?_⟩
  generalize hrs:dP prs (os.map some)%p=rs at*
  refine Gv.vq ?_
  by_cases c2:w=2
  ·subst c2
   have t0:=iT (rs+1) (show p≠0 by omega)
   have t1:=iQ (rs+1) (show 0<p by omega)
   walk_at "dt"
   exact q (.ck prs ((rs+1)%p)) _ ⟨hck,t0,t1⟩
  ·by_cases c3:w=3
   ·subst c3
    walk_at "dt"
    refine Ev.lJ AV rfl ?_
    walk_at "dt"
    refine⟨rfl,p,rfl,p2,g7,fun y y0 y1=>?_⟩
    walk_at "dt"
    exact q (.ck prs y) _ ⟨hck,y0,y1⟩
   ·walk_at "dt"
    exact q (.ck prs rs) _ ⟨hck,s0,s1⟩
def qJ(C:Addr):CF:=fun c ds Φ=>∃(x dx a b:Addr) (p n many:Int) (es:aR) (last:PyData),c=dJ C x dx a b p n es many last/\ds=[]/\Φ (dJ C x dx a b p n es (many+1) .none) true (.int many)
theorem MR{C:Addr}:iV (qJ C):=by
 intro c ds Φ Ψ hm z;revert hm
 walk_at "mo";exact fun q=>z _ _ _ q
theorem SS:bY ["self"] ["self"] (aN qZ):=⟨rfl,rfl,rfl,by decide+kernel,rfl,by decide+kernel,by decide+kernel⟩
theorem Uq(F:bM K "new_number" "Desk.new_number" qZ f fd){ak:Addr}(aW:cg K ak)(iP:aT K ak "last")(lz:aT K ak "many"):
  bq P w K mg base bG 1 f fd ["self"] (cB 1 (qJ ak)):=by
 refine F.ok SS (fun vs H Q E h=>h.1) (fun cdv A outer s H vs Q E hr h=>?_)
 obtain⟨_,nb,c,ws,ds,rfl,hlive,c5,hcf,dM,hds,hF⟩:=h
 obtain⟨Φ,az,hF⟩:∃Φ:Cu->Pd,(∀c' f d v H',Φ c' f d->iJ c c' H H'->c'.P (fun a=>nb a\/a∈c'.F) H'->af (fun a=>nb a\/a∈c'.F\/(f=true/\H a≠none)) H' d v->Q v H')/\qJ ak c ds Φ:=⟨_,fun c' f d v H' q=>q v H',hF⟩
 obtain⟨x,dx,a,b,p,n,many,es,last,rfl,rfl,q⟩:=hF
 refine⟨_,(@ay _ _ _ _ _ (@je _ _ _ _ _ _ _ _ (pv 0) iD rfl) (@ay _ _ _ _ _ (@je _ _ _ _ _ _ _ _ (pv 0) (@aM _ _ _ _ _ _ _ _ gu (@cI _ _ _ _ _ (pv 0) rfl) ai) rfl) (@aD _ _ _ (@bC _ _ _ _ (@aM _ _ _ _ _ _ _ _ mX (@cI _ _ _ _ _ (pv 0) rfl) ai))))),?_⟩
 refine Sv.kX hlive c5 hcf dM hds az (ρ:=[.cu _]) rfl ?_
 clear az hds
 refine Sv.seq (Sv.jN rfl aW iP (.inr ⟨_,rfl⟩) (iy rfl) ?_)
 walk_at "dt"
 refine Sv.jN rfl aW lz (.inr ⟨_,rfl⟩) (iy rfl) ?_
 refine Ev.ie (Ev.fld rfl aW lz rfl ⟨many,rfl,Ev.int ⟨1,rfl,?_⟩⟩)
 refine Sv.mO (bW.of ?_)
 refine Ev.ie (Ev.fld rfl aW lz rfl ⟨many+1,rfl,?_⟩)
 walk_at "dt"
 rw[show many+1-1=many by omega]
 intro aC v' H' hv
 exact⟨_,_,_,rfl,⟨rfl,rfl,fun a m=>m⟩,q,hv⟩
def vC(C:Addr):CF:=fun c ds Φ=>∃(x dx a b:Addr) (p n many r:Int) (prs:bz) (es:aR) (last:PyData),c=dJ C x dx a b p n es many last/\ds=[fE prs, .int r]/\aS p n many es/\m8 p n prs/\0<=r/\r<p/\Φ (dJ C x dx a b p n (es++[(many, .ck prs r)]) (many+1) .none) true (.int many)
theorem Ub{C:Addr}:iV (vC C):=by
 intro c ds Φ Ψ hm z;revert hm
 walk_at "mo";exact fun q=>z _ _ _ q
theorem KU:bY ["self","pairs","rest","number"] ["self","pairs","rest"] (aN sE):=⟨rfl,rfl,rfl,by decide+kernel,rfl,by decide+kernel,by decide+kernel⟩
theorem Xo(F:bM K "check" "Desk.check" sE f fd){ak:Addr}(aW:cg K ak)(gZ:aT K ak "p")(fW:aT K ak "check_deeds")(ju:aT K ak "n")(Cz:ff P w K mg base ak "new_number" 1 ["self"] (cB 1 (qJ ak)))(E6:Callee P w K mg base "ask_letter" 2 ["p","letter"] (cK 2 zD))(Ri:Callee P w K mg base "is_check" 1 ["p","n","pairs"] (cK 3 B8))(eH:mg "list"=none):
  bq P w K mg base bG 3 f fd ["self","pairs","rest"] (cB 3 (vC ak)):=by
 refine F.ok KU (fun vs H Q E h=>h.1) (fun cdv A outer s H vs Q E hr h=>?_)
 obtain⟨_,nb,c,ws,ds,rfl,hlive,c5,hcf,dM,hds,hF⟩:=h
 obtain⟨Φ,az,hF⟩:∃Φ:Cu->Pd,(∀c' f d v H',Φ c' f d->iJ c c' H H'->c'.P (fun a=>nb a\/a∈c'.F) H'->af (fun a=>nb a\/a∈c'.F\/(f=true/\H a≠none)) H' d v->Q v H')/\vC ak c ds Φ:=⟨_,fun c' f d v H' q=>q v H',hF⟩
 obtain⟨x,dx,a,b,p,n,many,r,prs,es,last,rfl,rfl,hok,hc,r0,r1,q⟩:=hF
 refine⟨_,(@ay _ _ _ _ _ (@cR _ _ _ _ _ _ _ _ (@rq _ _ _ _ (@qo _ (K) _ _ rfl (@bw _ _ _ _ _ _ _ _ _ _ Ri (hr.mono (by decide)) (@aa _ _ _ _ _ (@cI _ _ _ _ _ (pv 0) rfl) (@aa _ _ _ _ _ (@cI _ _ _ _ _ (pv 0) rfl) (@aa _ _ _ _ _ (pv 1) aj rfl) rfl) rfl) (by rfl) (by decide) (by rfl) (by rfl)) (fun _=>rfl))) (@aD _ _ _ zp) dG) (@ay _ _ _ _ _ (@jV _ _ _ _ (@bw _ _ _ _ _ _ _ _ _ _ E6 (hr.mono (by decide)) (@aa _ _ _ _ _ (@cI _ _ _ _ _ (pv 0) rfl) (@aa _ _ _ _ _ (pv 2) aj rfl) rfl) (by rfl) (by decide) (by rfl) (by rfl)) (by rfl)) (@ay _ _ _ _ _ (@aV _ _ (3) _ _ _ _ KU.nd rfl (Or.inl rfl) (@pU _ _ _ _ _ _ _ _ _ _ _ Cz (pv 0) (hr.mono (by decide)) (by rfl)) (by rfl) (by first|exact .inl rfl|exact .inr rfl|assumption)) (@ay _ _ _ _ _ (@gC _ _ _ _ _ _ (@gc _ _ _ _ _ (@aa _ _ _ _ _ (@lQ _ _ _ _ _ _ _ _ (l8 K) xZ rfl eH lB (@aa _ _ _ _ _ (pv 1) aj rfl) (by decide) (by decide) (by rfl) (by rfl)) (@aa _ _ _ _ _ (pv 2) aj rfl) rfl)) (jf (@cI _ _ _ _ _ (pv 0) rfl) (pv 3) set_dict) (by rfl) (by rfl) (by rfl)) (@aD _ _ _ (@bC _ _ _ _ (pv 3))))))),?_⟩
 refine Sv.kX hlive c5 hcf dM hds az (ρ:=[.cu _, .d false _, .d false _, .no]) rfl ?_
 clear az hds
 have hl:=hok.len
 refine Sv.seq ?_
 refine Sv.jE (Tv.not (Tv.uZ ?_))
 refine Ev.gG ZE ?_
 refine Av.cons (Ev.fld rfl aW gZ rfl ?_)
 refine Av.cons (Ev.fld rfl aW ju rfl ?_)
 walk_at "dt"
 refine⟨rfl,p,n,prs,rfl,fun bb ux=>⟨_,rfl,?_⟩⟩
 rw[ux.mpr hc,if_neg (by decide)]
 refine Sv.next ?_
 refine Sv.seq ?_
 refine Sv.drop ?_
 refine Ev.gG LX ?_
 refine Av.cons (Ev.fld rfl aW gZ rfl ?_)
 walk_at "dt"
 refine⟨rfl,p,r,rfl,r0,r1,?_⟩
 refine Sv.seq ?_
 refine Sv.Ec (bW.nE MR rfl rfl (aA.is rfl) ?_)
 refine Av.nil ⟨rfl,x,dx,a,b,p,n,many,es,last,rfl,rfl,?_⟩
 refine Gv.pV ?_
 refine Sv.seq ?_
 refine Sv.Bx rfl aW fW rfl ?_
 walk_at "dt"
 obtain⟨e1,e2⟩:=hok.Ym prs r
 refine⟨oq (by have:=xx wH es;exact cG this hl) (by decide),?_⟩
 have e3:dw "check_deeds" (.cu (cD b (eX (aY es) many (.tuple [fE prs, .int r])))) (jc p n a b es (many+1) .none)=jc p n a b (es++[(many, .ck prs r)]) (many+1) .none:=by
  unfold jc
  rw[e1,e2]
  rfl
 change Sv _ [.cu (aA ak x dx (dw "check_deeds" (.cu (cD b (eX (aY es) many (.tuple [fE prs, .int r])))) (jc p n a b es (many+1) .none))), .d false (fE prs), .d false (.int r), .d true (.int many)] _ _
 rw[e3]
 refine Sv.mO (bW.of ?_)
 walk_at "dt"
 intro aC v' H' hv
 exact⟨_,_,_,rfl,⟨rfl,rfl,fun a m=>m⟩,q,hv⟩
def ug(C:Addr):CF:=fun c ds Φ=>∃(x dx a b:Addr) (p n many pl le:Int) (es:aR) (last:PyData),c=dJ C x dx a b p n es many last/\ds=[.int pl, .int le]/\aS p n many es/\0<=pl/\pl<n/\0<=le/\le<p/\Φ (dJ C x dx a b p n (es++[(many, .lt pl le)]) (many+1) .none) true (.int many)
theorem Tp{C:Addr}:iV (ug C):=by
 intro c ds Φ Ψ hm z;revert hm
 walk_at "mo";exact fun q=>z _ _ _ q
theorem PK:bY ["self","place","letter","number"] ["self","place","letter"] (aN qO):=⟨rfl,rfl,rfl,by decide+kernel,rfl,by decide+kernel,by decide+kernel⟩
theorem abI(F:bM K "letter" "Desk.letter" qO f fd){ak:Addr}(aW:cg K ak)(ju:aT K ak "n")(gZ:aT K ak "p")(fO:aT K ak "letter_deeds")(Cz:ff P w K mg base ak "new_number" 1 ["self"] (cB 1 (qJ ak)))(Yv:Callee P w K mg base "ask_place" 1 ["n","place"] (cK 2 G6))(E6:Callee P w K mg base "ask_letter" 2 ["p","letter"] (cK 2 zD)):
  bq P w K mg base bG 3 f fd ["self","place","letter"] (cB 3 (ug ak)):=by
 refine F.ok PK (fun vs H Q E h=>h.1) (fun cdv A outer s H vs Q E hr h=>?_)
 obtain⟨_,nb,c,ws,ds,rfl,hlive,c5,hcf,dM,hds,hF⟩:=h
 obtain⟨Φ,az,hF⟩:∃Φ:Cu->Pd,(∀c' f d v H',Φ c' f d->iJ c c' H H'->c'.P (fun a=>nb a\/a∈c'.F) H'->af (fun a=>nb a\/a∈c'.F\/(f=true/\H a≠none)) H' d v->Q v H')/\ug ak c ds Φ:=⟨_,fun c' f d v H' q=>q v H',hF⟩
 obtain⟨x,dx,a,b,p,n,many,pl,le,es,last,rfl,rfl,hok,a0,a1,b0,b1,q⟩:=hF
 refine⟨_,(@ay _ _ _ _ _ (@jV _ _ _ _ (@bw _ _ _ _ _ _ _ _ _ _ Yv (hr.mono (by decide)) (@aa _ _ _ _ _ (@cI _ _ _ _ _ (pv 0) rfl) (@aa _ _ _ _ _ (pv 1) aj rfl) rfl) (by rfl) (by decide) (by rfl) (by rfl)) (by rfl)) (@ay _ _ _ _ _ (@jV _ _ _ _ (@bw _ _ _ _ _ _ _ _ _ _ E6 (hr.mono (by decide)) (@aa _ _ _ _ _ (@cI _ _ _ _ _ (pv 0) rfl) (@aa _ _ _ _ _ (pv 2) aj rfl) rfl) (by rfl) (by decide) (by rfl) (by rfl)) (by rfl)) (@ay _ _ _ _ _ (@aV _ _ (3) _ _ _ _ PK.nd rfl (Or.inl rfl) (@pU _ _ _ _ _ _ _ _ _ _ _ Cz (pv 0) (hr.mono (by decide)) (by rfl)) (by rfl) (by first|exact .inl rfl|exact .inr rfl|assumption)) (@ay _ _ _ _ _ (@gC _ _ _ _ _ _ (@gc _ _ _ _ _ (@aa _ _ _ _ _ (pv 1) (@aa _ _ _ _ _ (pv 2) aj rfl) rfl)) (jf (@cI _ _ _ _ _ (pv 0) rfl) (pv 3) set_dict) (by rfl) (by rfl) (by rfl)) (@aD _ _ _ (@bC _ _ _ _ (pv 3))))))),?_⟩
 refine Sv.kX hlive c5 hcf dM hds az (ρ:=[.cu _, .d false _, .d false _, .no]) rfl ?_
 clear az hds
 have hl:=hok.len
 refine Sv.seq ?_
 refine Sv.drop ?_
 refine Ev.gG Y3 ?_
 refine Av.cons (Ev.fld rfl aW ju rfl ?_)
 walk_at "dt"
 refine⟨rfl,n,pl,rfl,a0,a1,?_⟩
 refine Sv.seq ?_
 refine Sv.drop ?_
 refine Ev.gG LX ?_
 refine Av.cons (Ev.fld rfl aW gZ rfl ?_)
 walk_at "dt"
 refine⟨rfl,p,le,rfl,b0,b1,?_⟩
 refine Sv.seq ?_
 refine Sv.Ec (bW.nE MR rfl rfl (aA.is rfl) ?_)
 refine Av.nil ⟨rfl,x,dx,a,b,p,n,many,es,last,rfl,rfl,?_⟩
 refine Gv.pV ?_
 refine Sv.seq ?_
 refine Sv.Bx rfl aW fO rfl ?_
 walk_at "dt"
 obtain⟨e1,e2⟩:=hok.Q5 pl le
 refine⟨oq (by have:=xx Ab es;exact cG this hl) (by decide),?_⟩
 have e3:dw "letter_deeds" (.cu (cD a (eX (ldK es) many (.tuple [.int pl, .int le])))) (jc p n a b es (many+1) .none)=jc p n a b (es++[(many, .lt pl le)]) (many+1) .none:=by
  unfold jc
  rw[e1,e2]
  rfl
 change Sv _ [.cu (aA ak x dx (dw "letter_deeds" (.cu (cD a (eX (ldK es) many (.tuple [.int pl, .int le])))) (jc p n a b es (many+1) .none))), .d false (.int pl), .d false (.int le), .d true (.int many)] _ _
 rw[e3]
 refine Sv.mO (bW.of ?_)
 walk_at "dt"
 intro aC v' H' hv
 exact⟨_,_,_,rfl,⟨rfl,rfl,fun a m=>m⟩,q,hv⟩
def v8(C:Addr):CF:=fun c ds Φ=>∃(x dx a b:Addr) (p n many:Int) (d:cQ) (es:aR) (last:PyData),c=dJ C x dx a b p n es many last/\ds=[jZ d]/\aS p n many es/\uA p n d/\n<=10000/\Φ (dJ C x dx a b p n (es++[(many,d)]) (many+1) .none) true (.int many)
theorem acm{C:Addr}:iV (v8 C):=by
 intro c ds Φ Ψ hm z;revert hm
 walk_at "mo";exact fun q=>z _ _ _ q
theorem aaQ:bY ["desk","deed"] ["desk","deed"] (aN Dc):=⟨rfl,rfl,rfl,by decide+kernel,rfl,by decide+kernel,by decide+kernel⟩
theorem Ti(F:bM K "_law_told" "_law_told" Dc f fd){ak:Addr}(Zu:ff P w K mg base ak "check" 3 ["self","pairs","rest"] (cB 3 (vC ak)))(Uz:ff P w K mg base ak "letter" 3 ["self","place","letter"] (cB 3 (ug ak)))(eH:mg "list"=none):
    bq P w K mg base bG 4 f fd ["desk","deed"] (cB 2 (v8 ak)):=by
  refine F.ok aaQ (fun vs H Q E h=>h.1) (fun cdv A outer s H vs Q E hr h=>?_)
  obtain⟨_,nb,c,ws,ds,rfl,hlive,c5,hcf,dM,hds,hF⟩:=h
  obtain⟨Φ,az,hF⟩:∃Φ:Cu->Pd,(∀c' f d v H',Φ c' f d->iJ c c' H H'->c'.P (fun a=>nb a\/a∈c'.F) H'->af (fun a=>nb a\/a∈c'.F\/(f=true/\H a≠none)) H' d v->Q v H')/\v8 ak c ds Φ:=⟨_,fun c' f d v H' q=>q v H',hF⟩
  obtain⟨x,dx,a,b,p,n,many,d,es,last,rfl,rfl,hok,hd,hn,q⟩:=hF
  refine⟨_,(@ay _ _ _ _ _ (@cR _ _ _ _ _ _ _ _ (@bA _ _ _ _ _ _ _ _ gX (@aF _ _ _ _ _ _ (bU K) cy (pv 1) ai (fun _ _=>rfl)) l5 (br _)) (@aD _ _ _ (@bC _ _ _ _ (@oB _ _ _ _ _ _ _ _ _ _ _ _ _ _ Uz (pv 0) (hr.mono (by decide)) (@aa _ _ _ _ _ (@aF _ _ _ _ _ _ (bU K) cy (pv 1) ai (fun _ _=>rfl)) (@aa _ _ _ _ _ (@aF _ _ _ _ _ _ (bU K) cy (pv 1) ai (fun _ _=>rfl)) aj rfl) rfl) (by rfl) (by rfl) (by rfl)))) dG) (@aD _ _ _ (@bC _ _ _ _ (@oB _ _ _ _ _ _ _ _ _ _ _ _ _ _ Zu (pv 0) (hr.mono (by decide)) (@aa _ _ _ _ _ (@lQ _ _ _ _ _ _ _ _ (l8 K) xZ rfl eH lB (@aa _ _ _ _ _ (@aF _ _ _ _ _ _ (bU K) cy (pv 1) ai (fun _ _=>rfl)) aj rfl) (by decide) (by decide) (by rfl) (by rfl)) (@aa _ _ _ _ _ (@aF _ _ _ _ _ _ (bU K) cy (pv 1) ai (fun _ _=>rfl)) aj rfl) rfl) (by rfl) (by rfl) (by rfl))))),?_⟩
  refine Sv.kX hlive c5 hcf dM hds az (ρ:=[.cu _, .d false _]) rfl ?_
  clear az hds
  cases d with
  | lt pl le =>
    obtain⟨a0,a1,b0,b1⟩:0<=pl/\pl<n/\0<=le/\le<p:=hd
    rw[show jZ (.lt pl le)= .tuple [.str "letter", .int pl, .int le] from rfl]
    walk_at "dt"
    refine⟨_, .ss _,_,rfl,?_⟩
    rw[if_pos rfl]
    refine Sv.mO (bW.nE Tp rfl rfl (aA.is rfl) ?_)
    walk_at "dt"
    refine⟨rfl,x,dx,a,b,p,n,many,pl,le,es,last,rfl,rfl,hok,a0,a1,b0,b1,?_⟩
    intro aC v' H' hv
    exact⟨_,_,_,rfl,⟨rfl,rfl,fun a m=>m⟩,q,hv⟩
  | ck prs r =>
    obtain⟨hc,r0,r1⟩:m8 p n prs/\0<=r/\r<p:=hd
    rw[show jZ (.ck prs r)= .tuple [.str "check",fE prs, .int r] from rfl]
    walk_at "dt"
    refine⟨_, .sd _ _,_,rfl,?_⟩
    rw[show decide (Str.ofString "check"=Str.ofString "letter")=false by decide,if_neg (by decide)]
    refine Sv.next ?_
    refine Sv.mO (bW.nE Ub rfl rfl (aA.is rfl) ?_)
    walk_at "dt"
    refine⟨rfl,x,dx,a,b,p,n,many,r,prs,es,last,rfl,rfl,hok,hc,r0,r1,?_⟩
    intro aC v' H' hv
    exact⟨_,_,_,rfl,⟨rfl,rfl,fun a m=>m⟩,q,hv⟩
def AD(C:Addr):RF:=fun c ds Φ=>∃(x dx a b:Addr) (p n many:Int) (es:aR) (last:PyData),c=dJ C x dx a b p n es many last/\ds=[]/\aS p n many es/\Φ true (rL (es.map (·.1)))
theorem abK{C:Addr}:vI (AD C):=by
 intro c ds Φ Ψ hm z;revert hm
 walk_at "mo";exact fun q=>z _ _ q
theorem Ys:bY ["self"] ["self"] (aN rR):=⟨rfl,rfl,rfl,by decide+kernel,rfl,by decide+kernel,by decide+kernel⟩
theorem Vm(F:bM K "standing" "Desk.standing" rR f fd){ak:Addr}(aW:cg K ak)(fO:aT K ak "letter_deeds")(fW:aT K ak "check_deeds")(kE:mg "sorted"=none)(eH:mg "list"=none):
  bq P w K mg base bG 1 f fd ["self"] (lq 1 (AD ak)):=by
 refine F.ok Ys (fun vs H Q E h=>h.1) (fun cdv A outer s H vs Q E hr h=>?_)
 obtain⟨nb,c,ws,ds,Φ,rfl,hlive,c5,dM,hds,az,hF⟩:=Ju h
 obtain⟨x,dx,a,b,p,n,many,es,last,rfl,rfl,hok,q⟩:=hF
 refine⟨_,(@aD _ _ _ (@bC _ _ _ _ (@cZ _ _ _ _ _ _ _ _ (FO K) RV rfl kE AO (@aa _ _ _ _ _ (@aM _ _ _ _ _ _ _ _ Hs (@lQ _ _ _ _ _ _ _ _ (zG) (OZ rfl) rfl eH lB (@aa _ _ _ _ _ (@cI _ _ _ _ _ (pv 0) rfl) aj rfl) (by decide) (by decide) (by rfl) (by rfl)) (@lQ _ _ _ _ _ _ _ _ (zG) (OZ rfl) rfl eH lB (@aa _ _ _ _ _ (@cI _ _ _ _ _ (pv 0) rfl) aj rfl) (by decide) (by decide) (by rfl) (by rfl))) aj rfl) (by decide) (by decide) (by rfl) (by rfl)))),?_⟩
 refine Sv.Pw hlive c5 dM hds az (ρ:=[.raw _]) rfl ?_
 clear az hds
 have hl:=hok.len
 have hm:(false,HD.th (dJ ak x dx a b p n es many last),V.ref x)∈(pD H nb (dJ ak x dx a b p n es many last)).hold:=aK.mpr rfl
 have u5:((ldK es).map (·.1)++(aY es).map (·.1)).length<64:=by rw[(keys_perm es).length_eq,ao];omega
 refine Sv.ret (aE.ev (aE.UJ ?_))
 refine aE.ev (aE.cat (aE.ev (aE.Ii (Ev.Qm rfl hm aW fO rfl ⟨_,rfl,_,rfl,?_⟩))))
 refine aE.ev (aE.Ii (Ev.Qm rfl hm aW fW rfl ⟨_,rfl,_,rfl,?_⟩))
 refine⟨by rw[dW] at u5;simp only[ao] at u5⊢;omega,(ldK es).map (·.1)++(aY es).map (·.1),by rw[fF],u5,fun rs hp hs=>?_⟩
 rw[hok.keys hp hs]
 exact q
def rZ(C:Addr):CF:=fun c ds Φ=>∃(x dx a b:Addr) (p n many:Int) (es:aR) (last:PyData),c=dJ C x dx a b p n es many last/\ds=[]/\aS p n many es/\gp p/\p<10^40/\0<=n/\n<=4000/\LastOk p n es last/\∀d,rD p n es d->Φ (dJ C x dx a b p n es many d) false d
theorem K3{C:Addr}:iV (rZ C):=by
 intro c ds Φ Ψ hm z;revert hm
 walk_at "mo";exact fun q=>fun d hd=>z _ _ _ (q d hd)
theorem RN:bY ["self"] ["self"] (aN rG):=⟨rfl,rfl,rfl,by decide+kernel,rfl,by decide+kernel,by decide+kernel⟩
theorem aaT(F:bM K "found" "Desk.found" rG f fd){ak:Addr}{aJ:Addr}(aW:cg K ak)(iP:aT K ak "last")(gZ:aT K ak "p")(ju:aT K ak "n")(fO:aT K ak "letter_deeds")(fW:aT K ak "check_deeds")(WR:Callee P w K mg base "found_by" 5 ["p","n","letter_deeds","check_deeds"] (cK 4 (Em aJ))):
  bq P w K mg base bG 6 f fd ["self"] (cB 1 (rZ ak)):=by
 refine F.ok RN (fun vs H Q E h=>h.1) (fun cdv A outer s H vs Q E hr h=>?_)
 obtain⟨_,nb,c,ws,ds,rfl,hlive,c5,hcf,dM,hds,hF⟩:=h
 obtain⟨Φ,az,hF⟩:∃Φ:Cu->Pd,(∀c' f d v H',Φ c' f d->iJ c c' H H'->c'.P (fun a=>nb a\/a∈c'.F) H'->af (fun a=>nb a\/a∈c'.F\/(f=true/\H a≠none)) H' d v->Q v H')/\rZ ak c ds Φ:=⟨_,fun c' f d v H' q=>q v H',hF⟩
 obtain⟨x,dx,a,b,p,n,many,es,last,rfl,rfl,hok,hp,oM,hn0,hn1,kj,q⟩:=hF
 refine⟨_,(@ay _ _ _ _ _ (@cR _ _ _ _ _ _ _ _ (@bA _ _ _ _ _ _ _ _ oU (@cI _ _ _ _ _ (pv 0) rfl) iD (br _)) (@aD _ _ _ (@je _ _ _ _ _ _ _ _ (pv 0) (@bw _ _ _ _ _ _ _ _ _ _ WR (hr.mono (by decide)) (@aa _ _ _ _ _ (@cI _ _ _ _ _ (pv 0) rfl) (@aa _ _ _ _ _ (@cI _ _ _ _ _ (pv 0) rfl) (@aa _ _ _ _ _ (@cI _ _ _ _ _ (pv 0) rfl) (@aa _ _ _ _ _ (@cI _ _ _ _ _ (pv 0) rfl) aj rfl) rfl) rfl) rfl) (by rfl) (by decide) (by rfl) (by rfl)) rfl)) dG) (@aD _ _ _ (@bC _ _ _ _ (@cI _ _ _ _ _ (pv 0) rfl)))),?_⟩
 refine Sv.kX hlive c5 hcf dM hds az (ρ:=[.cu _]) rfl ?_
 clear az hds
 have fin:∀d,rD p n es d->Sv (fT (dJ ak x dx a b p n es many last).F H nb) [.cu (dJ ak x dx a b p n es many d)] (mW (iZ K (bf 0) "last")) (objE (fT (dJ ak x dx a b p n es many last).F H nb) (dJ ak x dx a b p n es many last) Φ):=fun d hd=>by
  refine Sv.mO (bW.of (Ev.fld rfl aW iP rfl ?_))
  intro aC v' H' hv
  exact⟨_,_,_,rfl,⟨rfl,rfl,fun a m=>m⟩,q d hd,hv⟩
 refine Sv.seq ?_
 refine Sv.jE ?_
 refine Tv.test (Ev.is (Ev.fld rfl aW iP rfl ?_))
 walk_at "dt"
 rcases kj with rfl|hpic
 ·walk_at "dt"
  refine Sv.jN rfl aW iP (.inr ⟨_,rfl⟩) (iy rfl) ?_
  refine Ev.Mx aa1 ?_
  refine fh.cons (Ev.fld rfl aW gZ rfl ?_)
  refine fh.cons (Ev.fld rfl aW ju rfl ?_)
  refine fh.jN rfl aW fO rfl ?_
  refine fh.jN rfl aW fW rfl ?_
  refine fh.nil ?_
  exact⟨rfl,p,n,many,es,rfl,hok,hp,oM,hn0,hn1,fun d hd=>⟨.inl rfl,fin d hd⟩⟩
 ·have hq:=fin _ hpic
  obtain⟨W,rfl,hW⟩:=id hpic
  rw[if_neg (by intro z;cases z)]
  refine Sv.next ?_
  exact hq
def uo(C:Addr):CF:=fun c ds Φ=>∃(x dx a b:Addr) (p n many k:Int) (es:aR) (e:cQ) (last:PyData),c=dJ C x dx a b p n es many last/\ds=[.int k]/\aS p n many es/\(k,e)∈es/\uh p n/\LastOk p n es last/\∀d,rD p n es d->Φ (dJ C x dx a b p n es many d) true (.bool (fQ p (eT p n es).wd e))
theorem Vt{C:Addr}:iV (uo C):=by
 intro c ds Φ Ψ hm z;revert hm
 walk_at "mo";exact fun q=>fun d hd=>z _ _ _ (q d hd)
theorem BI:bY ["self","number","letters","deed"] ["self","number"] (aN qw):=⟨rfl,rfl,rfl,by decide+kernel,rfl,by decide+kernel,by decide+kernel⟩
theorem Sf(F:bM K "fits" "Desk.fits" qw f fd){ak:Addr}(aW:cg K ak)(fO:aT K ak "letter_deeds")(fW:aT K ak "check_deeds")(gZ:aT K ak "p")(BN:ff P w K mg base ak "found" 6 ["self"] (cB 1 (rZ ak)))(XO:Callee P w K mg base "sum_of" 2 ["p","pairs","word"] (cK 3 FL)):
    bq P w K mg base bG 7 f fd ["self","number"] (cB 2 (uo ak)):=by
  refine F.ok BI (fun vs H Q E h=>h.1) (fun cdv A outer s H vs Q E hr h=>?_)
  obtain⟨_,nb,c,ws,ds,rfl,hlive,c5,hcf,dM,hds,hF⟩:=h
  obtain⟨Φ,az,hF⟩:∃Φ:Cu->Pd,(∀c' f d v H',Φ c' f d->iJ c c' H H'->c'.P (fun a=>nb a\/a∈c'.F) H'->af (fun a=>nb a\/a∈c'.F\/(f=true/\H a≠none)) H' d v->Q v H')/\uo ak c ds Φ:=⟨_,fun c' f d v H' q=>q v H',hF⟩
  obtain⟨x,dx,a,b,p,n,many,k,es,e,last,rfl,rfl,hok,hm,hn,kj,q⟩:=hF
  refine⟨_,(@ay _ _ _ _ _ (@aV _ _ (2) _ _ _ _ BI.nd rfl (Or.inl rfl) (@aF _ _ _ _ _ _ (bU K) cy (@pU _ _ _ _ _ _ _ _ _ _ _ BN (pv 0) (hr.mono (by decide)) (by rfl)) ai (fun _ _=>rfl)) (by rfl) (by first|exact .inl rfl|exact .inr rfl|assumption)) (@ay _ _ _ _ _ (@cR _ _ _ _ _ _ _ _ (@bA _ _ _ _ _ _ _ _ (Hl hr.units) (pv 1) (@cI _ _ _ _ _ (pv 0) rfl) (by with_unfolding_all rfl)) (@aD _ _ _ (@bC _ _ _ _ (@oG _ _ _ _ _ _ _ _ gX (@aF _ _ _ _ _ _ (dS K) cC (pv 2) (@aF _ _ _ _ _ _ (bU K) cy (@aF _ _ _ _ _ _ (jb) lu (@cI _ _ _ _ _ (pv 0) rfl) (pv 1) (fun _ _=>rfl)) ai (fun _ _=>rfl)) (fun _ _=>rfl)) (@aF _ _ _ _ _ _ (bU K) cy (@aF _ _ _ _ _ _ (jb) lu (@cI _ _ _ _ _ (pv 0) rfl) (pv 1) (fun _ _=>rfl)) ai (fun _ _=>rfl)) (br _)))) dG) (@ay _ _ _ _ _ (@aV _ _ (3) _ _ _ _ BI.nd rfl (Or.inl rfl) (@aF _ _ _ _ _ _ (jb) lu (@cI _ _ _ _ _ (pv 0) rfl) (pv 1) (fun _ _=>rfl)) (by rfl) (by first|exact .inl rfl|exact .inr rfl|assumption)) (@aD _ _ _ (@bC _ _ _ _ (oG (aan (K:=K) (by rfl)) (@bw _ _ _ _ _ _ _ _ _ _ XO (hr.mono (by decide)) (@aa _ _ _ _ _ (@cI _ _ _ _ _ (pv 0) rfl) (@aa _ _ _ _ _ (@aF _ _ _ _ _ _ (bU K) cy (pv 3) ai (fun _ _=>rfl)) (@aa _ _ _ _ _ (pv 2) aj rfl) rfl) rfl) (by rfl) (by decide) (by rfl) (by rfl)) (@gc _ _ _ _ _ (@aa _ _ _ _ _ iD (@aa _ _ _ _ _ (@aF _ _ _ _ _ _ (bU K) cy (pv 3) ai (fun _ _=>rfl)) aj rfl) rfl)) (by with_unfolding_all rfl))))))),?_⟩
  refine Sv.kX hlive c5 hcf dM hds az (ρ:=[.cu _, .d false _, .no, .no]) rfl ?_
  clear az hds
  have hp0:0<p:=by have:=hn.1.1;omega
  obtain⟨i1,i2,i3⟩:=nZ hp0 hok (n.toNat+1)
  have e0:bJ p n es (n.toNat+1)=eT p n es:=rfl
  rw[e0] at i1 i2 i3
  have vF:=hok.ok _ hm
  refine Sv.seq (Sv.Ec (bW.lC (bW.nE K3 rfl rfl (aA.is rfl) ?_)))
  refine Av.nil ⟨rfl,x,dx,a,b,p,n,many,es,last,rfl,rfl,hok,hn.1,hn.2.1,hn.2.2.1,hn.2.2.2,kj,fun d hd=>?_⟩
  have q:=q d hd
  obtain⟨W,rfl,hW⟩:=hd
  refine⟨_,rfl,Ev.int ⟨0,rfl,_,rfl,Gv.vq ?_⟩⟩
  refine Sv.seq (Sv.jE (Tv.test (Ev.Fi rfl aW fO rfl (Ev.var rfl ⟨k,rfl,_,rfl,?_⟩))))
  cases e with
  | lt pl le =>
    obtain⟨d0,d1,d2,d3⟩:=vF
    rw[show cT (ldK es) k=true from qB.mpr ⟨_,_,hm⟩]
    rw[if_pos (by decide)]
    have hpl:pl.toNat<(eT p n es).wd.length:=by omega
    obtain⟨o,ho,hat⟩:=pI (xs:=(eT p n es).wd) (k:=pl) (m:=(eT p n es).wd.length) bF d0 (by omega) rfl
    refine Sv.mO (bW.of (Ev.eq (Ev.NP (Ev.var rfl ⟨_,rfl,Ev.lC (Ev.C5 rfl aW fO rfl (Ev.var rfl ⟨k,rfl,_,hok.G0 hm,_,rfl,Ev.int ⟨0,rfl,_,rfl,pl,rfl,_,hat,?_⟩⟩))⟩))))
    refine Ev.lC (Ev.C5 rfl aW fO rfl (Ev.var rfl ⟨k,rfl,_,hok.G0 hm,_,rfl,Ev.int ⟨1,rfl,_,rfl,?_⟩⟩))
    refine⟨fQ p (eT p n es).wd (.lt pl le),?_,fun aC v' H' hv=>⟨_,_,_,rfl,⟨rfl,rfl,fun a m=>m⟩,q,hv⟩⟩
    show iN (bF o) (PyData.int le) (decide ((eT p n es).wd[pl.toNat]?=some (some le)))
    rw[ho]
    cases o with
    |none=>rw[decide_eq_false (by intro z;cases z)];exact .ni _
    |some z=>rw[show decide (some (some z)=some (some le))=decide (z=le) by simp];exact .ii _ _
  | ck prs r =>
    obtain⟨d1,d2,d3⟩:=vF
    have hno:cT (ldK es) k=false:=by
      cases hb:cT (ldK es) k with
      |false=>rfl
      | true =>
        obtain⟨a1,b1,m1⟩:=qB.mp hb
        cases FN hok.rise hm m1
    rw[hno]
    rw[if_neg (by decide)]
    refine Sv.next ?_
    refine Sv.seq (Sv.asg (Ev.C5 rfl aW fW rfl (Ev.var rfl ⟨k,rfl,_,hok.Px hm,Gv.vq ?_⟩)))
    refine Sv.mO (bW.of (Ev.X7 (Ev.gG YK ?_)))
    refine Av.cons (Ev.fld rfl aW gZ rfl ?_)
    walk_at "dt"
    refine⟨rfl,p,prs,(eT p n es).wd,rfl,hp0,?_,?_,?_⟩
    · intro pr m
      obtain⟨_,_,g⟩:=d1
      have:=g pr m
      have Ga:=hn.2.1
      refine⟨by omega,by omega,?_⟩
      unfold Sm;omega
    · intro y m
      have:=i3 y m
      have Ga:=hn.2.1
      unfold Sm;omega
    · refine⟨_,rfl,?_⟩
      walk_at "dt"
      refine⟨[none,some r],rfl,?_⟩
      intro aC v' H' hv
      refine⟨_,_,_,rfl,⟨rfl,rfl,fun a m=>m⟩,q,?_⟩
      unfold fQ
      simpa using hv
def Ad(C:Addr):CNF:=fun c ds Φ=>∃(x dx a b:Addr) (p n many:Int) (es:aR) (last:PyData),c=dJ C x dx a b p n es many last/\ds=[]/\aS p n many es/\uh p n/\LastOk p n es last/\∀d,LastOk p n es d->Φ (dJ C x dx a b p n es many d) true (((es.filter fun q=>!fQ p (eT p n es).wd q.2).map (·.1)).map .int)
theorem UP{C:Addr}:KD (Ad C):=by
 intro c ds Φ Ψ hm z;revert hm
 walk_at "mo";exact fun q=>fun d hd=>z _ _ _ (q d hd)
theorem abG:bY ["self"] ["self"] (aN oR):=⟨rfl,rfl,rfl,by decide+kernel,rfl,by decide+kernel,by decide+kernel⟩
theorem Xm(F:bM K "unlike" "Desk.unlike" oR f fd){ak:Addr}(Rr:ff P w K mg base ak "standing" 1 ["self"] (lq 1 (AD ak)))(aaO:ff P w K mg base ak "fits" 7 ["self","number"] (cB 2 (uo ak))):
  bq P w K mg base bG 8 f fd ["self"] (tP 1 (Ad ak)):=by
 refine F.ok abG (fun vs H Q E h=>h.1) (fun cdv A outer s H vs Q E hr h=>?_)
 obtain⟨nb,c,ws,ds,Φ,rfl,hlive,c5,hcf,dM,hds,az,hF⟩:=V8 h
 obtain⟨x,dx,a,b,p,n,many,es,last,rfl,rfl,hok,hn,kj,q⟩:=hF
 refine⟨_,(@aD _ _ _ (@bC _ _ _ _ (jX (gF.of (show iU (aN oR) ["self"] _ ["number","self"] [none,some 0]=true by decide+kernel)) (iz (K:=K) rfl (@pU _ _ _ _ _ _ _ _ _ _ _ Rr (pv 0) (hr.mono (by decide)) (by rfl))) (fun _ _ _ _=>⟨(bB (i:=0) (by show List.Nodup (["number","self"]:List Str);decide+kernel) rfl (Or.inl rfl)),(pZ (@rq _ _ _ _ (@qo _ (K) _ _ rfl (@oB _ _ _ _ _ _ _ _ _ _ _ _ _ _ aaO (pv 1) (hr.mono (by decide)) (@aa _ _ _ _ _ (pv 0) aj rfl) (by rfl) (by rfl) (by rfl)) (fun _=>rfl)))),(pv 0)⟩)))),?_⟩
 refine Sv.Vp hlive c5 hcf dM hds az (ρ:=[.cu _]) rfl ?_
 clear az hds
 refine Sv.acM (jQ.W7 (ns:=es.map (·.1)) (J:=fun k c' r=>∃d,LastOk p n es d/\c'=dJ ak x dx a b p n es many d/\r=((es.take k).filter fun q=>!fQ p (eT p n es).wd q.2).map (·.1)) Vt rfl rfl (by rw[ao];have:=hok.len;omega) ?_ ?_ ⟨last,kj,rfl,rfl⟩ ?_ ?_)
 ·rintro k c' r ⟨d,_,rfl,_⟩
  exact aA.is rfl
 ·refine yE.DM abK rfl rfl (aA.is rfl) (fh.nil ?_)
  exact⟨rfl,x,dx,a,b,p,n,many,es,last,rfl,rfl,hok,rfl,rfl⟩
 ·rintro k c' r y hy ⟨d,hd,rfl,rfl⟩
  obtain⟨q0,Na,rfl⟩:=gJ hy
  refine⟨x,dx,a,b,p,n,many,q0.1,es,q0.2,d,rfl,rfl,hok,dg Na,hn,hd,fun d' hd'=>⟨fQ p (eT p n es).wd q0.2,rfl,d', .inr hd',rfl,?_⟩⟩
  rw[take_snoc Na,qq,fF]
  cases hb:fQ p (eT p n es).wd q0.2 with
  |true=>rw[if_pos rfl,om (by rw[hb];decide)];exact(gH _).symm
  |false=>rw[if_neg bV,oF (by rw[hb];rfl)];rfl
 ·rintro c' r ⟨d,hd,rfl,rfl⟩
  rw[sj (by rw[ao];exact aU _)]
  exact⟨_,rfl,⟨rfl,rfl,fun a m=>m⟩,q _ hd⟩
def sU(C:Addr):CF:=fun c ds Φ=>∃(x dx a b:Addr) (p n many:Int) (es:aR) (last:PyData),c=dJ C x dx a b p n es many last/\ds=[]/\aS p n many es/\uh p n/\LastOk p n es last/\∀d,rD p n es d->Φ (dJ C x dx a b p n es many d) true (dN (eT p n es).wd)
theorem XM{C:Addr}:iV (sU C):=by
 intro c ds Φ Ψ hm z;revert hm
 walk_at "mo";exact fun q=>fun d hd=>z _ _ _ (q d hd)
theorem XE:bY ["self"] ["self"] (aN qP):=⟨rfl,rfl,rfl,by decide+kernel,rfl,by decide+kernel,by decide+kernel⟩
theorem Yk(F:bM K "known" "Desk.known" qP f fd){ak:Addr}(BN:ff P w K mg base ak "found" 6 ["self"] (cB 1 (rZ ak)))(eH:mg "list"=none):
  bq P w K mg base bG 7 f fd ["self"] (cB 1 (sU ak)):=by
 refine F.ok XE (fun vs H Q E h=>h.1) (fun cdv A outer s H vs Q E hr h=>?_)
 obtain⟨_,nb,c,ws,ds,rfl,hlive,c5,hcf,dM,hds,hF⟩:=h
 obtain⟨Φ,az,hF⟩:∃Φ:Cu->Pd,(∀c' f d v H',Φ c' f d->iJ c c' H H'->c'.P (fun a=>nb a\/a∈c'.F) H'->af (fun a=>nb a\/a∈c'.F\/(f=true/\H a≠none)) H' d v->Q v H')/\sU ak c ds Φ:=⟨_,fun c' f d v H' q=>q v H',hF⟩
 obtain⟨x,dx,a,b,p,n,many,es,last,rfl,rfl,hok,hn,kj,q⟩:=hF
 refine⟨_,(@aD _ _ _ (@bC _ _ _ _ (@lQ _ _ _ _ _ _ _ _ (l8 K) xZ rfl eH lB (@aa _ _ _ _ _ (@aF _ _ _ _ _ _ (bU K) cy (@pU _ _ _ _ _ _ _ _ _ _ _ BN (pv 0) (hr.mono (by decide)) (by rfl)) ai (fun _ _=>rfl)) aj rfl) (by decide) (by decide) (by rfl) (by rfl)))),?_⟩
 refine Sv.kX hlive c5 hcf dM hds az (ρ:=[.cu _]) rfl ?_
 clear az hds
 refine Sv.mO (jQ.ev (jQ.listOf (bW.lC (bW.nE K3 rfl rfl (aA.is rfl) ?_))))
 refine Av.nil ⟨rfl,x,dx,a,b,p,n,many,es,last,rfl,rfl,hok,hn.1,hn.2.1,hn.2.2.1,hn.2.2.2,kj,fun d hd=>?_⟩
 have hd':=hd
 obtain⟨W,rfl,hW⟩:=hd
 refine⟨_,rfl,Ev.int ⟨0,rfl,_,rfl,_, .inl rfl,fun aC v' H' hv=>?_⟩⟩
 refine⟨_,_,_,rfl,⟨rfl,rfl,fun a m=>m⟩,q _ hd',?_⟩
 rw[show fL ((eT p n es).wd.map bF)=true from yN _] at hv
 exact hv
def tS(C:Addr):CF:=fun c ds Φ=>∃(x dx a b:Addr) (p n many k:Int) (es:aR) (last:PyData),c=dJ C x dx a b p n es many last/\ds=[.int k]/\aS p n many es/\(∃d,(k,d)∈es)/\Φ (dJ C x dx a b p n (iI es k) many .none) true .none
theorem Ry{C:Addr}:iV (tS C):=by
 intro c ds Φ Ψ hm z;revert hm
 walk_at "mo";exact fun q=>z _ _ _ q
theorem acK:bY ["self","number"] ["self","number"] (aN rF):=⟨rfl,rfl,rfl,by decide+kernel,rfl,by decide+kernel,by decide+kernel⟩
theorem Xf(F:bM K "take_back" "Desk.take_back" rF f fd){ak:Addr}(aW:cg K ak)(iP:aT K ak "last")(fO:aT K ak "letter_deeds")(fW:aT K ak "check_deeds"):
  bq P w K mg base bG 1 f fd ["self","number"] (cB 2 (tS ak)):=by
 refine F.ok acK (fun vs H Q E h=>h.1) (fun cdv A outer s H vs Q E hr h=>?_)
 obtain⟨_,nb,c,ws,ds,rfl,hlive,c5,hcf,dM,hds,hF⟩:=h
 obtain⟨Φ,az,hF⟩:∃Φ:Cu->Pd,(∀c' f d v H',Φ c' f d->iJ c c' H H'->c'.P (fun a=>nb a\/a∈c'.F) H'->af (fun a=>nb a\/a∈c'.F\/(f=true/\H a≠none)) H' d v->Q v H')/\tS ak c ds Φ:=⟨_,fun c' f d v H' q=>q v H',hF⟩
 obtain⟨x,dx,a,b,p,n,many,k,es,last,rfl,rfl,hok,⟨d,hd⟩,q⟩:=hF
 refine⟨_,(@ay _ _ _ _ _ (@cR _ _ _ _ _ _ _ _ (@bA _ _ _ _ _ _ _ _ (Hl hr.units) (pv 1) (@cI _ _ _ _ _ (pv 0) rfl) (by with_unfolding_all rfl)) (@aD _ _ _ (@jV _ _ _ _ (nI OH Cf Lb Lw (@cI _ _ _ _ _ (pv 0) rfl) (@aa _ _ _ _ _ (pv 1) aj rfl)) (by rfl))) (@aD _ _ _ (@cR _ _ _ _ _ _ _ _ (@bA _ _ _ _ _ _ _ _ (Hl hr.units) (pv 1) (@cI _ _ _ _ _ (pv 0) rfl) (by with_unfolding_all rfl)) (@aD _ _ _ (@jV _ _ _ _ (nI OH Cf Lb Lw (@cI _ _ _ _ _ (pv 0) rfl) (@aa _ _ _ _ _ (pv 1) aj rfl)) (by rfl))) (@aD _ _ _ zp)))) (@aD _ _ _ (@je _ _ _ _ _ _ _ _ (pv 0) iD rfl))),?_⟩
 refine Sv.kX hlive c5 hcf dM hds az (ρ:=[.cu _, .d false _]) rfl ?_
 clear az hds
 refine Sv.seq ?_
 refine Sv.jE (Tv.test (Ev.Fi rfl aW fO rfl ?_))
 walk_at "dt"
 rw[G8]
 by_cases c1:cT (ldK es) k=true
 ·rw[if_pos c1]
  obtain⟨pl,le,m⟩:=qB.mp c1
  obtain⟨e1,e2⟩:=hok.Wh m
  refine Sv.L8 rfl aW fO rfl ?_
  walk_at "dt"
  have e3:dw "letter_deeds" (.cu (cD a (i7 (ldK es) k))) (jc p n a b es many last)=jc p n a b (iI es k) many last:=by
   unfold jc
   rw[e1,e2]
   rfl
  change Sv _ [.cu (aA ak x dx (dw "letter_deeds" (.cu (cD a (i7 (ldK es) k))) (jc p n a b es many last))), .d false (.int k)] _ _
  rw[e3]
  refine Sv.jN rfl aW iP (.inr ⟨_,rfl⟩) (iy rfl) ?_
  walk_at "dt"
  exact⟨_,rfl,⟨rfl,rfl,fun a m=>m⟩,q⟩
 rw[if_neg c1]
 refine Sv.jE (Tv.test (Ev.Fi rfl aW fW rfl ?_))
 walk_at "dt"
 rw[G8]
 by_cases c2:cT (aY es) k=true
 ·rw[if_pos c2]
  obtain⟨prs,r,m⟩:=yk.mp c2
  obtain⟨e1,e2⟩:=hok.Wx m
  refine Sv.L8 rfl aW fW rfl ?_
  walk_at "dt"
  have e3:dw "check_deeds" (.cu (cD b (i7 (aY es) k))) (jc p n a b es many last)=jc p n a b (iI es k) many last:=by
   unfold jc
   rw[e1,e2]
   rfl
  change Sv _ [.cu (aA ak x dx (dw "check_deeds" (.cu (cD b (i7 (aY es) k))) (jc p n a b es many last))), .d false (.int k)] _ _
  rw[e3]
  refine Sv.jN rfl aW iP (.inr ⟨_,rfl⟩) (iy rfl) ?_
  walk_at "dt"
  exact⟨_,rfl,⟨rfl,rfl,fun a m=>m⟩,q⟩
 rw[if_neg c2]
 exact absurd hd (fun m=>by
  cases d with
  |lt pl le=>exact c1 (qB.mpr ⟨pl,le,m⟩)
  |ck prs r=>exact c2 (yk.mpr ⟨prs,r,m⟩))
def uf(C:Addr):CF:=fun c ds Φ=>∃(x dx:Addr) (p n:Int),c=aA C x dx []/\ds=[.int p, .int n]/\∀a b,Φ (dJ C x dx a b p n [] 0 .none) true .none
theorem Zw{C:Addr}:iV (uf C):=by
 intro c ds Φ Ψ hm z;revert hm
 walk_at "mo";exact fun q=>fun a b=>z _ _ _ (q a b)
theorem UZ:bY ["self","p","n"] ["self","p","n"] (aN qI):=⟨rfl,rfl,rfl,by decide+kernel,rfl,by decide+kernel,by decide+kernel⟩
theorem aaS(F:bM K "__init__" "Desk.__init__" qI f fd){ak:Addr}(aW:cg K ak)(gZ:aT K ak "p")(ju:aT K ak "n")(fO:aT K ak "letter_deeds")(fW:aT K ak "check_deeds")(lz:aT K ak "many")(iP:aT K ak "last"):
  bq P w K mg base bG 1 f fd ["self","p","n"] (cB 3 (uf ak)):=by
 refine F.ok UZ (fun vs H Q E h=>h.1) (fun cdv A outer s H vs Q E hr h=>?_)
 obtain⟨_,nb,c,ws,ds,rfl,hlive,c5,hcf,dM,hds,hF⟩:=h
 obtain⟨Φ,az,hF⟩:∃Φ:Cu->Pd,(∀c' f d v H',Φ c' f d->iJ c c' H H'->c'.P (fun a=>nb a\/a∈c'.F) H'->af (fun a=>nb a\/a∈c'.F\/(f=true/\H a≠none)) H' d v->Q v H')/\uf ak c ds Φ:=⟨_,fun c' f d v H' q=>q v H',hF⟩
 obtain⟨x,dx,p,n,rfl,rfl,q⟩:=hF
 refine⟨_,(@ay _ _ _ _ _ (@je _ _ _ _ _ _ _ _ (pv 0) (pv 1) rfl) (@ay _ _ _ _ _ (@je _ _ _ _ _ _ _ _ (pv 0) (pv 2) rfl) (@ay _ _ _ _ _ (@je _ _ _ _ _ _ _ _ (pv 0) qj rfl) (@ay _ _ _ _ _ (@je _ _ _ _ _ _ _ _ (pv 0) qj rfl) (@ay _ _ _ _ _ (@je _ _ _ _ _ _ _ _ (pv 0) ai rfl) (@aD _ _ _ (@je _ _ _ _ _ _ _ _ (pv 0) iD rfl))))))),?_⟩
 refine Sv.kX hlive c5 hcf dM hds az (ρ:=[.cu _, .d false _, .d false _]) rfl ?_
 clear az hds
 refine Sv.seq (Sv.jN rfl aW gZ (.inl rfl) (iy rfl) ?_)
 walk_at "dt"
 refine Sv.jN rfl aW ju (.inl rfl) (iy rfl) ?_
 walk_at "dt"
 refine Sv.Dn rfl aW fO rfl (iy rfl) (ly.new fun a=>?_)
 refine Sv.seq (Sv.Dn rfl aW fW rfl (iy rfl) (ly.new fun b=>?_))
 refine Sv.seq (Sv.jN rfl aW lz (.inl rfl) (iy rfl) ?_)
 walk_at "dt"
 refine Sv.jN rfl aW iP (.inl rfl) (iy rfl) ?_
 walk_at "dt"
 exact⟨_,rfl,⟨rfl,rfl,fun y m=>by
  rcases aL.mp (show y∈x::dx::[] from m) with h|h
  ·rw[h];exact cA
  ·rw[aK.mp h];exact bX _ cA⟩,q a b⟩
theorem i9:bY ["script","bag","p","word","desk","deeds","many","k","way","number","deed","letters","why","found"] ["script"] (aN nv):=⟨rfl,rfl,rfl,by decide+kernel,rfl,by decide+kernel,by decide+kernel⟩
theorem SN(F:bM K "law" "law" nv f fd){ak:Addr}(Zi:ff P w K mg base ak "unlike" 8 ["self"] (tP 1 (Ad ak)))(YV:ff P w K mg base ak "known" 7 ["self"] (cB 1 (sU ak)))(aaC:ff P w K mg base ak "take_back" 1 ["self","number"] (cB 2 (tS ak)))(ZU:tu P w K mg base ak "Desk" 1 ["self","p","n"] (cB 3 (uf ak)))(UA:Callee P w K mg base "_law_bag" 1 ["script"] (P7 K))(Ra:Callee P w K mg base "_law_prime" 2 ["bag"] (iG 1 GY))(abv:Callee P w K mg base "_law_letters" 3 ["bag","p","n"] (iG 3 Ho))(uM:Callee P w K mg base "_law_alike" 4 ["found","due"] (cK 2 (sf 4)))(eU:Callee P w K mg base "_law_draw" 1 ["bag","many"] kG)(Wc:Callee P w K mg base "_law_picture" 2 ["p","n","deeds"] (cK 3 DX))(XQ:Callee P w K mg base "_law_deed" 4 ["bag","p","word"] (iG 3 GB))(S6:Callee P w K mg base "_law_unlike" 2 ["p","letters","deeds"] (cK 3 BS))(aaB:Callee P w K mg base "_law_told" 4 ["desk","deed"] (cB 2 (v8 ak)))(eB:mg "range"=none)(c8:mg "len"=none)(m6:mg "min"=none):
    bq P w K mg base bG 9 f fd ["script"] (we K):=by
  refine F.ok i9 (fun vs H Q E h=>?_) (fun cdv A outer s H vs Q E hr h=>?_)
  · obtain⟨a,ns,rfl,hS,hl,q⟩:=h
    rfl
  obtain⟨a,ns,rfl,hS,hl,q⟩:=h
  refine⟨_,(@ay _ _ _ _ _ (@aV _ _ (1) _ _ _ _ i9.nd rfl (Or.inl rfl) (@bw _ _ _ _ _ _ _ _ _ _ UA (hr.mono (by decide)) (@aa _ _ _ _ _ (pv 0) aj rfl) (by rfl) (by decide) (by rfl) (by rfl)) (by rfl) (by first|exact .inl rfl|exact .inr rfl|assumption)) (@ay _ _ _ _ _ (@aV _ _ (2) _ _ _ _ i9.nd rfl (Or.inl rfl) (@bw _ _ _ _ _ _ _ _ _ _ Ra (hr.mono (by decide)) (@aa _ _ _ _ _ (pv 1) aj rfl) (by rfl) (by decide) (by rfl) (by rfl)) (by rfl) (by first|exact .inl rfl|exact .inr rfl|assumption)) (@ay _ _ _ _ _ (@aV _ _ (3) _ _ _ _ i9.nd rfl (Or.inl rfl) (@bw _ _ _ _ _ _ _ _ _ _ abv (hr.mono (by decide)) (@aa _ _ _ _ _ (pv 1) (@aa _ _ _ _ _ (pv 2) (@aa _ _ _ _ _ (@aM _ _ _ _ _ _ _ _ gu ai (@bw _ _ _ _ _ _ _ _ _ _ eU (hr.mono (by decide)) (@aa _ _ _ _ _ (pv 1) (@aa _ _ _ _ _ (@aF _ _ _ _ _ _ (dS K) cC (@iw _ _ _ _ (@Mp _ _ _ rfl)) (@bw _ _ _ _ _ _ _ _ _ _ eU (hr.mono (by decide)) (@aa _ _ _ _ _ (pv 1) (@aa _ _ _ _ _ ai aj rfl) rfl) (by rfl) (by decide) (by rfl) (by rfl)) (fun _ _=>rfl)) aj rfl) rfl) (by rfl) (by decide) (by rfl) (by rfl))) aj rfl) rfl) rfl) (by rfl) (by decide) (by rfl) (by rfl)) (by rfl) (by first|exact .inl rfl|exact .inr rfl|assumption)) (@ay _ _ _ _ _ (@aV _ _ (4) _ _ _ _ i9.nd rfl (Or.inl rfl) (@Oj _ _ _ _ _ _ _ _ _ _ _ ZU (hr.mono (by decide)) (@aa _ _ _ _ _ (pv 2) (@aa _ _ _ _ _ (@cZ _ _ _ _ _ _ _ _ (iB K) jq rfl c8 jl (@aa _ _ _ _ _ (pv 3) aj rfl) (by decide) (by decide) (by rfl) (by rfl)) aj rfl) rfl) (by rfl) (by decide) (by rfl) (by rfl)) (by rfl) (by first|exact .inl rfl|exact .inr rfl|assumption)) (@ay _ _ _ _ _ (@aV _ _ (5) _ _ _ _ i9.nd rfl (Or.inl rfl) (@iw _ _ _ _ aj) (by rfl) (by first|exact .inl rfl|exact .inr rfl|assumption)) (@ay _ _ _ _ _ (@aV _ _ (6) _ _ _ _ i9.nd rfl (Or.inl rfl) ai (by rfl) (by first|exact .inl rfl|exact .inr rfl|assumption)) (@ay _ _ _ _ _ (@jd _ _ _ _ _ _ _ _ iA rfl (@o7 _ _ _ _ _ _ rfl eB (@aa _ _ _ _ _ (@aM _ _ _ _ _ _ _ _ gu ai (@cZ _ _ _ _ _ _ _ _ _ (Fy rfl) rfl m6 CS (@aa _ _ _ _ _ ai (@aa _ _ _ _ _ (@cZ _ _ _ _ _ _ _ _ (iB K) jq rfl c8 jl (@aa _ _ _ _ _ (pv 0) aj rfl) (by decide) (by decide) (by rfl) (by rfl)) aj rfl) rfl) (by decide) (by decide) (by rfl) (by rfl))) aj rfl) (by rfl)) (bB (i:=7) i9.nd rfl (Or.inl rfl)) (@ay _ _ _ _ _ (@aV _ _ (8) _ _ _ _ i9.nd rfl (Or.inl rfl) (@bw _ _ _ _ _ _ _ _ _ _ eU (hr.mono (by decide)) (@aa _ _ _ _ _ (pv 1) (@aa _ _ _ _ _ ai aj rfl) rfl) (by rfl) (by decide) (by rfl) (by rfl)) (by rfl) (by first|exact .inl rfl|exact .inr rfl|assumption)) (@ay _ _ _ _ _ (@cR _ _ _ _ _ _ _ _ (PW.pt (nN (@bA _ _ _ _ _ _ _ _ gX (pv 8) ai (br _)) (ou (@bA _ _ _ _ _ _ _ _ (Oh hr.units) (pv 5) (@iw _ _ _ _ aj) (br _))))) (@ay _ _ _ _ _ (@gC _ _ _ _ _ _ (nI qT PySem.F.slot_list_pop PySem.F.type_list_pop aah (pv 5) (@aa _ _ _ _ _ (@bw _ _ _ _ _ _ _ _ _ _ eU (hr.mono (by decide)) (@aa _ _ _ _ _ (pv 1) (@aa _ _ _ _ _ (@cZ _ _ _ _ _ _ _ _ (iB K) jq rfl c8 jl (@aa _ _ _ _ _ (pv 5) aj rfl) (by decide) (by decide) (by rfl) (by rfl)) aj rfl) rfl) (by rfl) (by decide) (by rfl) (by rfl)) aj rfl)) (@jM _ (K) _ _ _ (2) _ rfl rfl (@dj _ _ _ _ _ (bB (i:=9) i9.nd rfl (Or.inl rfl)) (@dj _ _ _ _ _ (bB (i:=10) i9.nd rfl (Or.inl rfl)) jx (by rfl)) (by rfl)) (by rfl) (by rfl)) (by rfl) (by rfl) (by rfl)) (@aD _ _ _ (@jV _ _ _ _ (@oB _ _ _ _ _ _ _ _ _ _ _ _ _ _ aaC (pv 4) (hr.mono (by decide)) (@aa _ _ _ _ _ (pv 9) aj rfl) (by rfl) (by rfl) (by rfl)) (by rfl)))) (@ay _ _ _ _ _ (@aV _ _ (10) _ _ _ _ i9.nd rfl (Or.inl rfl) (@bw _ _ _ _ _ _ _ _ _ _ XQ (hr.mono (by decide)) (@aa _ _ _ _ _ (pv 1) (@aa _ _ _ _ _ (pv 2) (@aa _ _ _ _ _ (pv 3) aj rfl) rfl) rfl) (by rfl) (by decide) (by rfl) (by rfl)) (by rfl) (by first|exact .inl rfl|exact .inr rfl|assumption)) (@ay _ _ _ _ _ (@cR _ _ _ _ _ _ _ _ (PW.pt (nN (@bA _ _ _ _ _ _ _ _ gX (pv 8) ai (br _)) (ou (@bA _ _ _ _ _ _ _ _ (Oh hr.units) (pv 5) (@iw _ _ _ _ aj) (br _))))) (@aD _ _ _ (@aV _ _ (10) _ _ _ _ i9.nd rfl (Or.inl rfl) (@aF _ _ _ _ _ _ (bU K) cy (@aF _ _ _ _ _ _ (dS K) cC (pv 5) (@bw _ _ _ _ _ _ _ _ _ _ eU (hr.mono (by decide)) (@aa _ _ _ _ _ (pv 1) (@aa _ _ _ _ _ (@cZ _ _ _ _ _ _ _ _ (iB K) jq rfl c8 jl (@aa _ _ _ _ _ (pv 5) aj rfl) (by decide) (by decide) (by rfl) (by rfl)) aj rfl) rfl) (by rfl) (by decide) (by rfl) (by rfl)) (fun _ _=>rfl)) ai (fun _ _=>rfl)) (by rfl) (by first|exact .inl rfl|exact .inr rfl|assumption))) dG) (@ay _ _ _ _ _ (@cR _ _ _ _ _ _ _ _ (@rq _ _ _ _ (@qo _ (K) _ _ rfl (@bw _ _ _ _ _ _ _ _ _ _ uM (hr.mono (by decide)) (@aa _ _ _ _ _ (@bw _ _ _ _ _ _ _ _ _ _ aaB (hr.mono (by decide)) (@aa _ _ _ _ _ (pv 4) (@aa _ _ _ _ _ (pv 10) aj rfl) rfl) (by rfl) (by decide) (by rfl) (by rfl)) (@aa _ _ _ _ _ (pv 6) aj rfl) rfl) (by rfl) (by decide) (by rfl) (by rfl)) (fun _=>rfl))) (@aD _ _ _ (@bC _ _ _ _ sy)) dG) (@ay _ _ _ _ _ (@jV _ _ _ _ (nI qT tW uw rO (pv 5) (@aa _ _ _ _ _ (@gc _ _ _ _ _ (@aa _ _ _ _ _ (pv 6) (@aa _ _ _ _ _ (pv 10) aj rfl) rfl)) aj rfl)) (by rfl)) (@aD _ _ _ (@aV _ _ (6) _ _ _ _ i9.nd rfl (Or.inl rfl) (@aM _ _ _ _ _ _ _ _ gu (pv 6) ai) (by rfl) (by first|exact .inl rfl|exact .inr rfl|assumption)))))))) (@ay _ _ _ _ _ (@gC _ _ _ _ _ _ (@bw _ _ _ _ _ _ _ _ _ _ Wc (hr.mono (by decide)) (@aa _ _ _ _ _ (pv 2) (@aa _ _ _ _ _ (@cZ _ _ _ _ _ _ _ _ (iB K) jq rfl c8 jl (@aa _ _ _ _ _ (pv 3) aj rfl) (by decide) (by decide) (by rfl) (by rfl)) (@aa _ _ _ _ _ (pv 5) aj rfl) rfl) rfl) (by rfl) (by decide) (by rfl) (by rfl)) (@jM _ (K) _ _ _ (2) _ rfl rfl (@dj _ _ _ _ _ (bB (i:=11) i9.nd rfl (Or.inl rfl)) (@dj _ _ _ _ _ (bB (i:=12) i9.nd rfl (Or.inl rfl)) jx (by rfl)) (by rfl)) (by rfl) (by rfl)) (by rfl) (by rfl) (by rfl)) (@ay _ _ _ _ _ (@aV _ _ (13) _ _ _ _ i9.nd rfl (Or.inl rfl) (@pU _ _ _ _ _ _ _ _ _ _ _ Zi (pv 4) (hr.mono (by decide)) (by rfl)) (by rfl) (by first|exact .inl rfl|exact .inr rfl|assumption)) (@ay _ _ _ _ _ (@cR _ _ _ _ _ _ _ _ (@rq _ _ _ _ (@qo _ (K) _ _ rfl (@bw _ _ _ _ _ _ _ _ _ _ uM (hr.mono (by decide)) (@aa _ _ _ _ _ (pv 13) (@aa _ _ _ _ _ (@bw _ _ _ _ _ _ _ _ _ _ S6 (hr.mono (by decide)) (@aa _ _ _ _ _ (pv 2) (@aa _ _ _ _ _ (pv 11) (@aa _ _ _ _ _ (pv 5) aj rfl) rfl) rfl) (by rfl) (by decide) (by rfl) (by rfl)) aj rfl) rfl) (by rfl) (by decide) (by rfl) (by rfl)) (fun _=>rfl))) (@aD _ _ _ (@bC _ _ _ _ sy)) dG) (@aD _ _ _ (@jV _ _ _ _ (nI qT tW uw rO (pv 13) (@aa _ _ _ _ _ ai aj rfl)) (by rfl)))))))) (by intro _;rfl)) (@aD _ _ _ (@bC _ _ _ _ (@bw _ _ _ _ _ _ _ _ _ _ uM (hr.mono (by decide)) (@aa _ _ _ _ _ (@pU _ _ _ _ _ _ _ _ _ _ _ YV (pv 4) (hr.mono (by decide)) (by rfl)) (@aa _ _ _ _ _ (pv 11) aj rfl) rfl) (by rfl) (by decide) (by rfl) (by rfl))))))))))),?_⟩
  walk_at "st"
  refine⟨a,ns,rfl,hS,hl,fun b l H1 s1 f1 B1=>?_⟩
  have hS1:=s1.seq hS
  have key:∀(t:TS) (D:Ends),(∀H,D.rt (.bl true) H)->Sv (zb b l H1) [.raw (.ref a), .au, .no, .no, .no, .no, .no, .no, .no, .no, .no, .no, .no, .no] t {nx:=fun _=>False,rt:=fun _ d=>d= .bool true}->t D [some (.ref a),some (.ref b),none,none,none,none,none,none,none,none,none,none,none,none] H1:=fun t D d2 h=>h _ _ _ D (aax (m:=12) B1) (aaA d2)
  refine R.Ko ?_
  dsimp only
  refine key _ _ (fun H=>?_) ?_
  · exact q _
  clear key q
  walk_at "dt"
  refine Ev.lJ ach rfl ?_
  walk_at "dt"
  refine⟨rfl,fun p hp g7 f2=>?_⟩
  have p2:=hp.1
  walk_at "dt"
  refine Ev.lJ Y8 rfl ?_
  walk_at "dt"
  intro w w0 w1
  obtain⟨m,em,m0,m1⟩:=pick (L:=[6,6,6,40]) w0 (by show w<4;omega) (fun x=>1<=x/\x<=40) (by decide)
  refine⟨_,rfl,_,em,_,rfl,by omega,by unfold Sm;omega,fun r r0 r1=>?_⟩
  walk_at "dt"
  refine⟨rfl,p,1+r,rfl,p2,g7,by omega,by omega,fun os ho hos=>?_⟩
  have nj:(os.map PyData.int).length=os.length:=ao ..
  obtain⟨n,en⟩:∃n:Int,n=os.length:=⟨_,rfl⟩
  have hn1:1<=n:=by omega
  have Xp:n<=40:=by omega
  have CK:uh p n:=⟨hp,g7,by omega,by omega⟩
  refine Gv.vq ?_
  refine Sv.seq (Sv.make Zw ?_)
  walk_at "dt"
  refine⟨rfl,fun x dx=>⟨x,dx,p,n,rfl,by rw[en,<-nj];rfl,fun a1 a2=>⟨rfl,?_⟩⟩⟩
  refine Sv.seq (Sv.Ms fun A5=>?_)
  walk_at "dt"
  refine Sv.seq (Sv.RQ ?_)
  walk_at "dt"
  refine⟨fun i ρ=>∃(es:aR) (many:Int) (last:PyData) (f5:Bool) (x7 x8 x9 ku kK p5 pY:Sl),ρ=[.raw (.ref a), .au, .d true (.int p), .d false (.list (os.map .int)), .cu (dJ ak x dx a1 a2 p n es many last), .own A5 f5 (es.map bR), .d true (.int many),x7,x8,x9,ku,kK,p5,pY]/\aS p n many es/\0<=many/\many<=i/\es.length<=i/\LastOk p n es last/\(i=0\/kK= .d true (dN (eT p n es).wd)),⟨[],0, .none,_,_,_,_,_,_,_,_,rfl,⟨.nil,(fun _ z=>nomatch z),(fun _ z=>nomatch z),g8 _⟩,Gu _,Gu _,aU _, .inl rfl, .inl rfl⟩,?_,?_⟩
  · rintro i d ρ ⟨hi,rfl⟩ ⟨es,many,last,f5,x7,x8,x9,ku,kK,p5,pY,rfl,hok,hm0,hmi,hei,kj,_⟩
    have adx:i<34:=by
      have:(4+if(ns.length:Int)<30 then(ns.length:Int) else 30).toNat<=34:=by split<;>omega
      omega
    refine Gv.pV ?_
    walk_at "dt"
    intro u u0 u1
    refine Gv.pV ?_
    refine Sv.seq ?_
    refine Sv.LH (fun ρ'=>∃(es:aR) (many:Int) (last:PyData) (f5:Bool) (x9 ku:Sl),ρ'=[.raw (.ref a), .au, .d true (.int p), .d false (.list (os.map .int)), .cu (dJ ak x dx a1 a2 p n es many last), .own A5 f5 (es.map bR), .d true (.int many), .d true (.int (0+(i:Int))), .d true (.int u),x9,ku,kK,p5,pY]/\aS p n many es/\0<=many/\many<=((i+1:Nat):Int)/\es.length<=i+1/\LastOk p n es last) ?_ ?_
    · have mid:∀{es:aR} {many:Int} {last:PyData} {f5:Bool} {x9 ku:Sl},aS p n many es->0<=many->many<=((i+1:Nat):Int)->es.length<=i+1->LastOk p n es last->∃(es':aR) (uO:Int) (last':PyData) (f5':Bool) (y9 iS:Sl),[Sl.raw (.ref a), .au, .d true (.int p), .d false (.list (os.map .int)), .cu (dJ ak x dx a1 a2 p n es many last), .own A5 f5 (es.map bR), .d true (.int many), .d true (.int (0+(i:Int))), .d true (.int u),x9,ku,kK,p5,pY]=[.raw (.ref a), .au, .d true (.int p), .d false (.list (os.map .int)), .cu (dJ ak x dx a1 a2 p n es' uO last'), .own A5 f5' (es'.map bR), .d true (.int uO), .d true (.int (0+(i:Int))), .d true (.int u),y9,iS,kK,p5,pY]/\aS p n uO es'/\0<=uO/\uO<=((i+1:Nat):Int)/\es'.length<=i+1/\LastOk p n es' last':=fun h1 h2 h3 h4 h5=>⟨_,_,_,_,_,_,rfl,h1,h2,h3,h4,h5⟩
      have hne:(PyData.list (es.map bR)).eqv (.list (([]:List Fd).map (·.2)))=(es.map bR).isEmpty:=OL _
      have JE:∀{k:Int} {ρ':Rh},ρ'[8]?=some (.d true (.int u))->ρ'[5]?=some (.own A5 f5 (es.map bR))->Tv (zb b l H1) ρ' (Br (uK (cP yz (bf 8) (tC (V.int k)))) (uK (cP (zy true) (bf 5) (mw bE)))) fun bb=>bb=true↔(u=k/\es≠[]):=fun{k ρ'} e8 e5=>by
        refine Tv.and (Tv.test (Ev.eq (Ev.var e8 (Ev.int ⟨_, .ii _ _,_,rfl,?_⟩))))
        by_cases c:u=k
        · rw[if_pos (decide_eq_true c)]
          refine Tv.lend 5 e5 (Tv.test (Ev.zx (Ev.var (by
            have:=(bT.mp e5).1
            exact cU this) (Ev.lst (Av.nil ⟨by decide,Wq _,rfl,_,rfl,?_⟩)))))
          rw[hne]
          cases es with
          |nil=>simp
          |cons _ _=>simp[c]
        · rw[if_neg (by simpa using c)]
          simp[c]
      refine Sv.jE (Tv.monoB (JE rfl rfl) fun bb ux=>?_)
      cases bb with
      | true =>
        rw[if_pos rfl]
        obtain⟨cu5,k6⟩:=ux.mp rfl
        have hel:0<es.length:=by cases es with|nil=>exact absurd rfl k6|cons _ _=>simp
        have hdl:(es.map bR).length=es.length:=ao ..
        refine Sv.seq (Sv.Wr rfl ?_)
        walk_at "dt"
        intro r r0 r1
        obtain⟨q0,hq⟩:∃q0,es[r.toNat]?=some q0:=⟨_,bP (by omega)⟩
        refine⟨r.toNat,bR q0,by rw[Int.toNat_of_nonneg r0],by omega,by rw[bI,hq];rfl,?_⟩
        rw[show bR q0= .tuple [.int q0.1,jZ q0.2] from rfl]
        walk_at "dt"
        refine Sv.D7 (bW.nE Ry rfl rfl (aA.is rfl) ?_)
        walk_at "dt"
        refine⟨rfl,x,dx,a1,a2,p,n,many,q0.1,es,last,rfl,rfl,hok,⟨_,dg hq⟩,?_⟩
        have e1:(es.map bR).eraseIdx r.toNat=(iI es q0.1).map bR:=by rw[acU hok.nd hq,LZ]
        have hk:=hok.out q0.1
        have hl2:(iI es q0.1).length<=es.length:=nM ..
        refine⟨iI es q0.1,many, .none,f5, .d true (.int q0.1), .d false (jZ q0.2),?_,hk,hm0,by omega,by omega, .inl rfl⟩
        rw[<-e1]
        rfl
      | false =>
        rw[if_neg bV]
        refine Sv.seq (Sv.asg (Ev.lJ Z8 rfl ?_))
        walk_at "dt"
        refine⟨rfl,p,os,rfl,hp,g7,by omega,by omega,hos,fun dd fd tB=>?_⟩
        rw[<-en] at tB
        refine Gv.name ?_
        refine Sv.seq ?_
        refine Sv.LH (fun ρ'=>∃(dd:cQ) (fd:Bool),ρ'=[.raw (.ref a), .au, .d true (.int p), .d false (.list (os.map .int)), .cu (dJ ak x dx a1 a2 p n es many last), .own A5 f5 (es.map bR), .d true (.int many), .d true (.int (0+(i:Int))), .d true (.int u),x9, .d fd (jZ dd),kK,p5,pY]/\uA p n dd) ?_ ?_
        · refine Sv.jE (Tv.monoB (JE rfl rfl) fun Xy X6=>?_)
          cases Xy with
          | false =>
            rw[if_neg bV]
            refine Sv.next ?_
            exact⟨dd,_,rfl,tB⟩
          | true =>
            rw[if_pos rfl]
            obtain⟨_,k6⟩:=X6.mp rfl
            have hel:0<es.length:=by cases es with|nil=>exact absurd rfl k6|cons _ _=>simp
            have hdl:(es.map bR).length=es.length:=ao ..
            walk_at "dt"
            intro r r0 r1
            obtain⟨q0,hq⟩:∃q0,es[r.toNat]?=some q0:=⟨_,bP (by omega)⟩
            have hat:cO (es.map bR) r=some (.tuple [.int q0.1,jZ q0.2]):=lD r0 (by rw[bI,hq];rfl)
            walk_at "dt"
            exact⟨q0.2,_,rfl,hok.ok _ (dg hq)⟩
        · rintro ρ ⟨dd,fd,rfl,tB⟩
          refine Sv.seq ?_
          refine Sv.ab5 (nP.not (nP.uZ (bW.gG (tQ 4) (sO.cons (bW.callC acm rfl rfl ?_)))))
          walk_at "dt"
          refine⟨rfl,x,dx,a1,a2,p,n,many,dd,es,last,rfl,rfl,hok,tB,by omega,?_⟩
          walk_at "dt"
          refine⟨rfl, .int many,rfl, .inl rfl,_,rfl,?_⟩
          rw[if_neg (by decide)]
          refine Sv.next ?_
          have tM:=hok.snoc hm0 tB (by omega)
          have hdl:(es.map bR).length=es.length:=ao ..
          walk_at "dt"
          refine⟨es++[(many,dd)],many+1, .none,f5 && vB [(true, .int many),(fd,jZ dd)],x9, .d fd (jZ dd),?_,tM,by omega,by omega,by rw[dW,kT];omega, .inl rfl⟩
          rw[fF]
          rfl
    · rintro ρ ⟨es,many,last,f5,x9,ku,rfl,hok,hm0,hmi,hei,kj⟩
      refine Sv.seq (Sv.asg (Ev.Mx acA ?_))
      refine fh.cons (Ev.var rfl ?_)
      refine fh.cons (Ev.G2 (Ev.var rfl ⟨_, .inl rfl,?_⟩))
      refine fh.own rfl (fh.nil ?_)
      refine⟨rfl,p,n,many,es,by rw[en,<-nj],hok,CK, .inl rfl,?_⟩
      generalize iM:(mP (fZ (kP ak _ _ _ _ _ _) _) _:TS)=tl
      walk_at "dt"
      subst iM
      refine Sv.seq (Sv.Y7 (jQ.aa9 UP rfl rfl (aA.is rfl) ?_))
      refine Av.nil ⟨rfl,x,dx,a1,a2,p,n,many,es,last,rfl,rfl,hok,CK,kj,fun last' Sn A13=>?_⟩
      refine Sv.seq ?_
      refine Sv.jE (Tv.not (Tv.uZ (Ev.lend 13 rfl (Ev.lend 5 rfl (Ev.gG (tQ 4) ?_)))))
      refine Av.cons (Ev.var rfl (Av.cons (Ev.gG WO ?_)))
      walk_at "dt"
      obtain⟨i1,i2,i3⟩:=nZ (show 0<p by omega) hok (n.toNat+1)
      refine⟨rfl,p,n,many,(eT p n es).wd,es,rfl,hok,by omega,g7,by omega,by rw[show(eT p n es).wd.length=n.toNat from i1];omega,i3,?_⟩
      walk_at "dt"
      have hfl:=nM (fun q:Int×cQ=>!fQ p (eT p n es).wd q.2) es
      refine⟨rfl,rL _,rfl,Q7 _ (by rw[ao];omega),rfl,rfl,_,rfl,?_⟩
      rw[if_neg (by decide)]
      refine Sv.next ?_
      walk_at "dt"
      refine⟨by rw[ao,ao];omega,?_⟩
      exact⟨es,many,last',f5,_,_,_,_,_,_,_,rfl,hok,hm0,hmi,hei,Sn, .inr rfl⟩
  · rintro ρ ⟨es,many,last,f5,x7,x8,x9,ku,kK,p5,pY,rfl,hok,hm0,hmi,hei,kj,hx⟩
    have hdl:=hok.len
    rcases hx with h|rfl
    · exfalso
      split at h<;>omega
    · obtain⟨i1,i2,i3⟩:=nZ (show 0<p by omega) hok (n.toNat+1)
      have i1:(eT p n es).wd.length=n.toNat:=i1
      refine Sv.next ?_
      refine Sv.retS (bW.gG (tQ 4) (sO.cons (bW.nE XM rfl rfl (aA.is rfl) ?_)))
      refine Av.nil ⟨rfl,x,dx,a1,a2,p,n,many,es,last,rfl,rfl,hok,CK,kj,fun d' hd'=>?_⟩
      walk_at "dt"
      refine⟨rfl,dN (eT p n es).wd,rfl, .inr ⟨_, .inl rfl,by rw[ao];omega,fun e he=>?_⟩,rfl⟩
      obtain⟨o,_,rfl⟩:=c9.mp he
      cases o<;>exact .inl rfl
end
local macro_rules| `(tactic|walk_at "bn")=> `(tactic|(intro _ _ _ _ _ _ us hl;first|(obtain⟨_,h⟩:=JI hl;subst h;rfl)|(obtain⟨_,_,h⟩:=ln2 hl;subst h;rfl)|(obtain⟨_,_,_,h⟩:=Qj hl;subst h;rfl)|(obtain⟨_,_,_,_,h⟩:=ln4 hl;subst h;rfl)|(obtain⟨_,_,_,_,_,h⟩:=ln5 hl;subst h;rfl)|(obtain⟨_,_,_,_,_,_,h⟩:=ln6 hl;subst h;rfl)|(obtain⟨_,_,_,_,_,_,_,h⟩:=ln7 hl;subst h;rfl)))
theorem all_mk:VO:=by
 intro l w K h mg fa f0 f1 f2 f3 f4 f5 f6 f7 f8 f9 OF Mb HU Lc Ip N6 NZ MP Iq Jx K4 HH HR PL Ka Ql Ml K9 BF rV rS qy f32 qF su rB qY sJ qu qU sI qL X G Pe P4 Gy O1 OD Cc C4 DB zz CH KZ Nv Ie QD IU MS Qa FG HM M1 P0 Jg Kf LM KS Oe EU HA Ji Lp Iw Jj OW JC HW BK Lx Mf K6 Jh Ls ON KO Im GA Oo L0 LV Lj Qz Mj J2 NI Ce N4 Qh LC P5 Qd Jt NN Pr CV L4 Hz PB Ib Kw MK Nt MJ Hu Ia LG JK PU Ni Lv Jp IQ Eg OI IS Mr Mh JX Lh NL Ln DL Qg II JF OJ LR Ot HN J9 BY J6 Ik Mm KL MZ MD Lf N9 GK IP L1 IE KG KH K2 JL Nd Gg NY JZ LS Jq Lz OQ QE MB E3 JG aJ AW BG AM vQ zC A7 zw ak wL xG AR By Bq yi zR jr kr m9 nh lH jO gZ ju fO fW lz iP d0 d1 d2 d3 d4 d5 d6 d7 d8 d9 zh yu vR AJ Al AA zF Ar wY yf AX zo yj zk yQ zg vY zP Bl Au zE vP xW wR wC za Bo wW v7 xH yO u7 BH Bk zS BE sX a32 wF yZ yX AI xD yT wD zY sL ze wc yS zM tO yD zO xU AQ uH yF z4 Am vV uy wK Bc zA zL uV Aj xR wo Bb tD yo xT A0 AE ua yV zm Ao AL sR zN zf xg vO tY yH An yW Ai wA Bv yY AK xA ym Ay zZ xE Aq
 have e:=Pe.symm.trans (c7 X G Bl)
 cases e
 obtain⟨a0,_,F0⟩:=d0
 have b0:=F0.binds (ps:=["p","a","b"]) (by walk_at "bn")
 obtain⟨a1,_,F1⟩:=d1
 have b1:=F1.binds (ps:=["p","b"]) (by walk_at "bn")
 obtain⟨a2,_,F2⟩:=d2
 have b2:=F2.binds (ps:=["p","pairs","word"]) (by walk_at "bn")
 obtain⟨a3,_,F3⟩:=d3
 have b3:=F3.binds (ps:=["p","n","pairs"]) (by walk_at "bn")
 obtain⟨a4,_,F4⟩:=d4
 have b4:=F4.binds (ps:=["n","place"]) (by walk_at "bn")
 obtain⟨a5,_,F5⟩:=d5
 have b5:=F5.binds (ps:=["p","letter"]) (by walk_at "bn")
 obtain⟨a6,_,F6⟩:=d6
 have b6:=F6.binds (ps:=["p","letter"]) (by walk_at "bn")
 obtain⟨a7,_,F7⟩:=d7
 have b7:=F7.binds (ps:=["p","pairs","word"]) (by walk_at "bn")
 obtain⟨a8,_,F8⟩:=d8
 have b8:=F8.binds (ps:=["p","pairs","rest","word"]) (by walk_at "bn")
 obtain⟨a9,_,F9⟩:=d9
 have b9:=F9.binds (ps:=["letter_deeds"]) (by walk_at "bn")
 obtain⟨Uv,_,Hi⟩:=zh
 have Wt:=Hi.binds (ps:=["p","n","letter_deeds","check_deeds"]) (by walk_at "bn")
 obtain⟨Yq,_,DQ⟩:=yu
 have U5:=DQ.binds (ps:=["script"]) (by walk_at "bn")
 obtain⟨a12,_,BQ⟩:=vR
 have Ud:=BQ.binds (ps:=["bag","many"]) (by walk_at "bn")
 obtain⟨Ux,_,E5⟩:=AJ
 have UM:=E5.binds (ps:=["number"]) (by walk_at "bn")
 obtain⟨QO,_,CN⟩:=Al
 have b14:=CN.binds (ps:=["bag"]) (by walk_at "bn")
 obtain⟨XW,_,G5⟩:=AA
 have WS:=G5.binds (ps:=["p","a","b"]) (by walk_at "bn")
 obtain⟨UI,_,DK⟩:=zF
 have b16:=DK.binds (ps:=["p","pairs","word"]) (by walk_at "bn")
 obtain⟨V7,_,GF⟩:=Ar
 have b17:=GF.binds (ps:=["bag","p"]) (by walk_at "bn")
 obtain⟨Ws,_,FQ⟩:=wY
 have Ue:=FQ.binds (ps:=["bag","p"]) (by walk_at "bn")
 obtain⟨WI,_,Dz⟩:=yf
 have RL:=Dz.binds (ps:=["bag","p","n"]) (by walk_at "bn")
 obtain⟨Xq,_,D4⟩:=AX
 have RA:=D4.binds (ps:=["bag","n","wide"]) (by walk_at "bn")
 obtain⟨vj,_,l7⟩:=zo
 have u9:=l7.binds (ps:=["found","due"]) (by walk_at "bn")
 obtain⟨Yh,_,Ei⟩:=yj
 have b22:=Ei.binds (ps:=["pairs","word"]) (by walk_at "bn")
 obtain⟨V3,_,GJ⟩:=zk
 have b23:=GJ.binds (ps:=["bag","p","n"]) (by walk_at "bn")
 obtain⟨W8,_,Eh⟩:=yQ
 have XY:=Eh.binds (ps:=["p","n","deeds"]) (by walk_at "bn")
 obtain⟨ZN,_,Ca⟩:=zg
 have b25:=Ca.binds (ps:=["p","letters","deeds"]) (by walk_at "bn")
 obtain⟨a26,_,Cq⟩:=vY
 have Sy:=Cq.binds (ps:=["bag","p","word"]) (by walk_at "bn")
 obtain⟨a27,_,Di⟩:=zP
 have WX:=Di.binds (ps:=["desk","deed"]) (by walk_at "bn")
 have Yr:=jt (st:=nv) Au zE vP
 have OC:=jt (st:=oZ) wC za Bo
 have b29:=OC.binds (ps:=["self","p","n","check_deeds"]) (by walk_at "bn")
 have LY:=jt (st:=sC) xH yO u7
 have UO:=LY.binds (ps:=["self","found"]) (by walk_at "bn")
 have MG:=jt (st:=p9) zS BE sX
 have XS:=MG.binds (ps:=["self","turn"]) (by walk_at "bn")
 have Jm:=jt (st:=qI) yZ yX AI
 have b32:=Jm.binds (ps:=["self","p","n"]) (by walk_at "bn")
 have Ob:=jt (st:=qO) wD zY sL
 have UY:=Ob.binds (ps:=["self","place","letter"]) (by walk_at "bn")
 have Lo:=jt (st:=sE) yS zM tO
 have YL:=Lo.binds (ps:=["self","pairs","rest"]) (by walk_at "bn")
 have Ox:=jt (st:=qZ) xU AQ uH
 have XI:=Ox.binds (ps:=["self"]) (by walk_at "bn")
 have JY:=jt (st:=rF) Am vV uy
 have XC:=JY.binds (ps:=["self","number"]) (by walk_at "bn")
 have Nf:=jt (st:=rG) zA zL uV
 have Rt:=Nf.binds (ps:=["self"]) (by walk_at "bn")
 have Jw:=jt (st:=qP) wo Bb tD
 have YW:=Jw.binds (ps:=["self"]) (by walk_at "bn")
 have LD:=jt (st:=rR) A0 AE ua
 have Yp:=LD.binds (ps:=["self"]) (by walk_at "bn")
 have L5:=jt (st:=oR) Ao AL sR
 have Vk:=L5.binds (ps:=["self"]) (by walk_at "bn")
 have Lm:=jt (st:=qw) xg vO tY
 have Xa:=Lm.binds (ps:=["self","number"]) (by walk_at "bn")
 have eK:cg K aJ:=⟨BG,AM,vQ,zC⟩
 have aW:cg K ak:=⟨xG,AR,By,Bq⟩
 have EZ:=jL X G yH
 have qt:=jL X G An
 have oQ:=jL X G yW
 have lK:=jL X G Ai
 have jA:=jL X G wA
 have c8:=jL X G Bv
 have eH:=jL X G yY
 have m6:=jL X G AK
 have eB:=jL X G xA
 have Gr:=jL X G ym
 have kE:=jL X G Ay
 have pL:=jL X G zZ
 have Ea:=jL X G xE
 have pM:=jL X G Aq
 refine⟨PySem.W.fnOf "law" "law" (gQ nv) (gx nv) (aN nv) .none Cc C4 DB Gy zz CH,fun s v=> .of_eq rfl,fun base _ _=>?_⟩
 have YG:=Callee.mk' F1 (Zq (P:=l.prog) (w:=w) (base:=base) F1) b1 (c7 X G a1)
 have Sa:=Callee.mk' F0 (Tz (P:=l.prog) (w:=w) (base:=base) F0 YG) b0 (c7 X G a0)
 have MV:=Callee.mk' F2 (Yb (P:=l.prog) (w:=w) (base:=base) F2) b2 (c7 X G a2)
 have Um:=Callee.mk' F3 (Tq (P:=l.prog) (w:=w) (base:=base) F3 c8) b3 (c7 X G a3)
 have Vj:=Callee.mk' F4 (WN (P:=l.prog) (w:=w) (base:=base) F4) b4 (c7 X G a4)
 have ZZ:=Callee.mk' F5 (SV (P:=l.prog) (w:=w) (base:=base) F5) b5 (c7 X G a5)
 have Iv:=Callee.mk' F6 (UQ (P:=l.prog) (w:=w) (base:=base) F6 ZZ) b6 (c7 X G a6)
 have T4:=Callee.mk' F7 (WL (P:=l.prog) (w:=w) (base:=base) F7 MV) b7 (c7 X G a7)
 have Uc:=Callee.mk' F8 (abq (P:=l.prog) (w:=w) (base:=base) F8 Sa MV c8) b8 (c7 X G a8)
 have YD:=Callee.mk' F9 (acT (P:=l.prog) (w:=w) (base:=base) F9 kE) b9 (c7 X G a9)
 have Wu:ff l.prog w K mg base aJ "take" 1 ["self","found"] (cB 2 (t7 aJ)):=⟨eK,rS,_,WB (P:=l.prog) (w:=w) (base:=base) LY eK jr kr lH jO,UO,⟨wW,v7,u7⟩⟩
 have Vf:ff l.prog w K mg base aJ "found_in" 4 ["self","turn"] (lq 2 (tR aJ)):=⟨eK,qy,_,abZ (P:=l.prog) (w:=w) (base:=base) MG eK jO nh m9 jr Uc,XS,⟨BH,Bk,sX⟩⟩
 have RS:tu l.prog w K mg base aJ "Finding" 1 ["self","p","n","check_deeds"] (cB 4 (uG aJ)):=⟨rV,_,acv (P:=l.prog) (w:=w) (base:=base) OC eK m9 nh jr kr lH jO kE c8 eB,b29,⟨A7,xW,wR,zw⟩,c7 X G AW⟩
 have ab6:=Callee.mk' Hi (WD (P:=l.prog) (w:=w) (base:=base) Hi eK jr kr Wu Vf RS YD) Wt (c7 X G Uv)
 have U8:=Callee.mk' DQ (Ze (P:=l.prog) (w:=w) (base:=base) DQ EZ) U5 (c7 X G Yq)
 have oE:=Callee.mk' BQ (abc (P:=l.prog) (w:=w) (base:=base) BQ c8) Ud (c7 X G a12)
 have Ro:=Callee.mk' E5 (YA (P:=l.prog) (w:=w) (base:=base) E5 eB) UM (c7 X G Ux)
 have Wf:=Callee.mk' CN (acz (P:=l.prog) (w:=w) (base:=base) CN oE Ro) b14 (c7 X G QO)
 have S7:=Callee.mk' G5 (Yz (P:=l.prog) (w:=w) (base:=base) G5) WS (c7 X G XW)
 have DS:=Callee.mk' DK (Ru (P:=l.prog) (w:=w) (base:=base) DK Ea) b16 (c7 X G UI)
 have O5:=Callee.mk' GF (Sd (P:=l.prog) (w:=w) (base:=base) GF oE) b17 (c7 X G V7)
 have Zp:=Callee.mk' FQ (Yo (P:=l.prog) (w:=w) (base:=base) FQ oE) Ue (c7 X G Ws)
 have aav:=Callee.mk' Dz (abQ (P:=l.prog) (w:=w) (base:=base) Dz oE O5 eB lK m6) RL (c7 X G WI)
 have YT:=Callee.mk' D4 (Vw (P:=l.prog) (w:=w) (base:=base) D4 oE kE eH Gr eB) RA (c7 X G Xq)
 have Xi:=Callee.void (P:=l.prog) (w:=w) (base:=base) (k:=0) (sp:=cK 2 (sf 0)) l7 u9 (c7 X G vj) Xv
 have SW:=Callee.mk' l7 (ya (P:=l.prog) (w:=w) (base:=base) 0 l7 Xi jA eH pM qt c8 oQ lK pL eB) u9 (c7 X G vj)
 have US:=Callee.mk' l7 (ya (P:=l.prog) (w:=w) (base:=base) 1 l7 SW jA eH pM qt c8 oQ lK pL eB) u9 (c7 X G vj)
 have QK:=Callee.mk' l7 (ya (P:=l.prog) (w:=w) (base:=base) 2 l7 US jA eH pM qt c8 oQ lK pL eB) u9 (c7 X G vj)
 have Yy:=Callee.mk' l7 (ya (P:=l.prog) (w:=w) (base:=base) 3 l7 QK jA eH pM qt c8 oQ lK pL eB) u9 (c7 X G vj)
 have Zd:=Yy
 have aa6:=Callee.mk' Ei (VP (P:=l.prog) (w:=w) (base:=base) Ei) b22 (c7 X G Yh)
 have Ua:=Callee.mk' GJ (QM (P:=l.prog) (w:=w) (base:=base) GJ oE Zp YT) b23 (c7 X G V3)
 have Tw:=Callee.mk' Eh (Rp (P:=l.prog) (w:=w) (base:=base) Eh S7 DS eB eH c8) XY (c7 X G W8)
 have aaJ:=Callee.mk' Ca (acj (P:=l.prog) (w:=w) (base:=base) Ca aa6 DS) b25 (c7 X G ZN)
 have Tr:=Callee.mk' Cq (V2 (P:=l.prog) (w:=w) (base:=base) Cq oE Ua DS O5 c8 m6) Sy (c7 X G a26)
 have NS:ff l.prog w K mg base ak "new_number" 1 ["self"] (cB 1 (qJ ak)):=⟨aW,rB,_,Uq (P:=l.prog) (w:=w) (base:=base) Ox aW iP lz,XI,⟨yD,zO,uH⟩⟩
 have UB:ff l.prog w K mg base ak "check" 3 ["self","pairs","rest"] (cB 3 (vC ak)):=⟨aW,su,_,Xo (P:=l.prog) (w:=w) (base:=base) Lo aW gZ fW ju NS Iv Um eH,YL,⟨ze,wc,tO⟩⟩
 have WH:ff l.prog w K mg base ak "letter" 3 ["self","place","letter"] (cB 3 (ug ak)):=⟨aW,qF,_,abI (P:=l.prog) (w:=w) (base:=base) Ob aW ju gZ fO NS Vj Iv,UY,⟨xD,yT,sL⟩⟩
 have Rf:=Callee.mk' Di (Ti (P:=l.prog) (w:=w) (base:=base) Di UB WH eH) WX (c7 X G a27)
 have aaG:ff l.prog w K mg base ak "standing" 1 ["self"] (lq 1 (AD ak)):=⟨aW,qU,_,Vm (P:=l.prog) (w:=w) (base:=base) LD aW fO fW kE eH,Yp,⟨yo,xT,ua⟩⟩
 have K5:ff l.prog w K mg base ak "found" 6 ["self"] (cB 1 (rZ ak)):=⟨aW,sJ,_,aaT (P:=l.prog) (w:=w) (base:=base) Nf aW iP gZ ju fO fW ab6,Rt,⟨wK,Bc,uV⟩⟩
 have Yd:ff l.prog w K mg base ak "fits" 7 ["self","number"] (cB 2 (uo ak)):=⟨aW,qL,_,Sf (P:=l.prog) (w:=w) (base:=base) Lm aW fO fW gZ K5 T4,Xa,⟨zN,zf,tY⟩⟩
 have Yn:ff l.prog w K mg base ak "unlike" 8 ["self"] (tP 1 (Ad ak)):=⟨aW,sI,_,Xm (P:=l.prog) (w:=w) (base:=base) L5 aaG Yd,Vk,⟨yV,zm,sR⟩⟩
 have R3:ff l.prog w K mg base ak "known" 7 ["self"] (cB 1 (sU ak)):=⟨aW,qu,_,Yk (P:=l.prog) (w:=w) (base:=base) Jw K5 eH,YW,⟨Aj,xR,tD⟩⟩
 have T9:ff l.prog w K mg base ak "take_back" 1 ["self","number"] (cB 2 (tS ak)):=⟨aW,qY,_,Xf (P:=l.prog) (w:=w) (base:=base) JY aW iP fO fW,XC,⟨yF,z4,uy⟩⟩
 have QW:tu l.prog w K mg base ak "Desk" 1 ["self","p","n"] (cB 3 (uf ak)):=⟨f32,_,aaS (P:=l.prog) (w:=w) (base:=base) Jm aW gZ ju fO fW lz iP,b32,⟨yi,a32,wF,zR⟩,c7 X G wL⟩
 exact SN Yr Yn R3 T9 QW U8 Wf aav Zd oE Tw Tr aaJ Rf eB c8 m6
end K84
section
open PySem PySem.W PyProof.Rows
set_option maxRecDepth 100000 in
set_option maxHeartbeats 0 in
theorem PySem.Challenge.cw_fewchecks_k84_deeds_that_do_not_fit_holds : PySem.Challenge.rw_fewchecks_k84_deeds_that_do_not_fit.Holds := by
 w_on
 o_law
 k_head
 (case hw=>w_witness2)
 k_fill
 refine K84.walk (l:=PySem.Challenge.rw_fewchecks_k84_deeds_that_do_not_fit) rfl rfl (fun w h Y=>PySem.W.kIn_of Y) ?F
 case F=>
  intro w mg fa h KX G hmg
  refine' K84.all_mk KX G hmg ?AW ?BG ?AM ?vQ ?zC ?A7 ?zw ?wL ?xG ?AR ?By ?Bq ?yi ?zR ?jr ?kr ?m9 ?nh ?lH ?jO ?gZ ?ju ?fO ?fW ?lz ?iP ?d0 ?d1 ?d2 ?d3 ?d4 ?d5 ?d6 ?d7 ?d8 ?d9 ?zh ?yu ?vR ?AJ ?Al ?AA ?zF ?Ar ?wY ?yf ?AX ?zo ?yj ?zk ?yQ ?zg ?vY ?zP ?Bl ?Au ?zE ?vP ?xW ?wR ?wC ?za ?Bo ?wW ?v7 ?xH ?yO ?u7 ?BH ?Bk ?zS ?BE ?sX ?a32 ?wF ?yZ ?yX ?AI ?xD ?yT ?wD ?zY ?sL ?ze ?wc ?yS ?zM ?tO ?yD ?zO ?xU ?AQ ?uH ?yF ?z4 ?Am ?vV ?uy ?wK ?Bc ?zA ?zL ?uV ?Aj ?xR ?wo ?Bb ?tD ?yo ?xT ?A0 ?AE ?ua ?yV ?zm ?Ao ?AL ?sR ?zN ?zf ?xg ?vO ?tY ?yH ?An ?yW ?Ai ?wA ?Bv ?yY ?AK ?xA ?ym ?Ay ?zZ ?xE ?Aq
  (case AW=>k_is)
  (case BG=>k_is)
  (case AM=>k_is)
  (case vQ=>k_is)
  (case zC=>k_is)
  (case A7=>k_is)
  (case zw=>k_is)
  (case wL=>k_is)
  (case xG=>k_is)
  (case AR=>k_is)
  (case By=>k_is)
  (case Bq=>k_is)
  (case yi=>k_is)
  (case zR=>k_is)
  (case jr=>k_is)
  (case kr=>k_is)
  (case m9=>k_is)
  (case nh=>k_is)
  (case lH=>k_is)
  (case jO=>k_is)
  (case gZ=>k_is)
  (case ju=>k_is)
  (case fO=>k_is)
  (case fW=>k_is)
  (case lz=>k_is)
  (case iP=>k_is)
  (case d0=>refine' L2.bu.mk ?qa ?ql ?qc ?qk;(case qa=>k_is);(case ql=>k_is);(case qc=>k_is);(case qk=>k_is))
  (case d1=>refine' L2.bu.mk ?qa ?ql ?qc ?qk;(case qa=>k_is);(case ql=>k_is);(case qc=>k_is);(case qk=>k_is))
  (case d2=>refine' L2.bu.mk ?qa ?ql ?qc ?qk;(case qa=>k_is);(case ql=>k_is);(case qc=>k_is);(case qk=>k_is))
  (case d3=>refine' L2.bu.mk ?qa ?ql ?qc ?qk;(case qa=>k_is);(case ql=>k_is);(case qc=>k_is);(case qk=>k_is))
  (case d4=>refine' L2.bu.mk ?qa ?ql ?qc ?qk;(case qa=>k_is);(case ql=>k_is);(case qc=>k_is);(case qk=>k_is))
  (case d5=>refine' L2.bu.mk ?qa ?ql ?qc ?qk;(case qa=>k_is);(case ql=>k_is);(case qc=>k_is);(case qk=>k_is))
  (case d6=>refine' L2.bu.mk ?qa ?ql ?qc ?qk;(case qa=>k_is);(case ql=>k_is);(case qc=>k_is);(case qk=>k_is))
  (case d7=>refine' L2.bu.mk ?qa ?ql ?qc ?qk;(case qa=>k_is);(case ql=>k_is);(case qc=>k_is);(case qk=>k_is))
  (case d8=>refine' L2.bu.mk ?qa ?ql ?qc ?qk;(case qa=>k_is);(case ql=>k_is);(case qc=>k_is);(case qk=>k_is))
  (case d9=>refine' L2.bu.mk ?qa ?ql ?qc ?qk;(case qa=>k_is);(case ql=>k_is);(case qc=>k_is);(case qk=>k_is))
  (case zh=>refine' L2.bu.mk ?qa ?ql ?qc ?qk;(case qa=>k_is);(case ql=>k_is);(case qc=>k_is);(case qk=>k_is))
  (case yu=>refine' L2.bu.mk ?qa ?ql ?qc ?qk;(case qa=>k_is);(case ql=>k_is);(case qc=>k_is);(case qk=>k_is))
  (case vR=>refine' L2.bu.mk ?qa ?ql ?qc ?qk;(case qa=>k_is);(case ql=>k_is);(case qc=>k_is);(case qk=>k_is))
  (case AJ=>refine' L2.bu.mk ?qa ?ql ?qc ?qk;(case qa=>k_is);(case ql=>k_is);(case qc=>k_is);(case qk=>k_is))
  (case Al=>refine' L2.bu.mk ?qa ?ql ?qc ?qk;(case qa=>k_is);(case ql=>k_is);(case qc=>k_is);(case qk=>k_is))
  (case AA=>refine' L2.bu.mk ?qa ?ql ?qc ?qk;(case qa=>k_is);(case ql=>k_is);(case qc=>k_is);(case qk=>k_is))
  (case zF=>refine' L2.bu.mk ?qa ?ql ?qc ?qk;(case qa=>k_is);(case ql=>k_is);(case qc=>k_is);(case qk=>k_is))
  (case Ar=>refine' L2.bu.mk ?qa ?ql ?qc ?qk;(case qa=>k_is);(case ql=>k_is);(case qc=>k_is);(case qk=>k_is))
  (case wY=>refine' L2.bu.mk ?qa ?ql ?qc ?qk;(case qa=>k_is);(case ql=>k_is);(case qc=>k_is);(case qk=>k_is))
  (case yf=>refine' L2.bu.mk ?qa ?ql ?qc ?qk;(case qa=>k_is);(case ql=>k_is);(case qc=>k_is);(case qk=>k_is))
  (case AX=>refine' L2.bu.mk ?qa ?ql ?qc ?qk;(case qa=>k_is);(case ql=>k_is);(case qc=>k_is);(case qk=>k_is))
  (case zo=>refine' L2.bu.mk ?qa ?ql ?qc ?qk;(case qa=>k_is);(case ql=>k_is);(case qc=>k_is);(case qk=>k_is))
  (case yj=>refine' L2.bu.mk ?qa ?ql ?qc ?qk;(case qa=>k_is);(case ql=>k_is);(case qc=>k_is);(case qk=>k_is))
  (case zk=>refine' L2.bu.mk ?qa ?ql ?qc ?qk;(case qa=>k_is);(case ql=>k_is);(case qc=>k_is);(case qk=>k_is))
  (case yQ=>refine' L2.bu.mk ?qa ?ql ?qc ?qk;(case qa=>k_is);(case ql=>k_is);(case qc=>k_is);(case qk=>k_is))
  (case zg=>refine' L2.bu.mk ?qa ?ql ?qc ?qk;(case qa=>k_is);(case ql=>k_is);(case qc=>k_is);(case qk=>k_is))
  (case vY=>refine' L2.bu.mk ?qa ?ql ?qc ?qk;(case qa=>k_is);(case ql=>k_is);(case qc=>k_is);(case qk=>k_is))
  (case zP=>refine' L2.bu.mk ?qa ?ql ?qc ?qk;(case qa=>k_is);(case ql=>k_is);(case qc=>k_is);(case qk=>k_is))
  (case Bl=>k_is)
  (case Au=>k_is)
  (case zE=>k_is)
  (case vP=>k_is)
  (case xW=>k_is)
  (case wR=>k_is)
  (case wC=>k_is)
  (case za=>k_is)
  (case Bo=>k_is)
  (case wW=>k_is)
  (case v7=>k_is)
  (case xH=>k_is)
  (case yO=>k_is)
  (case u7=>k_is)
  (case BH=>k_is)
  (case Bk=>k_is)
  (case zS=>k_is)
  (case BE=>k_is)
  (case sX=>k_is)
  (case a32=>k_is)
  (case wF=>k_is)
  (case yZ=>k_is)
  (case yX=>k_is)
  (case AI=>k_is)
  (case xD=>k_is)
  (case yT=>k_is)
  (case wD=>k_is)
  (case zY=>k_is)
  (case sL=>k_is)
  (case ze=>k_is)
  (case wc=>k_is)
  (case yS=>k_is)
  (case zM=>k_is)
  (case tO=>k_is)
  (case yD=>k_is)
  (case zO=>k_is)
  (case xU=>k_is)
  (case AQ=>k_is)
  (case uH=>k_is)
  (case yF=>k_is)
  (case z4=>k_is)
  (case Am=>k_is)
  (case vV=>k_is)
  (case uy=>k_is)
  (case wK=>k_is)
  (case Bc=>k_is)
  (case zA=>k_is)
  (case zL=>k_is)
  (case uV=>k_is)
  (case Aj=>k_is)
  (case xR=>k_is)
  (case wo=>k_is)
  (case Bb=>k_is)
  (case tD=>k_is)
  (case yo=>k_is)
  (case xT=>k_is)
  (case A0=>k_is)
  (case AE=>k_is)
  (case ua=>k_is)
  (case yV=>k_is)
  (case zm=>k_is)
  (case Ao=>k_is)
  (case AL=>k_is)
  (case sR=>k_is)
  (case zN=>k_is)
  (case zf=>k_is)
  (case xg=>k_is)
  (case vO=>k_is)
  (case tY=>k_is)
  (case yH=>k_is)
  (case An=>k_is)
  (case yW=>k_is)
  (case Ai=>k_is)
  (case wA=>k_is)
  (case Bv=>k_is)
  (case yY=>k_is)
  (case AK=>k_is)
  (case xA=>k_is)
  (case ym=>k_is)
  (case Ay=>k_is)
  (case zZ=>k_is)
  (case xE=>k_is)
  (case Aq=>k_is)
end
