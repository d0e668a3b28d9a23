import PyProof.Rows.All
import Wide.All
import OpenK.AllK
import Wide.FinOn
import Lean
import PyProof.EqAt
import PyProof.EqKinds
import PyProof.TupleCall
import PySem.Challenge.RW_fewchecks_k47_whole_settled_and_filled
set_option compiler.extract_closed false
set_option Elab.async false
set_option linter.all false
set_option maxRecDepth 100000
namespace L2
open PySem PySem.Spec PyProof.Rows
abbrev Key:=Sum Int Str
def lX:Key->Value->Bool
 | .inl k,v=>Value.isInt k v
 | .inr x,v=>Value.isStrOf x v
def SO(w:World):Key->Int
 | .inl k=>hashInt k
 | .inr x=>hashStr w x
theorem jh:∀{k:Key} {v:Value},lX k v=true->(∃i t,k=Sum.inl i/\v=Value.int i t)\/(∃x t,k=Sum.inr x/\v=Value.str x t)
  | .inl i, v, h => by
    obtain⟨t,e⟩:=Value.isInt_shape (k:=i) (v:=v) h
    exact .inl ⟨i,t,rfl,e⟩
  | .inr x, v, h => by
    obtain⟨t,e⟩:=Value.isStrOf_shape (x:=x) (v:=v) h
    exact .inr ⟨x,t,rfl,e⟩
theorem JM(i:Int)(t:Tok):lX (.inl i) (.int i t)=true:=by simp[lX,Value.isInt]
theorem Ou(x:Str)(t:Tok):lX (.inr x) (.str x t)=true:=by simp[lX,Value.isStrOf]
theorem J3(a b:Int):decide ((Sum.inl a:Key)=Sum.inl b)=(a==b):=by
 by_cases e:a=b
 ·subst e;simp
 ·have h:¬(Sum.inl a:Key)=Sum.inl b:=fun q=>e (Sum.inl.inj q)
  rw[decide_eq_false h]
  exact(beq_eq_false_iff_ne.mpr e).symm
theorem IA(a b:Str):decide ((Sum.inr a:Key)=Sum.inr b)=decide (a=b):=by
 by_cases e:a=b
 ·subst e;simp
 ·have h:¬(Sum.inr a:Key)=Sum.inr b:=fun q=>e (Sum.inr.inj q)
  rw[decide_eq_false h,decide_eq_false e]
theorem NC(a:Int)(b:Str):decide ((Sum.inl a:Key)=Sum.inr b)=false:=decide_eq_false (fun q=>nomatch q)
theorem WA(a:Str)(b:Int):decide ((Sum.inr a:Key)=Sum.inl b)=false:=decide_eq_false (fun q=>nomatch q)
def fq(prog:Program)(w:World):PySem.KeyKind prog w Key where
 is:=lX
 hash:=SO w
 inj:=fun v a b ha hb=>by
  rcases jh ha with ⟨i,t,rfl,rfl⟩|⟨x,t,rfl,rfl⟩
  ·rcases jh hb with ⟨j,u,rfl,e⟩|⟨y,u,rfl,e⟩
   ·injection e with e1 _;rw[e1]
   ·exact nomatch e
  ·rcases jh hb with ⟨j,u,rfl,e⟩|⟨y,u,rfl,e⟩
   ·exact nomatch e
   ·injection e with e1 _;rw[e1]
 byValue:=fun k v h=>by
  rcases jh h with ⟨i,t,rfl,rfl⟩|⟨x,t,rfl,rfl⟩<;>rfl
 pyHash:=fun hv h=>by
  rcases jh hv with ⟨i,t,rfl,rfl⟩|⟨x,t,rfl,rfl⟩
  ·exact wpAny_pyHash_int h
  ·exact wpAny_pyHash_str h
 eqBool:=fun hu hv h=>by
  rcases jh hu with ⟨i,t,rfl,rfl⟩|⟨x,t,rfl,rfl⟩
  ·rcases jh hv with ⟨j,u,rfl,rfl⟩|⟨y,u,rfl,rfl⟩
   ·rw[J3] at h;exact wpAny_eqBool_int h
   ·rw[NC] at h;exact SeqAt.EqAt.int_str i t y u _ _ _ _ h
  ·rcases jh hv with ⟨j,u,rfl,rfl⟩|⟨y,u,rfl,rfl⟩
   ·rw[WA] at h;exact SeqAt.EqAt.str_int x t j u _ _ _ _ h
   ·rw[IA] at h;exact wpAny_eqBool_str h
 «strs» :=fun k x t v h=>by
  rcases jh h with ⟨i,u,rfl,e⟩|⟨y,u,rfl,e⟩
  ·exact nomatch e
  ·injection e with e1 _
   subst e1
   cases v<;>rfl
theorem U1(prog:Program)(w:World)(i:Int)(t:Tok):(fq prog w).is (.inl i) (.int i t)=true:=JM i t
theorem Jz(prog:Program)(w:World)(x:Str)(t:Tok):(fq prog w).is (.inr x) (.str x t)=true:=Ou x t
inductive V where
 |aN|bl (b:Bool)|int (i:Int)|str (x:Str)|gH (b:Array UInt8)|jd (b:UInt64)|ref (a:Addr)|ty (n:String)
 deriving DecidableEq
def RelV:V->Value->Prop
 | .aN,u=>u=Value.none
 | .bl b,u=>u=Value.bool b
 | .int i,u=>∃t,u=Value.int i t
 | .str x,u=>∃t,u=Value.str x t
 | .gH b,u=>∃t,u=Value.bytes b t
 | .jd b,u=>∃t,u=Value.float b t
 | .ref a,u=>u=Value.ref a
 | .ty n,u=>u=Value.type n
abbrev Vals:List V->List Value->Prop:=Paired RelV
theorem Vals.length{xs:List V}{us:List Value}(r:Vals xs us):xs.length=us.length:=Paired.length r
theorem Vals.get:∀{xs:List V} {us:List Value} {i:Nat} {x:V},Vals xs us->xs[i]?=some x->∃u,us[i]?=some u/\RelV x u
  |_,_,_,_, .nil,e=>by simp at e
  |_,_,0,_, .cons r _,e=>by simp at e;subst e;exact⟨_,rfl,r⟩
  | _, _, i + 1, x, .cons _ t, e => by
    obtain⟨u,h1,h2⟩:=Vals.get (i:=i) (x:=x) t (by simpa using e)
    exact⟨u,by simpa using h1,h2⟩
theorem Vals.set{x:V}{u:Value}(r:RelV x u):∀{xs:List V} {us:List Value} (i:Nat),Vals xs us->Vals (xs.set i x) (us.set i u)
 |_,_,_, .nil=> .nil
 |_,_,0, .cons _ t=> .cons r t
 |_,_,i+1, .cons q t=> .cons q (Vals.set r i t)
theorem Vals.append:∀{xs ys:List V} {us ws:List Value},Vals xs us->Vals ys ws->Vals (xs++ys) (us++ws)
 |_,_,_,_, .nil,s=>s
 |_,_,_,_, .cons r t,s=> .cons r (Vals.append t s)
theorem Vals.take:∀{xs:List V} {us:List Value} (n:Nat),Vals xs us->Vals (xs.take n) (us.take n)
 |_,_,0,_=> .nil
 |_,_,_+1, .nil=> .nil
 |_,_,n+1, .cons r t=> .cons r (Vals.take n t)
theorem Vals.drop:∀{xs:List V} {us:List Value} (n:Nat),Vals xs us->Vals (xs.drop n) (us.drop n)
 |_,_,0,r=>r
 |_,_,_+1, .nil=> .nil
 |_,_,n+1, .cons _ t=>Vals.drop n t
def iI:Option V->Option Value->Prop
 |some v,some u=>RelV v u
 |none,none=>True
 |_,_=>False
def KV{κ:Type}:List (κ×V)->List (κ×Value)->Prop:=Paired fun(p:κ×V) (q:κ×Value)=>p.1=q.1/\RelV p.2 q.2
def kV:Key->V
 | .inl i=> .int i
 | .inr x=> .str x
inductive HO where
  |lst (xs:List V)
  |tup (xs:List V)
  |dK (kvs:List (Key×V))|dT (kvs:List (List Key×V))
  |set (S:Int->Bool) (n:Nat)
  |ins (C dx:Addr) (fs:List (Str×V))
  |own (x:Addr)
  |xd (fs:List (Str×V))
  |met (f x:Addr)
  |q9 (lo hi:Int)
  |bF (o:Obj) (u:HO)
  |kD (ps:Array Value)
  |ext (φ:Heap->Prop)
abbrev Hp:=Addr->Option HO
def upd(H:Hp)(a:Addr)(o:HO):Hp:=fun b=>if b=a then some o else H b
theorem bq{H:Hp}{a:Addr}{o:HO}:upd H a o a=some o:=by unfold upd;rw[if_pos rfl]
theorem aF{H:Hp}{a b:Addr}{o:HO}(h:b≠a):upd H a o b=H b:=by unfold upd;rw[if_neg h]
theorem xW{H:Hp}{a:Addr}{o u:HO}:upd (upd H a o) a u=upd H a u:=by
 funext b;unfold upd;split<;>rfl
theorem gn{H:Hp}{a b:Addr}{o:HO}(h:H a=some o)(h':H b=none):a≠b:=by
 intro e;subst e;rw[h] at h';cases h'
section
variable(P:Program)(w:World)
def bW(H:Hp)(h:Heap)(a:Addr):HO->Prop
 | .lst xs=>xs.length<=sizeLine/\∃(its:List Value) (n:Nat),Vals xs its/\h.get? a=some {cls:= .type "list",data:= .seq its.toArray n}
 | .tup xs=>xs.length<=sizeLine/\∃its:List Value,Vals xs its/\IsTup h a its.toArray
 | .dK kvs=>kvs.length<=sizeLine/\(a==sysModules)=false/\∃vs,KV kvs vs/\h.DictOf (fq P w) a vs
 | .dT kvs => kvs.length <= sizeLine /\ (a == sysModules) = false /\ ∃ xs : List (List Key × Addr × Value),
   Paired (fun(p:List Key×V) (q:List Key×Addr×Value)=>p.1=q.1/\H q.2.1=some (.tup (p.1.map kV))/\RelV p.2 q.2.2) kvs xs/\
   ∃o es ep,h.get? a=some o/\o.ExactDict/\o.data= .dict es ep/\es.toList=xs.map (entryOfKey (tupleKind (fq P w)))/\(xs.map (·.1)).Nodup
 | .set S n=>h.SetOf (intKind P w) a S n
 | .ins C dx fs => H dx = some (.own a) /\ fs.length <= 1000 /\ dx ≠ a /\ h.get? a = some (PySem.W.instObj C dx) /\
   ∃mA,h.Ns1 dx mA/\(∀f,iI (fs.lookup f) (mA f))/\PySem.Within mA (fs.map (·.1))
 | .own _=>∃o,h.get? a=some o
 | .xd fs=>∃mA,h.Ns1 a mA/\∀f,iI (fs.lookup f) (mA f)
 | .q9 lo hi=>∃t u v,h.get? a=some {cls:= .type "range",data:= .fields #[.int lo t, .int hi u, .int 1 v]}
 | .bF o u=>h.get? a=some o/\bW H h a u
 | .kD ps=>h.get? a=some {cls:= .none,data:= .fields ps}
 | .met f x=>h.get? a=some (PySem.W.methodObj (.ref f) (.ref x))
 | .ext φ=>φ h/\(∃o,h.get? a=some o)/\∀h1 h2:Heap,φ h1->(∀o,h1.get? a=some o->h2.get? a=some o)->φ h2
def cI(H:Hp)(h:Heap):Prop:=∀a o,H a=some o->bW P w H h a o
end
section
variable{P:Program}{w:World}{H H':Hp}{h h':Heap}{a:Addr}{o:HO}
theorem bW.lt(x:bW P w H h a o):a<h.objs.size:=by
 cases o with
 |lst xs=>obtain⟨_,_,_,_,e⟩:=x;exact Heap.lt_size e
 |tup xs=>obtain⟨_,_,_,p⟩:=x;exact p.lt
 |dK kvs=>obtain⟨_,_,_,_,o,_,_,e,_⟩:=x;exact Heap.lt_size e
 |dT kvs=>obtain⟨_,_,_,_,o,_,_,e,_⟩:=x;exact Heap.lt_size e
 |set S n=>obtain⟨o,_,_,_,e,_⟩:=x;exact Heap.lt_size e
 |ins C dx fs=>obtain⟨_,_,_,e,_⟩:=x;exact Heap.lt_size e
 |own y=>obtain⟨_,e⟩:=x;exact Heap.lt_size e
 |xd fs=>obtain⟨_,⟨_,_,_,e,_⟩,_⟩:=x;exact Heap.lt_size e
 |q9 lo hi=>obtain⟨_,_,_,e⟩:=x;exact Heap.lt_size e
 |bF ob u=>obtain⟨e,_⟩:=x;exact Heap.lt_size e
 |kD ps=>exact Heap.lt_size (show h.get? a=some _ from x)
 |met f y=>exact Heap.lt_size (show h.get? a=some _ from x)
 |ext φ=>obtain⟨_,⟨_,e⟩,_⟩:=x;exact Heap.lt_size e
theorem Paired.FL{α β:Type}{F G:α->β->Prop}:∀{l₁:List α} {l₂:List β},Paired F l₁ l₂->(∀a b,F a b->G a b)->Paired G l₁ l₂
 |_,_, .nil,_=> .nil
 |_,_, .cons r t,f=> .cons (f _ _ r) (Paired.FL t f)
theorem bW.stay(x:bW P w H h a o)(k:∀b u,(b=a\/H b=some (.own a))->h.get? b=some u->h'.get? b=some u)
    (ho:∀b,H b=some (.own a)->H' b=some (.own a)) (ht:∀b xs,H b=some (.tup xs)->H' b=some (.tup xs)):bW P w H' h' a o:=by
  induction o with
  |lst xs=>obtain⟨z,its,n,r,e⟩:=x;exact⟨z,its,n,r,k _ _ (.inl rfl) e⟩
  |tup xs=>obtain⟨z,its,r,ob,e,c⟩:=x;exact⟨z,its,r,ob,k _ _ (.inl rfl) e,c⟩
  |dK kvs=>obtain⟨z,y,vs,r,ob,es,ep,e,c⟩:=x;exact⟨z,y,vs,r,ob,es,ep,k _ _ (.inl rfl) e,c⟩
  | dT kvs =>
    obtain⟨z,y,xs,r,ob,es,ep,e,c⟩:=x
    exact⟨z,y,xs,Paired.FL r fun p q z=>⟨z.1,ht _ _ z.2.1,z.2.2⟩,ob,es,ep,k _ _ (.inl rfl) e,c⟩
  |set S n=>obtain⟨ob,es,ep,t,e,c⟩:=x;exact⟨ob,es,ep,t,k _ _ (.inl rfl) e,c⟩
  | ins C dx fs =>
    obtain⟨d,z,ne,e,mA,⟨od,es,ep,e2,c⟩,r⟩:=x
    exact⟨ho _ d,z,ne,k _ _ (.inl rfl) e,mA,⟨od,es,ep,k _ _ (.inr d) e2,c⟩,r⟩
  |own y=>obtain⟨ob,e⟩:=x;exact⟨ob,k _ _ (.inl rfl) e⟩
  |xd fs=>obtain⟨mA,⟨od,es,ep,e,c⟩,r⟩:=x;exact⟨mA,⟨od,es,ep,k _ _ (.inl rfl) e,c⟩,r⟩
  |q9 lo hi=>obtain⟨t,u,v,e⟩:=x;exact⟨t,u,v,k _ _ (.inl rfl) e⟩
  |bF ob u ih=>obtain⟨e,q⟩:=x;exact⟨k _ _ (.inl rfl) e,ih q⟩
  | kD ps =>
    have e:h.get? a=some {cls:= .none,data:= .fields ps}:=x
    show h'.get? a=some {cls:= .none,data:= .fields ps}
    exact k a _ (.inl rfl) e
  | met f y =>
    have e:h.get? a=some (PySem.W.methodObj (.ref f) (.ref y)):=x
    show h'.get? a=some (PySem.W.methodObj (.ref f) (.ref y))
    exact k a _ (.inl rfl) e
  |ext φ=>obtain⟨p,⟨o,e⟩,st⟩:=x;exact⟨st _ _ p fun o q=>k _ _ (.inl rfl) q,⟨o,k _ _ (.inl rfl) e⟩,st⟩
theorem cI.lt(x:cI P w H h)(e:H a=some o):a<h.objs.size:=(x a o e).lt
theorem cI.fresh(x:cI P w H h)(e:h.objs.size<=a):H a=none:=by
 cases q:H a with
 |none=>rfl
 |some u=>exact absurd (Nat.lt_of_lt_of_le (x.lt q) e) (Nat.lt_irrefl _)
theorem cI.kept(x:cI P w H h)(k:∀b u,h.get? b=some u->h'.get? b=some u):cI P w H h':=fun a o e=>
 (x a o e).stay (fun b u _ q=>k b u q) (fun _ q=>q) fun _ _ q=>q
theorem cI.laid(x:cI P w H h)(k:∀b u,h.get? b=some u->h'.get? b=some u)(hp:h.objs.size<=a)(new:bW P w (upd H a o) h' a o):cI P w (upd H a o) h':=fun b u e=>by
 have hn:=x.fresh hp
 by_cases hb:b=a
 ·subst hb;rw[bq] at e;cases e;exact new
 ·rw[aF hb] at e
  exact(x b u e).stay (fun c v _ q=>k c v q) (fun c q=>by rw[aF (gn q hn)];exact q) fun c xs q=>by rw[aF (gn q hn)];exact q
end
def Rd(H:Hp)(a:Addr)(u:HO):Prop:=H a=some u\/∃o,H a=some (.bF o u)
theorem Rd.ok{P:Program}{w:World}{H:Hp}{h:Heap}{a:Addr}{u:HO}(r:Rd H a u)(x:cI P w H h):bW P w H h a u:=by
 rcases r with r|⟨o,r⟩
 ·exact x a u r
 ·obtain⟨_,q⟩:=x a _ r
  exact q
def pM:Option HO->Prop
 |some (.lst _)=>True
 |some (.dK _)=>True
 |some (.dT _)=>True
 |some (.set _ _)=>True
 |some (.ins _ _ _)=>True
 |some (.ext _)=>True
 |_=>False
section
variable{P:Program}{w:World}{H:Hp}{h h':Heap}{x e:Addr}{o':HO}
theorem cI.write(ok:cI P w H h)(mu:pM (H x))(he:e=x\/H e=some (.own x))(k:∀b u,b≠e->h.get? b=some u->h'.get? b=some u)(lZ:∃u,h'.get? e=some u)
  (new:bW P w (upd H x o') h' x o'):cI P w (upd H x o') h':=fun b u q=>by
 have E4:∀c y,H c=some (.own y)->c≠x:=fun c y r z=>by subst z;rw[r] at mu;exact mu
 have Ux:∀c xs,H c=some (.tup xs)->c≠x:=fun c xs r z=>by subst z;rw[r] at mu;exact mu
 by_cases hb:b=x
 ·subst hb;rw[bq] at q;cases q;exact new
 ·rw[aF hb] at q
  by_cases cS:b=e
  ·have q':H b=some (.own x):=by
    rcases he with z|z
    ·exact absurd (cS.trans z) hb
    ·rw[cS];exact z
   rw[q] at q';cases q'
   obtain⟨v,hv⟩:=lZ
   exact⟨v,by rw[cS];exact hv⟩
  ·refine(ok b u q).stay (fun c v hc r=>k c v ?_ r) (fun c r=>by rw[aF (E4 c b r)];exact r) fun c xs r=>by rw[aF (Ux c xs r)];exact r
   rcases hc with rfl|hc
   ·exact cS
   ·rintro rfl
    rcases he with z|z
    ·exact E4 c b hc z
    ·rw[hc] at z;cases z;exact hb rfl
end
structure Un(fs ex:List Addr)(H H':Hp)(h h':Heap):Prop where
 keep:∀b o,h.get? b=some o->H b=none->b∉fs->b∉ex->h'.get? b=some o
 slot:∀b o,h.get? b=some o->H b=none->b∈fs->b∉ex->∃sl,h'.get? b=some {o with slots:=sl}
 free:∀b o,h.get? b=some o->H b=none->b∉ex->H' b=none
 there:∀b o,h.get? b=some o->b∉ex->∃o',h'.get? b=some o'
 tups:∀b xs,H b=some (.tup xs)->H' b=some (.tup xs)
 iu:∀b o u,H b=some (.bF o u)->H' b=some (.bF o u)
 jt:∀b ps,H b=some (.kD ps)->∃more,H' b=some (.kD (ps++more))
section
variable{fs fs' ex ex':List Addr}{H H1 H2:Hp}{h h1 h2 h':Heap}{a x e:Addr}{o:HO}
theorem Un.any(u:Un fs ex H H1 h h1){b:Addr}{ob:Obj}(q:h.get? b=some ob)(n:H b=none)(hx:b∉ex):∃sl,h1.get? b=some {ob with slots:=sl}:=by
 by_cases hb:b∈fs
 ·exact u.slot b ob q n hb hx
 ·exact⟨ob.slots,u.keep b ob q n hb hx⟩
theorem Un.kept(k:∀b u,h.get? b=some u->h'.get? b=some u):Un fs ex H H h h':=
 ⟨fun b ob q _ _ _=>k b ob q,fun b ob q _ _ _=>⟨ob.slots,k b ob q⟩,fun _ _ _ n _=>n,fun b ob q _=>⟨ob,k b ob q⟩,fun _ _ q=>q,fun _ _ _ q=>q,fun _ ps q=>⟨#[],by rw[q];simp⟩⟩
theorem Un.refl:Un fs ex H H h h:=Un.kept fun _ _ q=>q
theorem Un.laid(k:∀b u,h.get? b=some u->h'.get? b=some u)(hp:h.objs.size<=a)(hn:H a=none):Un fs ex H (upd H a o) h h' where
 keep:=fun b u q _ _ _=>k b u q
 slot:=fun b u q _ _ _=>⟨u.slots,k b u q⟩
 free:=fun b u q n _=>by rw[aF (Nat.ne_of_lt (Nat.lt_of_lt_of_le (Heap.lt_size q) hp))];exact n
 there:=fun b u q _=>⟨u,k b u q⟩
 tups:=fun b xs q=>by rw[aF (gn q hn)];exact q
 iu:=fun b u xs q=>by rw[aF (gn q hn)];exact q
 jt:=fun b ps q=>⟨#[],by rw[aF (gn q hn),q];simp⟩
theorem Un.write(mu:pM (H x))(he:e=x\/H e=some (.own x))(k:∀b u,b≠e->h.get? b=some u->h'.get? b=some u)(lZ:∃u,h'.get? e=some u):Un fs ex H (upd H x o) h h':=by
 have hx:∀b,H b=none->b≠x:=fun b n z=>by subst z;rw[n] at mu;exact mu
 have hb:∀b,H b=none->b≠e:=fun b n z=>by
  subst z
  rcases he with r|r
  ·exact hx b n r
  ·rw[n] at r;cases r
 have hm:∀b u,H b=some u->¬pM (some u)->b≠x:=fun b u q nm z=>by subst z;rw[q] at mu;exact nm mu
 refine⟨fun b u q n _ _=>k b u (hb b n) q,fun b u q n _ _=>⟨u.slots,k b u (hb b n) q⟩,fun b u q n _=>by rw[aF (hx b n)];exact n,fun b u q _=>?_,
  fun b xs q=>by rw[aF (hm b _ q fun z=>z)];exact q,fun b u xs q=>by rw[aF (hm b _ q fun z=>z)];exact q,fun b ps q=>⟨#[],by rw[aF (hm b _ q fun z=>z),q];simp⟩⟩
 by_cases cS:b=e
 ·subst cS;exact lZ
 ·exact⟨u,k b u cS q⟩
end
def pT(h:Heap)(H:Hp):List Addr:=(List.range h.objs.size).filter fun a=>(H a).isSome
def jx(h:Heap)(H:Hp):Heap:=PySem.W.hideAll h (pT h H)
theorem Le(h:Heap)(H:Hp):(jx h H).objs.size=h.objs.size:=PySem.W.hideAll_size _ _
theorem MH{h:Heap}{H:Hp}{b:Addr}{o:Obj}(e:h.get? b=some o)(n:H b=none):(jx h H).get? b=some o:=
 PySem.W.hideAll_get _ e fun hm=>by
  have q:(H b).isSome=true:=(List.mem_filter.mp hm).2
  rw[n] at q;simp at q
theorem QT{h:Heap}{H:Hp}{b:Addr}{o:Obj}(e:(jx h H).get? b=some o):h.get? b=some o/\H b=none:=by
  have e':h.get? b=some o:=PySem.W.of_hideAll (pT h H) e
  refine⟨e',?_⟩
  cases q:H b with
  |none=>rfl
  | some x =>
    have hm:b∈pT h H:=List.mem_filter.mpr ⟨List.mem_range.mpr (Heap.lt_size e'),by simp[q]⟩
    have z:(jx h H).get? b=none:=PySem.W.hideAll_none (pT h H) hm
    rw[z] at e;cases e
def Of(g h:Heap)(L:Addr):List (Addr×Obj):=(List.range h.objs.size).filterMap fun a=>if a=L\/(g.get? a).isSome=true then none else(h.get? a).map fun o=>(a,o)
def rest(g h:Heap)(L d:Addr):List (Addr×Obj):=(Of g h L).filter fun p=>decide (p.1≠d)
structure Mod(K:PySem.W.Frag)(mg:Str->Option Value)(base:Heap):Prop where
 yq:K.In base
 glob:base.Ns mainGlobals mg
 blt:∃mb,base.Ns builtinsNs mb/\∀x:Str,x≠"__name__" ->mb x=bootBuiltins x
 nolimit:base.NoLimit
structure Cx where
 prog:Program
 w:World
 K:PySem.W.Frag
 mg:Str->Option Value
 base:Heap
 A:Around
 N:List Str
 s₀:Shared
 H₀:Hp
 env:Env
 outer:List Env
 stack:List Env
 ex:List Addr
 fn:Str->Bool
 calm:Bool
 pn:List (Addr×Obj)
 xe:Value->Shared->Prop
def frs(l:List Env):List Addr:=l.filterMap (·.frame)
abbrev Cx.fs(X:Cx):List Addr:=frs X.outer
def wL(sc:Scope)(x:Str):Prop:=sc.names.lookup x=some .local\/sc.names.lookup x=some .cell\/sc.names.lookup x=some .free
def Loc(sc:Scope)(x:Str):Prop:=sc.names.lookup x=some .local\/sc.names.lookup x=some .cell
def Look(env:Env)(h:Heap)(m:Str->Option Value)(x:Str)(u:Value):Prop:=
 (env.kindOf x=some .local/\m x=some u)\/((env.kindOf x=some .cell\/env.kindOf x=some .free)/\∃c,env.cells.lookup x=some c/\h.IsCell c (some u))
structure Cx.Ok(X:Cx):Prop where
 mod:Mod X.K X.mg X.base
 kind:X.env.scope.kind= .function
 glob:X.env.globals=mainGlobals
 blt:X.env.builtins=builtinsNs
 above:X.s₀.heap.objs.size<=X.env.locals
 inj:∀x y c,X.env.cells.lookup x=some c->X.env.cells.lookup y=some c->x=y
 has:∀x,(X.env.kindOf x=some .cell\/X.env.kindOf x=some .free)->∃c,X.env.cells.lookup x=some c
 ow:∀x c,X.fn x=true->X.env.cells.lookup x=some c->X.s₀.heap.objs.size<=c
 hd:X.calm=true->X.A.handled=none
 frames:X.A.frames=some X.stack
 stk:X.stack=X.outer\/(X.stack=X.env::X.outer/\X.env.frame=some X.env.locals)
 rS:∀b∈X.ex,b≠X.env.locals/\∀x c,X.env.cells.lookup x=some c->c≠b
 bs:∀b o,X.base.get? b=some o->X.s₀.heap.get? b=some o/\X.H₀ b=none
 ko:X.base.objs.size<=X.s₀.heap.objs.size
 nP:∀b o,X.base.get? b=some o->b∉X.ex
 pP:∀b∈X.ex,b∉X.fs
 iC:X.s₀.heap.FunFrames X.base X.outer
 mS:∀b∈X.fs,X.H₀ b=none
structure Inv(X:Cx)(pins:List (Addr×Obj))(σ:List (Option V))(H:Hp)(s:Shared):Prop where
 ok:X.Ok
 os:s.os=X.s₀.os
 bare:AllBare s.gens
 base:Un X.fs X.ex X.H₀ H X.s₀.heap s.heap
 loc:∃m,s.heap.Ns X.env.locals m/\∀(i:Nat) (x:Str) (v:V),X.N[i]?=some x->σ[i]?=some (some v)->wL X.env.scope x->∃u,RelV v u/\Look X.env s.heap m x u
 cell:∀x c,X.env.cells.lookup x=some c->∃v,s.heap.IsCell c v
 free:H X.env.locals=none
 gF:∀x c,X.env.cells.lookup x=some c->H c=none
 pin:∀p∈X.pn++pins,s.heap.get? p.1=some p.2/\H p.1=none/\p.1≠X.env.locals/\p.1∉X.fs/\∀v,p.2.data≠ .cell v
 hok:cI X.prog X.w H s.heap
 len:σ.length=X.N.length
section
variable{X:Cx}{pins:List (Addr×Obj)}{σ:List (Option V)}{H H':Hp}{s:Shared}{h':Heap}
theorem Cx.Ok.U7(ok:X.Ok){b:Addr}{o:Obj}(e:X.base.get? b=some o):b∉X.fs:=fun hb=>by
 have:=(ok.iC.mem hb).1
 rw[e] at this;cases this
theorem Inv.bs(I:Inv X pins σ H s):∀b o,X.base.get? b=some o->s.heap.get? b=some o/\H b=none:=fun b o e=>
 ⟨I.base.keep b o (I.ok.bs b o e).1 (I.ok.bs b o e).2 (I.ok.U7 e) (I.ok.nP b o e),I.base.free b o (I.ok.bs b o e).1 (I.ok.bs b o e).2 (I.ok.nP b o e)⟩
theorem Inv.bk(I:Inv X pins σ H s):∀b o,X.base.get? b=some o->s.heap.get? b=some o:=fun b o e=>(I.bs b o e).1
theorem Inv.mod(I:Inv X pins σ H s):Mod X.K X.mg X.base:=I.ok.mod
theorem Inv.eZ(I:Inv X pins σ H s):X.K.In s.heap:=I.ok.mod.yq.keeps I.bk
theorem Inv.lt(I:Inv X pins σ H s):X.env.locals<s.heap.objs.size:=let ⟨_,hn,_⟩:=I.loc;hn.lt
theorem Inv.sz(I:Inv X pins σ H s):X.s₀.heap.objs.size<=s.heap.objs.size:=Nat.le_trans I.ok.above (Nat.le_of_lt I.lt)
theorem Inv.HG(I:Inv X pins σ H s){a:Addr}(h:s.heap.objs.size<=a):a∉X.fs:=fun hb=>by
 obtain⟨_,o,ho,_⟩:=I.ok.iC.mem hb
 exact absurd (Nat.lt_of_lt_of_le (Heap.lt_size ho) (Nat.le_trans I.sz h)) (Nat.lt_irrefl _)
theorem Inv.kI(I:Inv X pins σ H s):∀x c,X.env.cells.lookup x=some c->c≠X.env.locals:=fun x c e z=>by
 obtain⟨v,o,ho,hd⟩:=I.cell x c e
 obtain⟨m,⟨o',es,ep,ho',hd',_⟩,_⟩:=I.loc
 rw[z,ho'] at ho;cases ho;rw[hd'] at hd;cases hd
theorem Inv.iC(I:Inv X pins σ H s):s.heap.FunFrames X.base X.outer:=by
  have all:∀(l:List Env),(∀b∈frs l,b∈X.fs)->X.s₀.heap.FunFrames X.base l->s.heap.FunFrames X.base l:=by
    intro l
    induction l with
    |nil=>intro _ _;trivial
    | cons env r ih =>
      intro hs hl
      obtain⟨hk,⟨L,o,hf,hn,ho,hd⟩,hr⟩:=hl
      have hL:L∈X.fs:=hs L (by unfold frs;rw[List.filterMap_cons,hf];exact List.mem_cons_self)
      obtain⟨sl,e⟩:=I.base.slot L o ho (I.ok.mS L hL) hL fun z=>I.ok.pP L z hL
      exact⟨hk,⟨L,_,hf,hn,e,hd⟩,ih (fun b hb=>hs b (by unfold frs;rw[List.filterMap_cons,hf];exact List.mem_cons_of_mem _ hb)) hr⟩
  exact all X.outer (fun _ hb=>hb) I.ok.iC
theorem Inv.stack(I:Inv X pins σ H s):s.heap.FunFrames X.base X.stack:=by
 rcases I.ok.stk with e|⟨e,hf⟩
 ·rw[e];exact I.iC
 ·rw[e]
  obtain⟨m,hn,_⟩:=I.loc
  refine .cons (by rw[I.ok.kind];decide) hf hn ?_ I.iC
  exact Heap.get?_none_of_le (Nat.le_trans I.ok.ko I.ok.above)
theorem Inv.An(I:Inv X pins σ H s):∀b∈frs X.stack,b∈X.env.locals::X.fs:=fun b hb=>by
 rcases I.ok.stk with e|⟨e,hf⟩
 ·rw[e] at hb;exact List.mem_cons_of_mem _ hb
 ·rw[e] at hb
  unfold frs at hb
  rw[List.filterMap_cons,hf] at hb
  exact hb
theorem Inv.ER(I:Inv X pins σ H s):∀b∈frs X.stack,H b=none:=fun b hb=>by
 rcases List.mem_cons.mp (I.An b hb) with e|hb
 ·rw[e];exact I.free
 ·obtain⟨_,o,ho,_⟩:=I.ok.iC.mem hb
  exact I.base.free b o ho (I.ok.mS b hb) fun z=>I.ok.pP b z hb
theorem Inv.step{g':Array GenState}{t':Nat}{d':Drawn}{ch:List Addr}(I:Inv X pins σ H s)
  (hch:∀b∈ch,(b∈X.ex\/X.s₀.heap.objs.size<=b)/\b≠X.env.locals/\(∀x c,X.env.cells.lookup x=some c->c≠b)/\∀p∈X.pn++pins,p.1≠b)
  (keep:∀b o,b≠X.env.locals->b∉X.fs->b∉ch->s.heap.get? b=some o->H b=none->h'.get? b=some o)
  (slot:∀b o,b≠X.env.locals->b∈X.fs->b∉ch->s.heap.get? b=some o->H b=none->∃sl,h'.get? b=some {o with slots:=sl}) (free:∀b o,b∉ch->s.heap.get? b=some o->H b=none->H' b=none)
  (there:∀b o,b∉ch->s.heap.get? b=some o->∃o',h'.get? b=some o')
  (tups:∀b xs,H b=some (.tup xs)->H' b=some (.tup xs)) (iu:∀b o u,H b=some (.bF o u)->H' b=some (.bF o u)) (jt:∀b ps,H b=some (.kD ps)->∃more,H' b=some (.kD (ps++more)))
  (ns:∀m,s.heap.Ns X.env.locals m->h'.Ns X.env.locals m) (hok:cI X.prog X.w H' h') (hg:AllBare g'):
  Inv X pins σ H' {s with heap:=h',gens:=g',drawn:=d',toks:=t'}:=by
 have Ds:∀b o,X.s₀.heap.get? b=some o->b≠X.env.locals:=fun b o e=>Nat.ne_of_lt (Nat.lt_of_lt_of_le (Heap.lt_size e) I.ok.above)
 have rW:∀b o,X.s₀.heap.get? b=some o->b∉X.ex->b∉ch:=fun b o e hx hb=>by
  rcases(hch b hb).1 with z|z
  ·exact hx z
  ·exact absurd (Nat.lt_of_lt_of_le (Heap.lt_size e) z) (Nat.lt_irrefl _)
 have cellK:∀x c,X.env.cells.lookup x=some c->∀v,s.heap.IsCell c v->h'.IsCell c v:=fun x c e v ⟨o,ho,hd⟩=>by
  have o7:c∉ch:=fun z=>(hch c z).2.2.1 x c e rfl
  by_cases hc:c∈X.fs
  ·obtain⟨sl,q⟩:=slot c o (I.kI x c e) hc o7 ho (I.gF x c e)
   exact⟨_,q,hd⟩
  ·exact⟨o,keep c o (I.kI x c e) hc o7 ho (I.gF x c e),hd⟩
 refine⟨I.ok,I.os,hg,⟨fun b o e n hb hx=>?_,fun b o e n hb hx=>?_,fun b o e n hx=>?_,fun b o e hx=>?_,fun b xs e=>tups b xs (I.base.tups b xs e),fun b o xs e=>iu b o xs (I.base.iu b o xs e),fun b ps e=>?_⟩,?_,fun x c e=>?_,?_,fun x c e=>?_,fun p hp=>?_,hok,I.len⟩
 ·exact keep b o (Ds b o e) hb (rW b o e hx) (I.base.keep b o e n hb hx) (I.base.free b o e n hx)
 ·obtain⟨sl,e1⟩:=I.base.slot b o e n hb hx
  obtain⟨Sb,e2⟩:=slot b _ (Ds b o e) hb (rW b o e hx) e1 (I.base.free b o e n hx)
  exact⟨Sb,e2⟩
 ·obtain⟨o',e1⟩:=I.base.there b o e hx
  exact free b o' (rW b o e hx) e1 (I.base.free b o e n hx)
 ·obtain⟨o',e1⟩:=I.base.there b o e hx
  exact there b o' (rW b o e hx) e1
 ·obtain⟨m1,e1⟩:=I.base.jt b ps e
  obtain⟨m2,e2⟩:=jt b _ e1
  exact⟨m1++m2,by rw[e2,Array.append_assoc]⟩
 ·obtain⟨m,hn,hl⟩:=I.loc
  refine⟨m,ns m hn,fun i x v e1 e2 e3=>?_⟩
  obtain⟨u,r,l⟩:=hl i x v e1 e2 e3
  refine⟨u,r,?_⟩
  rcases l with l|⟨k,c,e,z⟩
  ·exact .inl l
  ·exact .inr ⟨k,c,e,cellK x c e _ z⟩
 ·obtain⟨v,z⟩:=I.cell x c e
  exact⟨v,cellK x c e v z⟩
 ·obtain⟨m,⟨o,_,_,ho,_⟩,_⟩:=I.loc
  exact free _ o (fun z=>(hch _ z).2.1 rfl) ho I.free
 ·obtain⟨v,o,ho,hd⟩:=I.cell x c e
  exact free c o (fun z=>(hch c z).2.2.1 x c e rfl) ho (I.gF x c e)
 ·obtain⟨e,n,ne,nf,d⟩:=I.pin p hp
  have o7:p.1∉ch:=fun z=>(hch p.1 z).2.2.2 p hp rfl
  exact⟨keep p.1 p.2 ne nf o7 e n,free p.1 p.2 o7 e n,ne,nf,d⟩
theorem Inv.un{t':Nat}(I:Inv X pins σ H s)(u:Un X.fs [] H H' s.heap h')(hok:cI X.prog X.w H' h'):Inv X pins σ H' {s with heap:=h',toks:=t'}:=by
 obtain⟨m,⟨o,es,ep,ho,r⟩,_⟩:=id I.loc
 obtain⟨sl,hL⟩:=u.any ho I.free (by simp)
 exact I.step (g':=s.gens) (d':=s.drawn) (ch:=[]) (fun _ z=>nomatch z) (fun b o _ hb _ e n=>u.keep b o e n hb (by simp)) (fun b o _ hb _ e n=>u.slot b o e n hb (by simp)) (fun b o _ e n=>u.free b o e n (by simp)) (fun b o _ e=>u.there b o e (by simp)) u.tups u.iu u.jt (fun m' hm=>by
  obtain⟨o',es',qw,ho',r'⟩:=hm
  rw[ho] at ho';cases ho'
  exact⟨_,es',qw,hL,r'⟩) hok I.bare
theorem Inv.call{g':Array GenState}{t':Nat}{d':Drawn}{ch:List Addr}(I:Inv X pins σ H s)(u:Un (frs X.stack) ch H H' s.heap h')(hok:cI X.prog X.w H' h')(hg:AllBare g')
  (hch:∀b∈ch,(b∈X.ex\/X.s₀.heap.objs.size<=b)/\b≠X.env.locals/\(∀x c,X.env.cells.lookup x=some c->c≠b)/\∀p∈X.pn++pins,p.1≠b):
  Inv X pins σ H' {s with heap:=h',gens:=g',drawn:=d',toks:=t'}:=by
 obtain⟨m,⟨o,es,ep,ho,r⟩,_⟩:=id I.loc
 obtain⟨sl,hL⟩:=u.any ho I.free fun z=>(hch _ z).2.1 rfl
 exact I.step (ch:=ch) hch (fun b o hL hb hc e n=>u.keep b o e n (fun z=>(List.mem_cons.mp (I.An b z)).elim hL hb) hc) (fun b o _ _ hc e n=>u.any e n hc) (fun b o hc e n=>u.free b o e n hc) (fun b o hc e=>u.there b o e hc) u.tups u.iu u.jt (fun m' hm=>by
  obtain⟨o',es',qw,ho',r'⟩:=hm
  rw[ho] at ho';cases ho'
  exact⟨_,es',qw,hL,r'⟩) hok hg
theorem Inv.turned{t':Nat}{it:Addr}(I:Inv X pins σ H s)(k:∀b o,b≠it->s.heap.get? b=some o->h'.get? b=some o)(hn:H it=none)(hL:it≠X.env.locals)
  (h1:it∈X.ex\/X.s₀.heap.objs.size<=it) (h2:∀x c,X.env.cells.lookup x=some c->c≠it) (h3:∀p∈X.pn++pins,p.1≠it):Inv X pins σ H {s with heap:=h',toks:=t'}:=by
 have AO:∀b u,H b=some u->b≠it:=fun b u e z=>by rw[z,hn] at e;cases e
 refine I.step (g':=s.gens) (d':=s.drawn) (ch:=[it]) (fun b hb=>?_) (fun b o _ _ hc e _=>k b o (fun z=>hc (by simp[z])) e) (fun b o _ _ hc e _=>⟨o.slots,k b o (fun z=>hc (by simp[z])) e⟩) (fun _ _ _ _ n=>n)
  (fun b o hc e=>⟨o,k b o (fun z=>hc (by simp[z])) e⟩) (fun _ _ e=>e) (fun _ _ _ e=>e) (fun b ps e=>⟨#[],by rw[e];simp⟩) (fun m hm=>?_) (fun b u e=>?_) I.bare
 ·have e:b=it:=by simpa using hb
  subst e
  exact⟨h1,hL,h2,h3⟩
 ·obtain⟨o,es,ep,ho,r⟩:=hm
  exact⟨o,es,ep,k _ o (Ne.symm hL) ho,r⟩
 ·refine(I.hok b u e).stay (fun c v hc q=>k c v ?_ q) (fun _ q=>q) fun _ _ q=>q
  rcases hc with z|z
  ·rw[z];exact AO b u e
  ·exact AO c _ z
theorem Inv.tok(I:Inv X pins σ H s)(t:Nat):Inv X pins σ H {s with toks:=t}:=I.un (h':=s.heap) (t':=t) Un.refl I.hok
theorem Inv.kept{t':Nat}(I:Inv X pins σ H s)(k:∀b u,s.heap.get? b=some u->h'.get? b=some u):Inv X pins σ H {s with heap:=h',toks:=t'}:=I.un (Un.kept k) (I.hok.kept k)
theorem Inv.laid{a:Addr}{o:HO}{t':Nat}(I:Inv X pins σ H s)(k:∀b u,s.heap.get? b=some u->h'.get? b=some u)(hp:s.heap.objs.size<=a)(new:bW X.prog X.w (upd H a o) h' a o):
  Inv X pins σ (upd H a o) {s with heap:=h',toks:=t'}:=I.un (Un.laid k hp (I.hok.fresh hp)) (I.hok.laid k hp new)
theorem Inv.write{x e:Addr}{o:HO}{t':Nat}(I:Inv X pins σ H s)(mu:pM (H x))(he:e=x\/H e=some (.own x))(k:∀b u,b≠e->s.heap.get? b=some u->h'.get? b=some u)(lZ:∃u,h'.get? e=some u)
  (new:bW X.prog X.w (upd H x o) h' x o):Inv X pins σ (upd H x o) {s with heap:=h',toks:=t'}:=I.un (Un.write mu he k lZ) (I.hok.write mu he k lZ new)
theorem Inv.Dr{DA:List (Addr×Obj)}(I:Inv X pins σ H s)(h:∀p∈DA,s.heap.get? p.1=some p.2/\H p.1=none/\p.1≠X.env.locals/\p.1∉X.fs/\∀v,p.2.data≠ .cell v):Inv X DA σ H s:=
 ⟨I.ok,I.os,I.bare,I.base,I.loc,I.cell,I.free,I.gF,fun p hp=>(List.mem_append.mp hp).elim (fun z=>I.pin p (List.mem_append_left _ z)) (h p),I.hok,I.len⟩
theorem Cb{N:List Str}(hN:N.Nodup){i j:Nat}{x:Str}(a:N[i]?=some x)(b:N[j]?=some x):i=j:=by
 obtain⟨h1,e1⟩:=List.getElem?_eq_some_iff.mp a
 obtain⟨h2,e2⟩:=List.getElem?_eq_some_iff.mp b
 exact(List.getElem_inj hN).mp (e1.trans e2.symm)
theorem Dh{M:Model}{A:Around}{E:Value->Shared->Prop}{i:Nat}{x:Str}{v:V}{u:Value}{Q:Unit->Shared->Prop}(I:Inv X pins σ H s)(hN:X.N.Nodup)(hi:X.N[i]?=some x)(hx:Loc X.env.scope x)(r:RelV v u)
  (h:∀s',Inv X pins (σ.set i (some v)) H s'->(∃a,Heap.SameBut a s.heap s'.heap/\(a=X.env.locals\/X.env.cells.lookup x=some a))->Q () s') (hf:X.fn x=true\/X.env.scope.names.lookup x=some .local:=by first|exact .inl rfl|exact .inr rfl|assumption):wpAny M A (storeName X.env x u) Q E s:=by
 obtain⟨m,hn,hl⟩:=id I.loc
 have hcls:(X.env.scope.kind== .class||(X.env.scope.kind== .module && X.env.locals !=X.env.globals))=false:=by rw[I.ok.kind];rfl
 have Ay:i<σ.length:=by rw[I.len];exact(List.getElem?_eq_some_iff.mp hi).1
 have kI:=I.kI
 have tracked:∀{a:Addr} {h':Heap},(∃o,s.heap.get? a=some o/\H a=none)->Heap.SameBut a s.heap h'->cI X.prog X.w H h':=fun{a h'} ha hs b ob e=>by
  obtain⟨_,_,hfree⟩:=ha
  refine(I.hok b ob e).stay (fun c w' hc q=>(hs.2 c ?_).trans q) (fun _ q=>q) fun _ _ q=>q
  rintro rfl
  rcases hc with rfl|hc
  ·rw[hfree] at e;cases e
  ·rw[hfree] at hc;cases hc
 rcases hx with hk|hk
 ·refine wpAny_storeName_local hk hn (fun h' hn' hs=>?_) hcls
  obtain⟨oL,_,_,JT,_⟩:=id hn
  refine h _ ⟨I.ok,I.os,I.bare,⟨fun b o e n hb hx=>?_,fun b o e n hb hx=>?_,I.base.free,fun b o e hx=>?_,I.base.tups,I.base.iu,I.base.jt⟩,⟨_,hn',fun j y v' e1 e2 e3=>?_⟩,fun y c e=>?_,I.free,I.gF,fun p hp=>?_,tracked ⟨oL,JT,I.free⟩ hs,by simpa using I.len⟩ ⟨_,hs, .inl rfl⟩
  ·exact(hs.2 b (Nat.ne_of_lt (Nat.lt_of_lt_of_le (Heap.lt_size e) I.ok.above))).trans (I.base.keep b o e n hb hx)
  ·obtain⟨sl,e1⟩:=I.base.slot b o e n hb hx
   exact⟨sl,(hs.2 b (Nat.ne_of_lt (Nat.lt_of_lt_of_le (Heap.lt_size e) I.ok.above))).trans e1⟩
  ·obtain⟨o',e1⟩:=I.base.there b o e hx
   exact⟨o',(hs.2 b (Nat.ne_of_lt (Nat.lt_of_lt_of_le (Heap.lt_size e) I.ok.above))).trans e1⟩
  ·by_cases hj:j=i
   ·subst hj
    rw[hi] at e1;cases e1
    rw[List.getElem?_set_self Ay] at e2
    cases e2
    exact⟨u,r, .inl ⟨hk,by simp⟩⟩
   ·rw[List.getElem?_set_ne (Ne.symm hj)] at e2
    obtain⟨u',r',q⟩:=hl j y v' e1 e2 e3
    refine⟨u',r',?_⟩
    rcases q with ⟨k,e⟩|⟨k,c,e,z⟩
    ·refine .inl ⟨k,?_⟩
     have:y≠x:=fun e=>hj (Cb hN e1 (e▸hi))
     simp[this,e]
    ·exact .inr ⟨k,c,e,z.sameBut hs (kI y c e)⟩
  ·obtain⟨w',z⟩:=I.cell y c e
   exact⟨w',z.sameBut hs (kI y c e)⟩
  ·obtain⟨e,n,ne,nf,d⟩:=I.pin p hp
   exact⟨(hs.2 p.1 ne).trans e,n,ne,nf,d⟩
 ·have hfn:X.fn x=true:=by
   rcases hf with z|z
   ·exact z
   ·rw[z] at hk;cases hk
  obtain⟨c,hc⟩:=I.ok.has x (.inl hk)
  obtain⟨w',z⟩:=I.cell x c hc
  refine wpAny_storeName_cell I.ok.kind hk hc z (fun h' hc' hs=>?_)
  obtain⟨oc,hoc,RH⟩:=id z
  refine h {s with heap:=h'} ⟨I.ok,I.os,I.bare,⟨fun b o e n hb hx=>?_,fun b o e n hb hx=>?_,I.base.free,fun b o e hx=>?_,I.base.tups,I.base.iu,I.base.jt⟩,⟨m,hn.sameBut hs (Ne.symm (kI x c hc)),fun j y v' e1 e2 e3=>?_⟩,fun y c' e=>?_,I.free,I.gF,fun p hp=>?_,tracked ⟨oc,hoc,I.gF x c hc⟩ hs,by simpa using I.len⟩ ⟨c,hs, .inr hc⟩
  ·exact(hs.2 b (Nat.ne_of_lt (Nat.lt_of_lt_of_le (Heap.lt_size e) (I.ok.ow x c hfn hc)))).trans (I.base.keep b o e n hb hx)
  ·obtain⟨sl,e1⟩:=I.base.slot b o e n hb hx
   exact⟨sl,(hs.2 b (Nat.ne_of_lt (Nat.lt_of_lt_of_le (Heap.lt_size e) (I.ok.ow x c hfn hc)))).trans e1⟩
  ·obtain⟨o',e1⟩:=I.base.there b o e hx
   exact⟨o',(hs.2 b (Nat.ne_of_lt (Nat.lt_of_lt_of_le (Heap.lt_size e) (I.ok.ow x c hfn hc)))).trans e1⟩
  ·by_cases hj:j=i
   ·subst hj
    rw[hi] at e1;cases e1
    rw[List.getElem?_set_self Ay] at e2
    cases e2
    exact⟨u,r, .inr ⟨.inl hk,c,hc,hc'⟩⟩
   ·rw[List.getElem?_set_ne (Ne.symm hj)] at e2
    obtain⟨u',r',q⟩:=hl j y v' e1 e2 e3
    refine⟨u',r',?_⟩
    rcases q with q|⟨k,c',e,z'⟩
    ·exact .inl q
    ·refine .inr ⟨k,c',e,z'.sameBut hs ?_⟩
     rintro rfl
     exact hj (Cb hN e1 (I.ok.inj _ _ _ e hc▸hi))
  ·by_cases hcc:c'=c
   ·subst hcc;exact⟨_,hc'⟩
   ·obtain⟨w2,z2⟩:=I.cell y c' e
    exact⟨w2,z2.sameBut hs hcc⟩
  ·obtain⟨e,n,ne,nf,d⟩:=I.pin p hp
   refine⟨(hs.2 p.1 ?_).trans e,n,ne,nf,d⟩
   intro q
   rw[q,hoc] at e
   have q':oc=p.2:=Option.some.inj e
   exact d w' (by rw[<-q'];exact RH)
theorem Bl{M:Model}{A:Around}{E:Value->Shared->Prop}{i:Nat}{x:Str}{v:V}{u:Value}{Q:Unit->Shared->Prop}(I:Inv X pins σ H s)(hN:X.N.Nodup)(hi:X.N[i]?=some x)(hx:Loc X.env.scope x)(r:RelV v u)
  (h:∀s',Inv X pins (σ.set i (some v)) H s'->Q () s') (hf:X.fn x=true\/X.env.scope.names.lookup x=some .local:=by first|exact .inl rfl|exact .inr rfl|assumption):wpAny M A (storeName X.env x u) Q E s:=
 Dh I hN hi hx r (fun s' I' _=>h s' I') hf
theorem Inv.RT{s':Shared}{ch:List Addr}(I:Inv X pins σ H s)(ho:s'.os=s.os)(u:Un (frs X.stack) ch H H' s.heap s'.heap)(hok:cI X.prog X.w H' s'.heap)(hg:AllBare s'.gens)
  (hch:∀b∈ch,(b∈X.ex\/X.s₀.heap.objs.size<=b)/\b≠X.env.locals/\(∀x c,X.env.cells.lookup x=some c->c≠b)/\∀p∈X.pn++pins,p.1≠b):Inv X pins σ H' s':=by
 obtain⟨h',g',d',t',o'⟩:=s'
 have e:o'=s.os:=ho
 subst e
 exact I.call (g':=g') (t':=t') (d':=d') u hok hg hch
end
abbrev XK:=Value->Option Addr->Hp->Prop
abbrev St:=List (Option V)
abbrev VK:=V->Hp->Prop
abbrev TE:=St->Hp->VK->Prop
abbrev TT:=St->Hp->(Bool->Hp->Prop)->Prop
abbrev TA:=St->Hp->(List V->Hp->Prop)->Prop
structure Ends where
 nx:St->Hp->Prop
 rt:VK
 bk:St->Hp->Prop:=fun _ _=>False
 ct:St->Hp->Prop:=fun _ _=>False
abbrev TS:=Ends->St->Hp->Prop
def EP(X:Cx)(pins:List (Addr×Obj))(σ:St)(Q:VK)(u:Value)(s':Shared):Prop:=∃v H',Inv X pins σ H' s'/\RelV v u/\Q v H'
def TP(X:Cx)(pins:List (Addr×Obj))(σ:St)(Q:Bool->Hp->Prop)(b:Bool)(s':Shared):Prop:=∃H',Inv X pins σ H' s'/\Q b H'
def AP(X:Cx)(pins:List (Addr×Obj))(σ:St)(Q:List V->Hp->Prop)(us:List Value)(s':Shared):Prop:=∃vs H',Inv X pins σ H' s'/\Vals vs us/\Q vs H'
def SP(X:Cx)(pins:List (Addr×Obj))(D:Ends)(f:Flow)(s':Shared):Prop:=
 match f with
 | .next=>∃σ' H',Inv X pins σ' H' s'/\D.nx σ' H'
 | .brk=>∃σ' H',Inv X pins σ' H' s'/\D.bk σ' H'
 | .cont=>∃σ' H',Inv X pins σ' H' s'/\D.ct σ' H'
 | .ret u=>∃v σ' H',Inv X pins σ' H' s'/\RelV v u/\D.rt v H'
def PE(X:Cx)(e:Expr)(t:TE):Prop:=
 ∀(pins:List (Addr×Obj)) (s:Shared) (σ:St) (H:Hp) (Q:VK),Inv X pins σ H s->t σ H Q->wpAny (model X.prog X.w) X.A (eval e X.env) (EP X pins σ Q) X.xe s
def PT(X:Cx)(e:Expr)(t:TT):Prop:=
 ∀(pins:List (Addr×Obj)) (s:Shared) (σ:St) (H:Hp) (Q:Bool->Hp->Prop),Inv X pins σ H s->t σ H Q->wpAny (model X.prog X.w) X.A (isTrue e X.env (eval e X.env)) (TP X pins σ Q) X.xe s
def PW(X:Cx)(e:Expr)(t:TT):Prop:=
 ∀(whole:Sem Value) (pins:List (Addr×Obj)) (s:Shared) (σ:St) (H:Hp) (Q:Bool->Hp->Prop),Inv X pins σ H s->t σ H Q->wpAny (model X.prog X.w) X.A (isTrue e X.env whole) (TP X pins σ Q) X.xe s
theorem PW.pt{X:Cx}{e:Expr}{t:TT}(h:PW X e t):PT X e t:=h _
def PA(X:Cx)(es:List Expr)(t:TA):Prop:=
 ∀(pos:Pos) (pins:List (Addr×Obj)) (s:Shared) (σ:St) (H:Hp) (Q:List V->Hp->Prop),Inv X pins σ H s->t σ H Q->wpAny (model X.prog X.w) X.A (spliced (backTo pos (starEach es X.env))) (AP X pins σ Q) X.xe s
def PS(X:Cx)(st:Stmt)(t:TS):Prop:=
 ∀(pins:List (Addr×Obj)) (s:Shared) (σ:St) (H:Hp) (D:Ends),Inv X pins σ H s->t D σ H->wpAny (model X.prog X.w) X.A (exec st X.env) (SP X pins D) X.xe s
def gU(X:Cx)(st:List Stmt)(t:TS):Prop:=
 ∀(pins:List (Addr×Obj)) (s:Shared) (σ:St) (H:Hp) (D:Ends),Inv X pins σ H s->t D σ H->wpAny (model X.prog X.w) X.A (execs st X.env) (SP X pins D) X.xe s
theorem aP{α:Type}{t:Sem α}{Q Q':α->Shared->Prop}{M:Model}{A:Around}{E:Value->Shared->Prop}{s:Shared}(h:wpAny M A t Q E s)(hQ:∀a s,Q a s->Q' a s):wpAny M A t Q' E s:=wpAny_mono h hQ fun _ _ x=>x
section
variable{X:Cx}
theorem bin{a b:Expr}{ta tb:TE}(ha:PE X a ta)(hb:PE X b tb){pins:List (Addr×Obj)}{s:Shared}{σ:St}{H:Hp}{R:V->V->Hp->Prop}(I:Inv X pins σ H s)(h:ta σ H fun x H1=>tb σ H1 fun y H2=>R x y H2)
  {α:Type} {Q:α->Shared->Prop} {f:Value->Value->Sem α}
  (hf:∀v u s2 x y H2,Inv X pins σ H2 s2->RelV x v->RelV y u->R x y H2->wpAny (model X.prog X.w) X.A (f v u) Q X.xe s2):
  wpAny (model X.prog X.w) X.A (eval a X.env) (fun v s₁=>wpAny (model X.prog X.w) X.A (eval b X.env) (fun u s₂=>wpAny (model X.prog X.w) X.A (f v u) Q X.xe s₂) X.xe s₁) X.xe s:=by
 refine aP (ha pins s σ H _ I h) fun v s1 ⟨x,H1,I1,r1,q1⟩=>?_
 refine aP (hb pins s1 σ H1 _ I1 q1) fun u s2 ⟨y,H2,I2,r2,q2⟩=>?_
 exact hf v u s2 x y H2 I2 r1 r2 q2
def dM(i:Nat):TE:=fun σ H Q=>∃v,σ[i]?=some (some v)/\Q v H
def tC(v:V):TE:=fun _ H Q=>Q v H
theorem O1{i:Nat}{x:Str}{pos:Pos}(hN:X.N[i]?=some x)(hv:wL X.env.scope x)(hd:(x==("__debug__":Str))=false:=by decide)(hcd:(x==("__classdict__":Str))=false:=by decide):PE X (.Name x pos) (dM i):=by
 intro pins s σ H Q I h
 obtain⟨v,e,h⟩:=h
 obtain⟨m,hn,hl⟩:=I.loc
 obtain⟨u,r,l⟩:=hl i x v hN e hv
 have fin:EP X pins σ Q u s:=⟨v,H,I,r,h⟩
 rcases l with ⟨hk,hm⟩|⟨hk,c,hc,hcell⟩
 ·exact wpAny_Name (wpAny_loadName_local I.ok.kind hk hn hm fin) hd
 ·rcases hk with hk|hk
  ·exact wpAny_Name (wpAny_loadName_cell I.ok.kind hk hc hcell fin) hd
  ·exact wpAny_Name (wpAny_loadName_free I.ok.kind hk hc hcell fin hcd) hd
theorem aj{i j pos}:PE X (.Constant (.int i) j pos) (tC (.int i)):=fun _ _ _ H _ I h=>wpAny_Constant_int ⟨.int i,H,I.tok _,⟨_,rfl⟩,h⟩
theorem fh{b j pos}:PE X (.Constant (.bool b) j pos) (tC (.bl b)):=fun _ _ _ H _ I h=>Constant_bool ⟨.bl b,H,I,rfl,h⟩
theorem dS{j pos}:PE X (.Constant .none j pos) (tC .aN):=fun _ _ _ H _ I h=>Constant_none ⟨.aN,H,I,rfl,h⟩
theorem gE{x j pos}:PE X (.Constant (.str x) j pos) (tC (.str x)):=fun _ _ _ H _ I h=>Calls.Constant_str ⟨.str x,H,I.tok _,⟨_,rfl⟩,h⟩
def Gl(X:Cx)(x:Str):Prop:=X.env.kindOf x=some .globalImplicit
theorem UT{E:Value->Shared->Prop}{pins:List (Addr×Obj)}{s:Shared}{σ:St}{H:Hp}{x:Str}{u:Value}{pos:Pos}{Q:Value->Shared->Prop}(I:Inv X pins σ H s)(hg:Gl X x)(hm:X.mg x=some u)(h:Q u s)
  (hd:(x==("__debug__":Str))=false:=by decide):wpAny (model X.prog X.w) X.A (eval (.Name x pos) X.env) Q E s:=
 Calls.Name_function_global I.ok.kind hg (Calls.loadGlobal_global (by rw[I.ok.glob];exact I.mod.glob.keeps I.bk) hm h) hd
theorem jw{E:Value->Shared->Prop}{pins:List (Addr×Obj)}{s:Shared}{σ:St}{H:Hp}{x:Str}{u:Value}{pos:Pos}{Q:Value->Shared->Prop}(I:Inv X pins σ H s)(hg:Gl X x)(hm:X.mg x=none)(hv:bootBuiltins x=some u)(h:Q u s)
  (hn:x≠"__name__":=by decide) (hd:(x==("__debug__":Str))=false:=by decide):wpAny (model X.prog X.w) X.A (eval (.Name x pos) X.env) Q E s:=by
 obtain⟨mb,h1,h2⟩:=I.mod.blt
 exact Calls.Name_function_global I.ok.kind hg (Calls.loadGlobal_builtin (by rw[I.ok.glob];exact I.mod.glob.keeps I.bk) hm (by rw[I.ok.blt];exact h1.keeps I.bk) ((h2 x hn).trans hv) h) hd
theorem oY{x:Str}{v:V}{u:Value}{pos:Pos}(hg:Gl X x)(hm:X.mg x=none)(hv:bootBuiltins x=some u)(r:RelV v u)(hn:x≠"__name__":=by decide)(hd:(x==("__debug__":Str))=false:=by decide):PE X (.Name x pos) (tC v):=
 fun _ _ _ H _ I h=>jw I hg hm hv ⟨v,H,I,r,h⟩ hn hd
variable{a b:Expr}{ta tb:TE}{pos:Pos}
def PC(X:Cx)(op:CmpOp)(a b:Expr)(t:TE):Prop:=
 ∀(pins:List (Addr×Obj)) (s:Shared) (σ:St) (H:Hp) (Q:VK),Inv X pins σ H s->t σ H Q->
  wpAny (model X.prog X.w) X.A (eval a X.env) (fun v s₁=>wpAny (model X.prog X.w) X.A (eval b X.env) (fun u s₂=>wpAny (model X.prog X.w) X.A (compareOp op v u) (EP X pins σ Q) X.xe s₂) X.xe s₁) X.xe s
variable{tA p6:TT}{rest:List Expr}
def sQ(t u:TT):TT:=fun σ H Q=>t σ H fun c H1=>if c=true then u σ H1 Q else Q false H1
def Gf(t u:TT):TT:=fun σ H Q=>t σ H fun c H1=>if c=true then Q true H1 else u σ H1 Q
def EH(t:TT):TT:=fun σ H Q=>t σ H fun c H1=>Q (!c) H1
theorem iY(ha:PT X a tA):PW X (.BoolOp .And [a] pos) tA:=by
 intro wh pins s σ H Q I h
 refine isTrue_and (aP (ha pins s σ H Q I h) fun c s1 e=>?_)
 cases c with
 |true=>exact isTrue_and_nil e
 |false=>exact e
theorem j5(ha:PT X a tA):PW X (.BoolOp .Or [a] pos) tA:=by
 intro wh pins s σ H Q I h
 refine isTrue_or (aP (ha pins s σ H Q I h) fun c s1 e=>?_)
 cases c with
 |false=>exact isTrue_or_nil e
 |true=>exact e
theorem iF(ha:PT X a tA)(hb:PW X (.BoolOp .And (b::rest) pos) p6):PW X (.BoolOp .And (a::b::rest) pos) (sQ tA p6):=by
 intro wh pins s σ H Q I h
 refine isTrue_and (aP (ha pins s σ H _ I h) fun c s1 ⟨H1,I1,q1⟩=>?_)
 cases c with
 |true=>exact hb wh pins s1 σ H1 Q I1 q1
 |false=>exact⟨H1,I1,q1⟩
theorem iU(ha:PT X a tA)(hb:PW X (.BoolOp .Or (b::rest) pos) p6):PW X (.BoolOp .Or (a::b::rest) pos) (Gf tA p6):=by
 intro wh pins s σ H Q I h
 refine isTrue_or (aP (ha pins s σ H _ I h) fun c s1 ⟨H1,I1,q1⟩=>?_)
 cases c with
 |true=>exact⟨H1,I1,q1⟩
 |false=>exact hb wh pins s1 σ H1 Q I1 q1
theorem fy(ha:PT X a tA):PT X (.UnaryOp .Not a pos) (EH tA):=by
 intro pins s σ H Q I h
 exact isTrue_not (ha pins s σ H (fun c H1=>Q (!c) H1) I h)
def zE(ta tb:TE):TE:=fun σ H Q=>ta σ H fun x H1=>∃c,x= .bl c/\if c=true then tb σ H1 Q else Q (.bl false) H1
def AZ(ta tb:TE):TE:=fun σ H Q=>ta σ H fun x H1=>∃c,x= .bl c/\if c=true then Q (.bl true) H1 else tb σ H1 Q
def Ga(ta:TE):TE:=fun σ H Q=>ta σ H fun x H1=>∃c,x= .bl c/\Q (.bl (!c)) H1
theorem kE{op}{t:TE}(h:PE X a t):PE X (.BoolOp op [a] pos) t:=fun pins s σ H Q I hw=>BoolOp_one (h pins s σ H Q I hw)
theorem lM(ha:PE X a ta)(hb:PE X (.BoolOp .And (b::rest) pos) tb):PE X (.BoolOp .And (a::b::rest) pos) (zE ta tb):=by
 intro pins s σ H Q I h
 refine BoolOp_and (aP (ha pins s σ H _ I h) fun v s1 ⟨x,H1,I1,r1,q1⟩=>?_)
 obtain⟨c,rfl,q1⟩:=q1
 cases r1
 refine wpAny_truthy_bool ?_
 cases c with
 |true=>exact hb pins s1 σ H1 Q I1 q1
 |false=>exact⟨.bl false,H1,I1,rfl,q1⟩
theorem AU(ha:PE X a ta)(hb:PE X (.BoolOp .Or (b::rest) pos) tb):PE X (.BoolOp .Or (a::b::rest) pos) (AZ ta tb):=by
 intro pins s σ H Q I h
 refine BoolOp_or (aP (ha pins s σ H _ I h) fun v s1 ⟨x,H1,I1,r1,q1⟩=>?_)
 obtain⟨c,rfl,q1⟩:=q1
 cases r1
 refine wpAny_truthy_bool ?_
 cases c with
 |false=>exact hb pins s1 σ H1 Q I1 q1
 |true=>exact⟨.bl true,H1,I1,rfl,q1⟩
theorem Ll(ha:PE X a ta):PE X (.UnaryOp .Not a pos) (Ga ta):=by
 intro pins s σ H Q I h
 refine UnaryOp_ (aP (ha pins s σ H _ I h) fun v s1 ⟨x,H1,I1,r1,q1⟩=>?_)
 obtain⟨c,rfl,q1⟩:=q1
 cases r1
 exact not_of (wpAny_truthy_bool ⟨.bl (!c),H1,I1,rfl,q1⟩)
def CJ(t:TT)(ta tb:TE):TE:=fun σ H Q=>t σ H fun c H1=>if c=true then ta σ H1 Q else tb σ H1 Q
theorem i6{c:Expr}(hc:PT X c tA)(ha:PE X a ta)(hb:PE X b tb):PE X (.IfExp c a b pos) (CJ tA ta tb):=by
 intro pins s σ H Q I h
 refine wpAny_IfExp (aP (hc pins s σ H _ I h) fun d s1 ⟨H1,I1,q1⟩=>?_)
 cases d with
 |true=>exact ha pins s1 σ H1 Q I1 q1
 |false=>exact hb pins s1 σ H1 Q I1 q1
end
def aL(K:PySem.W.Frag)(H:Hp)(a:Addr)(xs:List V):Prop:=
 Rd H a (.lst xs)\/
  ∃(o:Obj) (its:Array Value) (n:Nat),K.lookup a=some o/\o.cls= .type "list" /\o.dict=none/\o.data= .seq its n/\its.size<=sizeLine/\Vals xs its.toList
def fJ(K:PySem.W.Frag)(H:Hp)(a:Addr)(xs:List V):Prop:=
 Rd H a (.tup xs)\/
  ∃(o:Obj) (its:Array Value) (n:Nat),K.lookup a=some o/\o.cls= .type "tuple" /\o.data= .seq its n/\its.size<=sizeLine/\Vals xs its.toList
def Up:Value->Option V
 | .none=>some .aN
 | .bool b=>some (.bl b)
 | .int i _=>some (.int i)
 | .str x _=>some (.str x)
 | .bytes b _=>some (.gH b)
 | .float b _=>some (.jd b)
 | .ref a=>some (.ref a)
 | .type n=>some (.ty n)
 |_=>none
theorem RelV.abs{x:V}{u:Value}(r:RelV x u):Up u=some x:=by
 cases x with
 |aN=>cases r;rfl
 |bl _=>cases r;rfl
 |int _=>obtain⟨t,rfl⟩:=r;rfl
 |str _=>obtain⟨t,rfl⟩:=r;rfl
 |gH _=>obtain⟨t,rfl⟩:=r;rfl
 |jd _=>obtain⟨t,rfl⟩:=r;rfl
 |ref _=>cases r;rfl
 |ty _=>cases r;rfl
theorem RelV.inj{x y:V}{u:Value}(r:RelV x u)(q:RelV y u):x=y:=Option.some.inj (r.abs.symm.trans q.abs)
theorem Vals.inj{xs ys:List V}{us:List Value}(h:Vals xs us)(k:Vals ys us):xs=ys:=by
 induction h generalizing ys with
 |nil=>cases k;rfl
 |cons r t ih=>cases k with|cons r' t'=>rw[r.inj r',ih t']
section
variable{X:Cx}{pins:List (Addr×Obj)}{σ:St}{H:Hp}{s:Shared}{a:Addr}{xs ys:List V}
theorem aL.of{K:PySem.W.Frag}(h:H a=some (.lst xs)):aL K H a xs:= .inl (.inl h)
theorem fJ.of{K:PySem.W.Frag}(h:H a=some (.tup xs)):fJ K H a xs:= .inl (.inl h)
theorem Inv.list(I:Inv X pins σ H s)(h:aL X.K H a xs):∃its:List Value,Vals xs its/\PlainL s.heap a its.toArray/\xs.length<=sizeLine:=by
 rcases h with h|⟨o,its,n,hk,hc,hd,hs,hz,r⟩
 ·obtain⟨z,its,n,r,e⟩:=h.ok I.hok
  exact⟨its,r,⟨_,n,e,rfl,rfl,rfl⟩,z⟩
 ·refine⟨its.toList,r,⟨o,n,I.eZ a o hk,hc,hd,by simpa using hs⟩,?_⟩
  have e:=r.length
  simp only[Array.length_toList] at e
  omega
theorem Inv.tuple(I:Inv X pins σ H s)(h:fJ X.K H a xs):∃its:List Value,Vals xs its/\IsTup s.heap a its.toArray/\xs.length<=sizeLine:=by
 rcases h with h|⟨o,its,n,hk,hc,hs,hz,r⟩
 ·obtain⟨z,its,r,p⟩:=h.ok I.hok
  exact⟨its,r,p,z⟩
 ·refine⟨its.toList,r,⟨o,I.eZ a o hk,hc,n,by simpa using hs⟩,?_⟩
  have e:=r.length
  simp only[Array.length_toList] at e
  omega
theorem Inv.rC(I:Inv X pins σ H s)(h:aL X.K H a xs)(h':aL X.K H a ys):xs=ys:=by
 obtain⟨its,r,⟨o,n,e,_,_,d⟩,_⟩:=I.list h
 obtain⟨its',r',⟨o',n',e',_,_,d'⟩,_⟩:=I.list h'
 rw[e] at e';cases e'
 rw[d] at d'
 injection d' with d1 _
 have:its=its':=by simpa using congrArg Array.toList d1
 subst this
 exact r.inj r'
end
abbrev Cx.iT(X:Cx)(E:Value->Shared->Prop):Cx:={X with xe:=E}
abbrev Cx.rj(X:Cx):Cx:=X.iT fun _ _=>False
theorem Cx.Ok.iT{X:Cx}(ok:X.Ok)(E:Value->Shared->Prop):(X.iT E).Ok:=
 ⟨ok.mod,ok.kind,ok.glob,ok.blt,ok.above,ok.inj,ok.has,ok.ow,ok.hd,ok.frames,ok.stk,ok.rS,ok.bs,ok.ko,ok.nP,ok.pP,ok.iC,ok.mS⟩
theorem Cx.Ok.jF{X:Cx}{E:Value->Shared->Prop}(ok:(X.iT E).Ok):X.Ok:=
 ⟨ok.mod,ok.kind,ok.glob,ok.blt,ok.above,ok.inj,ok.has,ok.ow,ok.hd,ok.frames,ok.stk,ok.rS,ok.bs,ok.ko,ok.nP,ok.pP,ok.iC,ok.mS⟩
section
variable{X:Cx}{pins:List (Addr×Obj)}{σ:St}{H:Hp}{s:Shared}{E:Value->Shared->Prop}
theorem Inv.iT(I:Inv X pins σ H s)(E:Value->Shared->Prop):Inv (X.iT E) pins σ H s:=⟨I.ok.iT E,I.os,I.bare,I.base,I.loc,I.cell,I.free,I.gF,I.pin,I.hok,I.len⟩
theorem Inv.jF(I:Inv (X.iT E) pins σ H s):Inv X pins σ H s:=⟨I.ok.jF,I.os,I.bare,I.base,I.loc,I.cell,I.free,I.gF,I.pin,I.hok,I.len⟩
theorem SP.jF{D:Ends}{f:Flow}{s':Shared}(h:SP (X.iT E) pins D f s'):SP X pins D f s':=by
 cases f with
 |next=>obtain⟨σ',H',I,q⟩:=h;exact⟨σ',H',I.jF,q⟩
 |brk=>obtain⟨σ',H',I,q⟩:=h;exact⟨σ',H',I.jF,q⟩
 |cont=>obtain⟨σ',H',I,q⟩:=h;exact⟨σ',H',I.jF,q⟩
 |ret u=>obtain⟨v,σ',H',I,r,q⟩:=h;exact⟨v,σ',H',I.jF,r,q⟩
theorem gU.rj{st:List Stmt}{t:TS}(h:gU X.rj st t):gU X st t:=fun pins s σ H D I hw=>
 wpAny_mono (h pins s σ H D (I.iT _) hw) (fun _ _ q=>q.jF) fun _ _ z=>False.elim z
end
section
variable{X:Cx}{st:Stmt}{rest:List Stmt}{t u:TS}{e:Expr}{te:TE}{pos:Pos}
def wj:TS:=fun D σ H=>D.nx σ H
def ji(t u:TS):TS:=fun D σ H=>t {D with nx:=u D} σ H
theorem cg:gU X [] wj:=fun _ _ σ H _ I h=>wpAny_execs_nil ⟨σ,H,I,h⟩
theorem aq(h1:PS X st t)(h2:gU X rest u):gU X (st::rest) (ji t u):=by
  intro pins s σ H D I h
  refine wpAny_execs_cons (aP (h1 pins s σ H {D with nx:=u D} I h) fun f s1 q=>?_)
  cases f with
  | next =>
    obtain⟨σ',H',I',q⟩:=q
    exact h2 pins s1 σ' H' D I' q
  |ret v=>exact q
  |brk=>exact q
  |cont=>exact q
theorem aE(h1:PS X st t):gU X [st] t:=by
 intro pins s σ H D I h
 refine wpAny_execs_cons (aP (h1 pins s σ H D I h) fun f s1 q=>?_)
 cases f with
 |next=>exact wpAny_execs_nil q
 |ret v=>exact q
 |brk=>exact q
 |cont=>exact q
def QG:TS:=fun D σ H=>D.bk σ H
def VB:TS:=fun D σ H=>D.ct σ H
theorem Inv.quiet{pins:List (Addr×Obj)}{σ:St}{H:Hp}{s:Shared}(I:Inv X pins σ H s):interactive X.env=false:=by simp[interactive,I.ok.kind]
def pF(te:TE):TS:=fun D σ H=>te σ H fun _ H1=>D.nx σ H1
theorem AA(he:PE X e te)(hs:swapsWith e none pos.line X.env=pure false:=by rfl):PS X (.Expr e pos) (pF te):=by
 intro pins s σ H D I h
 exact wpAny_Expr_any (aP (he pins s σ H _ I h) fun v s1 ⟨x,H1,I1,r1,q1⟩=>⟨σ,H1,I1,q1⟩) I.quiet hs
def zV(te:TE):TS:=fun D σ H=>te σ H D.rt
theorem aQ(he:PE X e te):PS X (.Return (some e) pos) (zV te):=by
 intro pins s σ H D I h
 exact wpAny_Return_some (aP (he pins s σ H _ I h) fun v s1 ⟨x,H1,I1,r1,q1⟩=>⟨x,σ,H1,I1,r1,q1⟩)
def zP(c:TT)(t u:TS):TS:=fun D σ H=>c σ H fun b H1=>if b=true then t D σ H1 else u D σ H1
theorem bS{c:Expr}{a b:List Stmt}{tc:TT}(hc:PT X c tc)(ha:gU X a t)(hb:gU X b u):PS X (.If c a b pos) (zP tc t u):=by
 intro pins s σ H D I h
 refine wpAny_If (aP (hc pins s σ H _ I h) fun d s1 ⟨H1,I1,q1⟩=>?_)
 cases d with
 |true=>exact ha pins s1 σ H1 D I1 q1
 |false=>exact hb pins s1 σ H1 D I1 q1
end
abbrev TG:=V->St->Hp->(St->Hp->Prop)->Prop
abbrev fY:=List V->St->Hp->(St->Hp->Prop)->Prop
def PG(X:Cx)(target:Expr)(t:TG):Prop:=
 ∀(pins:List (Addr×Obj)) (s:Shared) (σ:St) (H:Hp) (v:V) (u:Value) (Q:St->Hp->Prop),Inv X pins σ H s->RelV v u->t v σ H Q->
  wpAny (model X.prog X.w) X.A (assign target X.env u) (fun _ s'=>∃σ' H',Inv X pins σ' H' s'/\Q σ' H') X.xe s
def pG(X:Cx)(ts:List Expr)(t:fY):Prop:=
 ∀(pins:List (Addr×Obj)) (s:Shared) (σ:St) (H:Hp) (vs:List V) (us:List Value) (Q:St->Hp->Prop),Inv X pins σ H s->Vals vs us->t vs σ H Q->
  wpAny (model X.prog X.w) X.A (assignInOrder ((assignEach ts X.env).map (·.2)) us) (fun _ s'=>∃σ' H',Inv X pins σ' H' s'/\Q σ' H') X.xe s
abbrev qf:=V->V->V->Hp->(Hp->Prop)->Prop
def vC(X:Cx)(t:qf):Prop:=
 ∀(pins:List (Addr×Obj)) (s:Shared) (σ:St) (H:Hp) (o i v:V) (ov iv u:Value) (Q:Hp->Prop),Inv X pins σ H s->RelV o ov->RelV i iv->RelV v u->t o i v H Q->
  wpAny (model X.prog X.w) X.A (setItem ov iv u) (fun _ s'=>∃H',Inv X pins σ H' s'/\Q H') X.xe s
section
variable{X:Cx}{pos:Pos}
def dN(i:Nat):TG:=fun v σ H Q=>Q (σ.set i (some v)) H
theorem aO{i:Nat}{x:Str}(hN:X.N.Nodup)(hi:X.N[i]?=some x)(hx:Loc X.env.scope x)(hf:X.fn x=true\/X.env.scope.names.lookup x=some .local:=by first|exact .inl rfl|exact .inr rfl|assumption):PG X (.Name x pos) (dN i):=by
 intro pins s σ H v u Q I r h
 exact wpAny_assign_Name (Bl I hN hi hx r (fun s' I'=>⟨_,H,I',h⟩) hf)
def rJ:fY:=fun vs σ H Q=>vs=[]/\Q σ H
def mG(t:TG)(u:fY):fY:=fun vs σ H Q=>∃v r,vs=v::r/\t v σ H fun σ' H'=>u r σ' H' Q
theorem fQ:pG X [] rJ:=by
 intro pins s σ H vs us Q I r h
 obtain⟨e,h⟩:=h
 subst e
 cases r
 exact assignInOrder_nil ⟨σ,H,I,h⟩
theorem bO{e:Expr}{es:List Expr}{t:TG}{u:fY}(h1:PG X e t)(h2:pG X es u)
    (hs:(assignEach (e::es) X.env).map (·.2)=assign e X.env::(assignEach es X.env).map (·.2):=by rfl):pG X (e::es) (mG t u):=by
  intro pins s σ H vs us Q I r h
  obtain⟨v,vr,e1,h⟩:=h
  subst e1
  cases r with
  | cons r rr =>
    rw[hs]
    refine assignInOrder_cons (aP (h1 pins s σ H _ _ _ I r h) fun _ s1 ⟨σ1,H1,I1,q1⟩=>?_)
    exact h2 pins s1 σ1 H1 _ _ Q I1 rr q1
def oR(K:PySem.W.Frag)(n:Nat)(t:fY):TG:=fun v σ H Q=>∃a xs,v= .ref a/\fJ K H a xs/\xs.length=n/\t xs σ H Q
theorem FA{es:List Expr}{k:Nat}{t:fY}{n:Nat}(hc:X.calm=true)(h:pG X es t)
  (hn:(assignEach es X.env).length=n:=by rfl) (hst:(assignEach es X.env).findIdx? (·.1)=none:=by rfl):PG X (.Tuple es k pos) (oR X.K n t):=by
 intro pins s σ H v u Q I r hw
 obtain⟨a,xs,e1,hq,hl,hw⟩:=hw
 subst e1
 cases r
 obtain⟨its,rv,ht,hz⟩:=I.tuple hq
 refine assign_Tuple_tuple (I.ok.hd hc) ht (by simp[hn,<-hl,rv.length]) hst fun h' hx=>?_
 have I1:Inv X pins σ H {s with heap:=h'}:=I.kept (t':=s.toks) fun b o e=>hx b o (Nat.ne_of_lt (Heap.lt_size e)) e
 exact h pins _ σ H xs _ Q I1 (by simpa using rv) hw
def kL(to ti:TE)(t:qf):TG:=fun v σ H Q=>to σ H fun o H1=>ti σ H1 fun i H2=>t o i v H2 fun H3=>Q σ H3
theorem fO{o i:Expr}{to ti:TE}{t:qf}(ho:PE X o to)(hi:PE X i ti)(hs:vC X t)
  (ha : ∀ v, assign (.Subscript o i pos) X.env v = (do
   let ov<-holding [v] (eval o X.env)
   let iv<-holding [v,ov] (eval i X.env)
   standAt pos
   holding [v,ov,iv] (setItem ov iv v)
   release [v,ov,iv] []):=by intro _;rfl):PG X (.Subscript o i pos) (kL to ti t):=by
 intro pins s σ H v u Q I r h
 rw[ha]
 refine wpAny_bind (wpAny_holding (aP (ho pins s σ H _ I h) fun ov s1 ⟨x,H1,I1,r1,q1⟩=>?_))
 refine wpAny_bind (wpAny_holding (aP (hi pins s1 σ H1 _ I1 q1) fun iv s2 ⟨y,H2,I2,r2,q2⟩=>?_))
 refine wpAny_bind (wpAny_standAt (wpAny_bind (wpAny_holding (aP (hs pins s2 σ H2 x y v ov iv u _ I2 r1 r2 r q2) fun _ s3 ⟨H3,I3,q3⟩=>?_))))
 exact wpAny_release ⟨σ,H3,I3,q3⟩
def eE(te:TE)(g:TG):TS:=fun D σ H=>te σ H fun x H1=>g x σ H1 D.nx
theorem dX{tg e:Expr}{te:TE}{g:TG}(he:PE X e te)(hg:PG X tg g)(hs:swapsWithSole [tg] e pos.line X.env=pure false:=by rfl)(hw:swappedStores [tg] e X.env=pure none:=by rfl)
  (h1:(assignEach [tg] X.env).map (·.2)=[assign tg X.env]:=by rfl):PS X (.Assign [tg] e pos) (eE te g):=by
 intro pins s σ H D I h
 refine wpAny_Assign_stores (aP (he pins s σ H _ I h) fun v s1 ⟨x,H1,I1,r1,q1⟩=>?_) hs hw
 rw[h1]
 exact aP (hg pins s1 σ H1 x v _ I1 r1 q1) fun _ s2 q=>q
theorem aM{i:Nat}{x:Str}{e:Expr}{te:TE}{pos':Pos}(hN:X.N.Nodup)(hi:X.N[i]?=some x)(hx:Loc X.env.scope x)(he:PE X e te)(hs:swapsWith e (some (.Name x pos')) pos.line X.env=pure false:=by rfl)(hf:X.fn x=true\/X.env.scope.names.lookup x=some .local:=by first|exact .inl rfl|exact .inr rfl|assumption):
  PS X (.Assign [.Name x pos'] e pos) (eE te (dN i)):=by
 intro pins s σ H D I h
 refine wpAny_Assign_Name (aP (he pins s σ H _ I h) fun v s1 ⟨y,H1,I1,r1,q1⟩=>?_) hs
 exact Bl I1 hN hi hx r1 (fun s2 I2=>⟨_,H1,I2,q1⟩) hf
end
section
variable{X:Cx}{pos:Pos}
def yy(c:TT)(tb:TS):TS:=fun D σ H=>∃W:Nat->St->Hp->Prop,(∃m,W m σ H)/\∀m σ H,W m σ H->
 c σ H fun b H1=>if b=true then∃N:St->Hp->Prop,(∀σ' H',N σ' H'->∃m',m'<m/\W m' σ' H')/\tb {D with nx:=N,ct:=N,bk:=D.nx} σ H1 else D.nx σ H1
theorem EW{c:Expr}{body:List Stmt}{tc:TT}{tb:TS}(hp:PassesOwn (model X.prog X.w) X.A X.env X.xe)(hc:PT X c tc)(hb:gU X body tb):PS X (.While c body [] pos) (yy tc tb):=by
  intro pins s σ H D I h
  obtain⟨W,⟨m0,w0⟩,turn⟩:=h
  refine wpAny_While (codeAny_whileLoop (fun n s'=>∃σ' H',Inv X pins σ' H' s'/\W n σ' H') ?_ m0 ⟨σ,H,I,w0⟩)
  rintro n s1 ⟨σ1,H1,I1,w1⟩
  refine wpAny_passesOwn hp (aP (hc pins s1 σ1 H1 _ I1 (turn n σ1 H1 w1)) fun b s2 ⟨H2,I2,q2⟩=>?_)
  cases b with
  | true =>
    obtain⟨N,hN,q2⟩:=q2
    rw[if_pos rfl]
    refine wpAny_passesOwn hp (aP (hb pins s2 σ1 H2 _ I2 q2) fun f s3 q3=>?_)
    cases f with
    | next =>
      obtain⟨σ3,H3,I3,n3⟩:=q3
      obtain⟨m',hm,w3⟩:=hN σ3 H3 n3
      exact⟨m',hm,σ3,H3,I3,w3⟩
    | cont =>
      obtain⟨σ3,H3,I3,n3⟩:=q3
      obtain⟨m',hm,w3⟩:=hN σ3 H3 n3
      exact⟨m',hm,σ3,H3,I3,w3⟩
    |brk=>exact q3
    |ret v=>exact q3
  | false =>
    rw[if_neg Bool.false_ne_true]
    exact wpAny_execs_nil ⟨σ1,H2,I2,q2⟩
end
structure It where
 go:Nat->Hp->Prop
 jT:Nat->Hp->V->Hp->Prop
 stop:Nat->Hp->Prop
def fG(X:Cx)(pins:List (Addr×Obj))(H:Hp)(b:Addr):Prop:=
 H b=none/\b≠X.env.locals/\b∉X.fs/\(b∈X.ex\/X.s₀.heap.objs.size<=b)/\(∀x c,X.env.cells.lookup x=some c->c≠b)/\∀p∈X.pn++pins,p.1≠b
theorem Inv.lF{X:Cx}{pins:List (Addr×Obj)}{σ:St}{H H':Hp}{s:Shared}{b:Addr}(I:Inv X pins σ H s)(hb:s.heap.objs.size<=b)(hn:H' b=none):fG X pins H' b:=by
 refine⟨hn,Nat.ne_of_gt (Nat.lt_of_lt_of_le I.lt hb),I.HG hb, .inr (Nat.le_trans I.sz hb),fun x c e z=>?_,fun p hp z=>?_⟩
 ·obtain⟨v,q⟩:=I.cell x c e
  exact absurd (Nat.lt_of_lt_of_le q.lt (by rw[z];exact hb)) (Nat.lt_irrefl _)
 ·exact absurd (Nat.lt_of_lt_of_le (Heap.lt_size (I.pin p hp).1) (by rw[z];exact hb)) (Nat.lt_irrefl _)
structure Turn(P:Program)(w:World)(K:PySem.W.Frag)(tg:Expr)(J:It)(fp:List Addr)(it:Addr)(tn:Nat->Heap->Prop):Prop where
 mem:it∈fp
 obj:∀i h,tn i h->∀b∈fp,∃o,h.get? b=some o/\∀v,o.data≠ .cell v
 keep:∀i h h',tn i h->(∀b∈fp,∀o,h.get? b=some o->h'.get? b=some o)->tn i h'
 item:∀(X:Cx),X.prog=P->X.w=w->X.K=K->X.calm=true->∀(i:Nat) (pins:List (Addr×Obj)) (s:Shared) (σ:St) (H:Hp) (E:Value->Shared->Prop),Inv X pins σ H s->(∀b∈fp,fG X pins H b)->tn i s.heap->J.go i H->
  wpAny (model P w) X.A (pyNext (.ref it)) (fun r s1=>∃u,r=some u/\
   wpAny (model P w) X.A (letOwnedTupleGo tg (.ref it) u) (fun _ s2=>∃x H',Inv X pins σ H' s2/\RelV x u/\J.jT i H x H'/\tn (i+1) s2.heap/\∀b∈fp,H' b=none) E s1) E s
 done:∀(X:Cx),X.prog=P->X.w=w->X.K=K->X.calm=true->∀(i:Nat) (pins:List (Addr×Obj)) (s:Shared) (σ:St) (H:Hp) (E:Value->Shared->Prop),Inv X pins σ H s->(∀b∈fp,fG X pins H b)->tn i s.heap->J.stop i H->
  wpAny (model P w) X.A (pyNext (.ref it)) (fun r s1=>r=none/\Inv X pins σ H s1) E s
 self:∀(A:Around) (i:Nat) (s:Shared) (Q:Value->Shared->Prop) (E:Value->Shared->Prop),tn i s.heap->Q (.ref it) s->wpAny (model P w) A (pyIter (.ref it)) Q E s
abbrev TI:=St->Hp->(It->Hp->Prop)->Prop
def DH(X:Cx)(pins:List (Addr×Obj))(σ:St)(tg:Expr)(R:It->Hp->Prop)(itv:Value)(s2:Shared):Prop:=
 ∃(it:Addr) (fp:List Addr) (tn:Nat->Heap->Prop) (J:It) (H':Hp),itv= .ref it/\Inv X pins σ H' s2/\Turn X.prog X.w X.K tg J fp it tn/\tn 0 s2.heap/\(∀b∈fp,fG X pins H' b)/\R J H'
def PI(X:Cx)(tg iter:Expr)(wi:TI):Prop:=
 ∀(pins:List (Addr×Obj)) (s:Shared) (σ:St) (H:Hp) (R:It->Hp->Prop),Inv X pins σ H s->wi σ H R->
  wpAny (model X.prog X.w) X.A (eval iter X.env) (fun v s1=>wpAny (model X.prog X.w) X.A (pyIter v) (DH X pins σ tg R) X.xe s1) X.xe s
theorem wz{M:Model}{A:Around}{E:Value->Shared->Prop}{s:Shared}{tg:Expr}{it:Addr}{u:Value}{o:Obj}{n:String}{vs:Array Value}{Q:Unit->Shared->Prop}(ho:s.heap.get? it=some o)(hc:o.cls= .type n)(hd:o.data= .fields vs)
    (hn:["enumerate","zip","dict_itemiterator","dict_reverseitemiterator","odict_iterator","itertools.zip_longest","itertools.pairwise"].contains n=false) (hQ:Q () s):wpAny M A (letOwnedTupleGo tg (.ref it) u) Q E s:=by
  unfold letOwnedTupleGo
  cases tg<;>first
    |exact wpAny_pure hQ
    |(cases u<;>first
        |exact wpAny_pure hQ
        | (refine wpAny_bind (wpAny_load ho ?_)
           rw[hc,hd]
           show wpAny M A (if(["enumerate","zip","dict_itemiterator","dict_reverseitemiterator","odict_iterator","itertools.zip_longest","itertools.pairwise"].contains n && vs[0]?==some (rawInt _))=true then _ else _) Q E s
           rw[if_neg (by intro h;rw[hn,Bool.false_and] at h;cases h)]
           exact wpAny_pure hQ))
def kW(K:PySem.W.Frag)(a:Addr):It:=
 ⟨fun i H=>∃xs x,aL K H a xs/\xs[i]?=some x,fun i H x H'=>H'=H/\∀xs,aL K H a xs->xs[i]?=some x,fun i H=>∃xs,aL K H a xs/\xs.length<=i⟩
def gy(lo:Int)(n:Nat):It:=⟨fun i _=>i<n,fun i H x H'=>H'=H/\x= .int (lo+i),fun i _=>n<=i⟩
theorem Su{P:Program}{w:World}{K:PySem.W.Frag}{tg:Expr}(a it:Addr):Turn P w K tg (kW K a) [it] it (fun i h=>h.IsListIter it a i) where
 mem:=by simp
 obj:=fun i h st b hb=>by
  have e:b=it:=by simpa using hb
  subst e
  obtain⟨o,e,c,d⟩:=st
  exact⟨o,e,fun v z=>by rw[d] at z;cases z⟩
 keep:=fun i h h' st k=>st.at fun o e=>k it (by simp) o e
 item:=by
  intro X hP hw hK hc i pins s σ H E I hf st hg
  subst hP hw hK
  obtain⟨xs,x,hq,hx⟩:=hg
  obtain⟨its,rv,p,hz⟩:=I.list hq
  obtain⟨u,hu,ru⟩:=rv.get hx
  obtain⟨f0,f1,f2,f3,f4,f5⟩:=hf it (by simp)
  refine wpAny_pyNext_list_item st p.isList (x:=u) (by simpa using hu) fun h' st' sb=>?_
  have I1:Inv X pins σ H {s with heap:=h'}:=I.turned (t':=s.toks) (fun b o hb e=>(sb.2 b hb).trans e) f0 f1 f3 f4 f5
  obtain⟨o,e,c,d⟩:=id st'
  exact⟨u,rfl,wz (s:={s with heap:=h'}) e c d (by decide) ⟨x,H,I1,ru,⟨rfl,fun ys hy=>by rw[I.rC hy hq];exact hx⟩,st',fun b hb=>(hf b hb).1⟩⟩
 done:=by
  intro X hP hw hK hc i pins s σ H E I hf st hg
  subst hP hw hK
  obtain⟨xs,hq,hx⟩:=hg
  obtain⟨its,rv,p,hz⟩:=I.list hq
  obtain⟨f0,f1,f2,f3,f4,f5⟩:=hf it (by simp)
  have hl:=rv.length
  exact wpAny_pyNext_list_end (I.ok.hd hc) st p.isList (by simp;omega) fun h' eb=>⟨rfl,I.turned (t':=s.toks) (fun b o hb e=>eb b o hb e) f0 f1 f3 f4 f5⟩
 self:=fun _ _ _ _ _ st h=>wpAny_pyIter_listiter st h
theorem PK{P:Program}{w:World}{K:PySem.W.Frag}{tg:Expr}(it:Addr)(lo:Int)(n:Nat):Turn P w K tg (gy lo n) [it] it (fun i h=>IsRangeIter h it (lo+(i:Nat)*1) ((n:Int)-(i:Nat)) 1) where
 mem:=by simp
 obj:=fun i h st b hb=>by
  have e:b=it:=by simpa using hb
  subst e
  exact⟨_,st,fun v z=>by
   have z':Data.fields _=Data.cell v:=z
   cases z'⟩
 keep:=fun i h h' st k=>k it (by simp) _ st
 item:=by
  intro X hP hw hK hc i pins s σ H E I hf st hg
  subst hP hw hK
  obtain⟨f0,f1,f2,f3,f4,f5⟩:=hf it (by simp)
  have W:=Walks.range (prog:=X.prog) (w:=X.w) (I.ok.hd hc) it lo 1 n
  refine W.item i s _ _ hg st fun v h' tk hv st' kk=>?_
  obtain⟨t,rfl⟩:=hv
  have I1:Inv X pins σ H {s with heap:=h',toks:=tk}:=I.turned (fun b o hb e=>kk b o (by simpa using hb) e) f0 f1 f3 f4 f5
  refine⟨_,rfl,wz (s:={s with heap:=h',toks:=tk}) (n:="range_iterator") st' rfl rfl (by decide) ⟨.int (lo+i),H,I1,⟨t,?_⟩,⟨rfl,rfl⟩,st',fun b hb=>(hf b hb).1⟩⟩
  rw[Int.mul_one]
 done:=by
  intro X hP hw hK hc i pins s σ H E I hf st hg
  subst hP hw hK
  obtain⟨f0,f1,f2,f3,f4,f5⟩:=hf it (by simp)
  exact wpAny_pyNext_range_end (I.ok.hd hc) st (by have:n<=i:=hg;omega) fun h' eb=>⟨rfl,I.turned (t':=s.toks) (fun b o hb e=>eb b o hb e) f0 f1 f3 f4 f5⟩
 self:=fun _ _ _ _ _ st h=>wpAny_pyIter_rangeiter st h
section
variable{X:Cx}{tg:Expr}
def rL(K:PySem.W.Frag)(tl:TE):TI:=fun σ H R=>tl σ H fun x H1=>∃a,x= .ref a/\(∃xs,aL K H1 a xs)/\R (kW K a) H1
theorem eu{l:Expr}{tl:TE}(hl:PE X l tl):PI X tg l (rL X.K tl):=by
 intro pins s σ H R I h
 refine aP (hl pins s σ H _ I h) fun v s1 ⟨x,H1,I1,r1,q1⟩=>?_
 obtain⟨a,e,⟨xs,hq⟩,q⟩:=q1
 subst e
 cases r1
 obtain⟨its,rv,p,hz⟩:=I1.list hq
 refine wpAny_pyIter_list p.isList ?_
 refine⟨s1.heap.objs.size,[s1.heap.objs.size],_,_,H1,rfl,I1.kept (t':=s1.toks) fun b o e=>Heap.get?_push_of_some _ e,Su a _,⟨_,Heap.get?_push_size _ rfl,rfl,rfl⟩,fun b hb=>?_,q⟩
 have e:b=s1.heap.objs.size:=by simpa using hb
 subst e
 exact I1.lF (Nat.le_refl _) (I1.hok.fresh (Nat.le_refl _))
theorem E8{pins:List (Addr×Obj)}{σ:St}{H:Hp}{s:Shared}{R:It->Hp->Prop}{E:Value->Shared->Prop}{lo hi:Int}{t u v:Tok}{tk:Nat}(I:Inv X pins σ H s)(h1: -(2^62)<=lo)(h2:lo<2^62)(h3: -(2^62)<=hi)(h4:hi<2^62)
  (q:R (gy lo (hi-lo).toNat) H):wpAny (model X.prog X.w) X.A (pyIter (.ref s.heap.objs.size)) (DH X pins σ tg R) E {s with heap:=s.heap.push {cls:= .type "range",data:= .fields #[.int lo t, .int hi u, .int 1 v]},toks:=tk}:=by
 refine wpAny_pyIter_range (IsRange.new ..) (small_one h1 h2 h3 h4) ?_
 have I1:Inv X pins σ H {s with heap:=s.heap.push {cls:= .type "range",data:= .fields #[.int lo t, .int hi u, .int 1 v]},toks:=tk}:=I.kept fun b o e=>Heap.get?_push_of_some _ e
 refine⟨(s.heap.push {cls:= .type "range",data:= .fields #[.int lo t, .int hi u, .int 1 v]}).objs.size,[(s.heap.push {cls:= .type "range",data:= .fields #[.int lo t, .int hi u, .int 1 v]}).objs.size],_,_,H,rfl,
  I1.kept (t':=tk) fun b o e=>Heap.get?_push_of_some _ e,PK _ lo (hi-lo).toNat,?_,fun b hb=>?_,q⟩
 ·have e1:lo+((0:Nat):Int)*1=lo:=by simp
  have e2:(((hi-lo).toNat:Nat):Int)-((0:Nat):Int)=Builtin.Range.rangeSize lo hi 1:=by rw[rangeSize_one];split<;>omega
  show IsRangeIter _ _ (lo+((0:Nat):Int)*1) ((((hi-lo).toNat:Nat):Int)-((0:Nat):Int)) 1
  rw[e1,e2]
  exact Heap.get?_push_size _ rfl
 ·have e:b=(s.heap.push {cls:= .type "range",data:= .fields #[.int lo t, .int hi u, .int 1 v]}).objs.size:=by simpa using hb
  subst e
  exact I1.lF (Nat.le_refl _) (I1.hok.fresh (Nat.le_refl _))
def qa(ta:TA):TI:=fun σ H R=>ta σ H fun vs H1=>∃j:Int,vs=[.int j]/\ -(2^62)<=j/\j<2^62/\R (gy 0 j.toNat) H1
def DG(ta:TA):TI:=fun σ H R=>ta σ H fun vs H1=>∃i j:Int,vs=[.int i, .int j]/\(-(2^62)<=i/\i<2^62/\ -(2^62)<=j/\j<2^62)/\R (gy i (j-i).toNat) H1
theorem fM{a:Expr}{ta:TA}{p pos:Pos}(hg:Gl X "range")(hm:X.mg "range"=none)(ha:PA X [a] ta)(hs:starEach [a] X.env=[(false,eval a X.env)]:=by rfl):PI X tg (.Call (.Name "range" p) [a] [] pos) (qa ta):=by
  intro pins s σ H R I h
  refine Call_ (jw I hg hm boot_range (PyProof.Rows.callWith_type1 (aP (ha pos pins s σ H _ I h) fun us s1 ⟨vs,H1,I1,r1,q1⟩=>?_) hs rfl))
  obtain⟨j,e,q1,q2,q⟩:=q1
  subst e
  cases r1 with
  | cons r rr =>
    cases rr
    obtain⟨t,rfl⟩:=r
    exact call_range_1 (E8 I1 (by omega) (by omega) q1 q2 (by simpa using q))
theorem Bw{a b:Expr}{ta:TA}{p pos:Pos}(hg:Gl X "range")(hm:X.mg "range"=none)(ha:PA X [a,b] ta)(hs:starEach [a,b] X.env=[(false,eval a X.env),(false,eval b X.env)]:=by rfl)(hs2:starEach [b] X.env=[(false,eval b X.env)]:=by rfl):
    PI X tg (.Call (.Name "range" p) [a,b] [] pos) (DG ta):=by
  intro pins s σ H R I h
  refine Call_ (jw I hg hm boot_range (PyProof.Rows.callWith_type1 (aP (ha pos pins s σ H _ I h) fun us s1 ⟨vs,H1,I1,r1,q1⟩=>?_) (by rw[hs,hs2]) (by rw[hs2];rfl)))
  obtain⟨i,j,e,⟨q1,q2,q3,q4⟩,q⟩:=q1
  subst e
  cases r1 with
  | cons r rr =>
    cases rr with
    | cons r' rr =>
      cases rr
      obtain⟨t,rfl⟩:=r
      obtain⟨t',rfl⟩:=r'
      exact call_range_2 (E8 I1 q1 q2 q3 q4 q)
def mK(wi:TI)(g:TG)(tb:TS):TS:=fun D σ H=>wi σ H fun J H1=>∃W:Nat->Nat->St->Hp->Prop,(∃m,W 0 m σ H1)/\∀i m σ H,W i m σ H->
 (J.stop i H/\D.nx σ H)\/(J.go i H/\∃N:St->Hp->Prop,(∀σ' H',N σ' H'->∃m',m'<m/\W (i+1) m' σ' H')/\∀x H',J.jT i H x H'->g x σ H' fun σ2 H2=>tb {D with nx:=N,ct:=N,bk:=D.nx} σ2 H2)
def nE(fp:List Addr)(h:Heap):List (Addr×Obj):=fp.filterMap fun b=>(h.get? b).map fun o=>(b,o)
theorem qE{fp:List Addr}{h:Heap}{b:Addr}{o:Obj}(hb:b∈fp)(e:h.get? b=some o):(b,o)∈nE fp h:=List.mem_filterMap.mpr ⟨b,hb,by rw[e];rfl⟩
theorem Mp{fp:List Addr}{h:Heap}{p:Addr×Obj}(hp:p∈nE fp h):p.1∈fp/\h.get? p.1=some p.2:=by
  obtain⟨b,hb,e⟩:=List.mem_filterMap.mp hp
  cases q:h.get? b with
  |none=>rw[q] at e;cases e
  | some o =>
    rw[q] at e
    have e':(b,o)=p:=Option.some.inj e
    subst e'
    exact⟨hb,q⟩
theorem Inv.pinned{pins:List (Addr×Obj)}{σ:St}{H:Hp}{s:Shared}{fp:List Addr}(I:Inv X pins σ H s)(hf:∀b∈fp,fG X pins H b)(ho:∀b∈fp,∃o,s.heap.get? b=some o/\∀v,o.data≠ .cell v):Inv X (pins++nE fp s.heap) σ H s:=
 I.Dr fun p hp=>(List.mem_append.mp hp).elim (fun z=>I.pin p (List.mem_append_right _ z)) fun z=>by
  obtain⟨hb,e⟩:=Mp z
  obtain⟨f0,f1,f2,_⟩:=hf p.1 hb
  obtain⟨o,e',d⟩:=ho p.1 hb
  rw[e] at e';cases e'
  exact⟨e,f0,f1,f2,d⟩
theorem Inv.rN{pins pl:List (Addr×Obj)}{σ:St}{H:Hp}{s:Shared}(I:Inv X (pins++pl) σ H s):Inv X pins σ H s:=I.Dr fun p hp=>I.pin p (List.mem_append_right _ (List.mem_append_left _ hp))
theorem fu{iter:Expr}{body:List Stmt}{wi:TI}{g:TG}{tb:TS}{pos:Pos}(hp:PassesOwn (model X.prog X.w) X.A X.env X.xe)(hc:X.calm=true)(hi:PI X tg iter wi)(hg:PG X tg g)(hb:gU X body tb)
  (hs:∀x,foldedSetIterable iter X.env x=pure x:=by intro _;rfl):PS X (.For tg iter body [] pos) (mK wi g tb):=by
 intro pins s σ H D I h
 refine wpAny_For (aP (hi pins s σ H _ I h) fun v s1 h1=>aP h1 fun itv s2 h2=>?_) hs
 obtain⟨it,fp,tn,J,H2,e,I2,T,st2,f2,W,⟨m0,w0⟩,turn⟩:=h2
 subst e
 have jP:∀{H':Hp},(∀b∈fp,H' b=none)->∀b∈fp,fG X pins H' b:=fun hn b hb=>⟨hn b hb,(f2 b hb).2⟩
 refine codeAny_forLoop_any (fun n s'=>∃i σ' H',Inv X pins σ' H' s'/\tn i s'.heap/\(∀b∈fp,H' b=none)/\W i n σ' H') ?_ m0 ⟨0,σ,H2,I2,st2,fun b hb=>(f2 b hb).1,w0⟩
 rintro n s3 ⟨i,σ3,H3,I3,st3,fr3,w3⟩
 rcases turn i n σ3 H3 w3 with ⟨stop,qn⟩|⟨go,N,hN,step⟩
 ·refine wpAny_passesOwn hp (aP (T.done X rfl rfl rfl hc i pins s3 σ3 H3 X.xe I3 (jP fr3) st3 stop) fun r s4 ⟨hr,I4⟩=>?_)
  subst hr
  exact wpAny_execs_nil ⟨σ3,H3,I4,qn⟩
 ·refine wpAny_passesOwn hp (aP (T.item X rfl rfl rfl hc i pins s3 σ3 H3 X.xe I3 (jP fr3) st3 go) fun r s4 ⟨u,hr,h4⟩=>?_)
  subst hr
  refine wpAny_passesOwn hp (aP h4 fun _ s5 ⟨x,H5,I5,r5,y5,kY,sR⟩=>?_)
  have tU:=I5.pinned (jP sR) (T.obj _ _ kY)
  refine wpAny_passesOwn hp (aP (hg _ s5 σ3 H5 x u _ tU r5 (step x H5 y5)) fun _ s6 ⟨nJ,H6,I6,q6⟩=>?_)
  refine wpAny_passesOwn hp (aP (hb _ s6 nJ H6 _ I6 q6) fun f s7 q7=>?_)
  have again:∀{eH:St} {H7:Hp},Inv X (pins++nE fp s5.heap) eH H7 s7->N eH H7->∃m,m<n/\∃i σ' H',Inv X pins σ' H' s7/\tn i s7.heap/\(∀b∈fp,H' b=none)/\W i m σ' H':=fun{eH H7} I7 n7=>by
   obtain⟨m',hm,w7⟩:=hN eH H7 n7
   refine⟨m',hm,i+1,eH,H7,I7.rN,T.keep _ _ _ kY fun b hb o e=>(I7.pin (b,o) (List.mem_append_right _ (List.mem_append_right _ (qE hb e)))).1,fun b hb=>?_,w7⟩
   obtain⟨o,e,d⟩:=T.obj _ _ kY b hb
   exact(I7.pin (b,o) (List.mem_append_right _ (List.mem_append_right _ (qE hb e)))).2.1
  cases f with
  |next=>obtain⟨eH,H7,I7,n7⟩:=q7;exact again I7 n7
  |cont=>obtain⟨eH,H7,I7,n7⟩:=q7;exact again I7 n7
  |brk=>obtain⟨eH,H7,I7,q7⟩:=q7;exact⟨eH,H7,I7.rN,q7⟩
  |ret v=>obtain⟨x7,eH,H7,I7,r7,q7⟩:=q7;exact⟨x7,eH,H7,I7.rN,r7,q7⟩
end
theorem BD{K:PySem.W.Frag}{a:Addr}{xs:List V}{g:TG}{tb:TS}{D:Ends}{σ:St}{H:Hp}(Pv:Nat->St->Hp->Prop)(h0:Pv 0 σ H)(hl:∀i σ H,i<=xs.length->Pv i σ H->aL K H a xs)
  (hs:∀i x σ H,xs[i]?=some x->Pv i σ H->g x σ H fun σ2 H2=>tb {D with nx:=Pv (i+1),ct:=Pv (i+1),bk:=D.nx} σ2 H2) (hd:∀σ H,Pv xs.length σ H->D.nx σ H):
  ∃W:Nat->Nat->St->Hp->Prop,(∃m,W 0 m σ H)/\∀i m σ H,W i m σ H->
   ((kW K a).stop i H/\D.nx σ H)\/((kW K a).go i H/\∃N:St->Hp->Prop,(∀σ' H',N σ' H'->∃m',m'<m/\W (i+1) m' σ' H')/\∀x H',(kW K a).jT i H x H'->g x σ H' fun σ2 H2=>tb {D with nx:=N,ct:=N,bk:=D.nx} σ2 H2):=by
 refine⟨fun i m σ H=>m=xs.length-i/\i<=xs.length/\Pv i σ H,⟨xs.length,by simp,Nat.zero_le _,h0⟩,?_⟩
 rintro i m σ H ⟨rfl,hi,p⟩
 have q:=hl i σ H hi p
 by_cases hlt:i<xs.length
 ·refine .inr ⟨⟨xs,xs[i],q,by simp[hlt]⟩,Pv (i+1),fun σ' H' p'=>⟨xs.length-(i+1),by omega,rfl,hlt,p'⟩,fun x H' y=>?_⟩
  obtain⟨e,y⟩:=y
  subst e
  exact hs i x σ _ (y xs q) p
 ·have e:i=xs.length:=by omega
  subst e
  exact .inl ⟨⟨xs,q,Nat.le_refl _⟩,hd σ H p⟩
theorem uv{lo:Int}{n:Nat}{g:TG}{tb:TS}{D:Ends}{σ:St}{H:Hp}(Pv:Nat->St->Hp->Prop)(h0:Pv 0 σ H)
  (hs:∀i σ H,i<n->Pv i σ H->g (.int (lo+i)) σ H fun σ2 H2=>tb {D with nx:=Pv (i+1),ct:=Pv (i+1),bk:=D.nx} σ2 H2) (hd:∀σ H,Pv n σ H->D.nx σ H):
  ∃W:Nat->Nat->St->Hp->Prop,(∃m,W 0 m σ H)/\∀i m σ H,W i m σ H->
   ((gy lo n).stop i H/\D.nx σ H)\/((gy lo n).go i H/\∃N:St->Hp->Prop,(∀σ' H',N σ' H'->∃m',m'<m/\W (i+1) m' σ' H')/\∀x H',(gy lo n).jT i H x H'->g x σ H' fun σ2 H2=>tb {D with nx:=N,ct:=N,bk:=D.nx} σ2 H2):=by
 refine⟨fun i m σ H=>m=n-i/\i<=n/\Pv i σ H,⟨n,by simp,Nat.zero_le _,h0⟩,?_⟩
 rintro i m σ H ⟨rfl,hi,p⟩
 by_cases hlt:i<n
 ·refine .inr ⟨hlt,Pv (i+1),fun σ' H' p'=>⟨n-(i+1),by omega,rfl,hlt,p'⟩,fun x H' y=>?_⟩
  obtain⟨e,y⟩:=y
  subst e y
  exact hs i σ _ hlt p
 ·have e:i=n:=by omega
  subst e
  exact .inl ⟨Nat.le_refl _,hd σ H p⟩
theorem IB{c:TT}{tb:TS}{D:Ends}{σ:St}{H:Hp}(Pv:St->Hp->Prop)(μ:St->Hp->Nat)(h0:Pv σ H)
  (hs:∀σ H,Pv σ H->c σ H fun b H1=>if b=true then tb {D with nx:=fun σ' H'=>Pv σ' H'/\μ σ' H'<μ σ H,ct:=fun σ' H'=>Pv σ' H'/\μ σ' H'<μ σ H,bk:=D.nx} σ H1 else D.nx σ H1)
  (mono:∀σ H Q Q',(∀b H1,Q b H1->Q' b H1)->c σ H Q->c σ H Q'):yy c tb D σ H:=by
 refine⟨fun m σ H=>m=μ σ H/\Pv σ H,⟨_,rfl,h0⟩,?_⟩
 rintro m σ H ⟨rfl,p⟩
 refine mono σ H _ _ (fun b H1 q=>?_) (hs σ H p)
 cases b with
 |true=>exact⟨_,fun σ' H' ⟨p',l⟩=>⟨_,l,rfl,p'⟩,q⟩
 |false=>exact q
abbrev R2:=V->V->Hp->VK->Prop
def cQ(X:Cx)(f:Value->Value->Sem Value)(r:R2):Prop:=
 ∀(pins:List (Addr×Obj)) (s:Shared) (σ:St) (H:Hp) (x y:V) (v u:Value) (Q:VK),Inv X pins σ H s->RelV x v->RelV y u->r x y H Q->
  wpAny (model X.prog X.w) X.A (f v u) (EP X pins σ Q) X.xe s
def zR(X:Cx)(f:Value->Sem Value)(r:V->Hp->VK->Prop):Prop:=
 ∀(pins:List (Addr×Obj)) (s:Shared) (σ:St) (H:Hp) (x:V) (v:Value) (Q:VK),Inv X pins σ H s->RelV x v->r x H Q->
  wpAny (model X.prog X.w) X.A (f v) (EP X pins σ Q) X.xe s
def fH(X:Cx)(f:Value)(r:List V->Hp->VK->Prop):Prop:=
 ∀(pins:List (Addr×Obj)) (s:Shared) (σ:St) (H:Hp) (xs:List V) (us:List Value) (Q:VK),Inv X pins σ H s->Vals xs us->r xs H Q->
  wpAny (model X.prog X.w) X.A (call f us) (EP X pins σ Q) X.xe s
def Jk(X:Cx)(r:V->Hp->(Bool->Hp->Prop)->Prop):Prop:=
 ∀(pins:List (Addr×Obj)) (s:Shared) (σ:St) (H:Hp) (x:V) (v:Value) (Q:Bool->Hp->Prop),Inv X pins σ H s->RelV x v->r x H Q->
  wpAny (model X.prog X.w) X.A (truthy v) (TP X pins σ Q) X.xe s
def bV(r:R2)(ta tb:TE):TE:=fun σ H Q=>ta σ H fun x H1=>tb σ H1 fun y H2=>r x y H2 Q
def vX(r:V->Hp->VK->Prop)(ta:TE):TE:=fun σ H Q=>ta σ H fun x H1=>r x H1 Q
def rI(C:Int->Int->Prop)(g:Int->Int->V):R2:=fun x y H Q=>∃i j,x= .int i/\y= .int j/\C i j/\Q (g i j) H
def gm(g:Int->Int->V):R2:=fun x y H Q=>∃i j,x= .int i/\y= .int j/\Q (g i j) H
def rU(g:Int->V):V->Hp->VK->Prop:=fun x H Q=>∃i,x= .int i/\Q (g i) H
section
variable{X:Cx}{a b c:Expr}{ta tb tc:TE}{pos:Pos}
theorem uW(ha:PE X a ta)(hb:PE X b tb){pins:List (Addr×Obj)}{s:Shared}{σ:St}{H:Hp}{R:V->V->Hp->Prop}(I:Inv X pins σ H s)
  (h:ta σ H fun x H1=>tb σ H1 fun y H2=>R x y H2) {Q:Value->Shared->Prop} {f:Value->Value->Sem Value}
  (hf:∀v u s2 x y H2,Inv X pins σ H2 s2->RelV x v->RelV y u->R x y H2->wpAny (model X.prog X.w) X.A (f v u) Q X.xe s2):
  wpAny (model X.prog X.w) X.A (eval a X.env) (fun v s₁=>wpAny (model X.prog X.w) X.A (eval b X.env) (fun u s₂=>wpAny (model X.prog X.w) X.A (f v u) Q X.xe s₂) X.xe s₁) X.xe s:=by
 refine aP (ha pins s σ H _ I h) fun v s1 ⟨x,H1,I1,r1,q1⟩=>?_
 refine aP (hb pins s1 σ H1 _ I1 q1) fun u s2 ⟨y,H2,I2,r2,q2⟩=>?_
 exact hf v u s2 x y H2 I2 r1 r2 q2
theorem aA{op:Operator}{r:R2}(ho:cQ X (binaryOp op) r)(ha:PE X a ta)(hb:PE X b tb):PE X (.BinOp a op b pos) (bV r ta tb):=by
 intro pins s σ H Q I h
 exact wpAny_BinOp (uW ha hb I h fun v u s2 x y H2 I2 rx ry q=>ho pins s2 σ H2 x y v u Q I2 rx ry q)
theorem ly{op:UnaryOp}{r:V->Hp->VK->Prop}(ho:zR X (unaryOp op) r)(ha:PE X a ta):PE X (.UnaryOp op a pos) (vX r ta):=by
 intro pins s σ H Q I h
 exact UnaryOp_ (aP (ha pins s σ H _ I h) fun v s1 ⟨x,H1,I1,r1,q1⟩=>ho pins s1 σ H1 x v Q I1 r1 q1)
theorem qH{f:Value->Value->Sem Value}{C:Int->Int->Prop}{g:Int->Int->Int}
  (rule:∀(i j:Int) (t u:Tok) (s:Shared) (Q:Value->Shared->Prop) (E:Value->Shared->Prop),C i j->Q (.int (g i j) s.toks) {s with toks:=s.toks+1}->wpAny (model X.prog X.w) X.A (f (.int i t) (.int j u)) Q E s):
  cQ X f (rI C fun i j=> .int (g i j)):=by
 intro pins s σ H x y v u Q I rx ry h
 obtain⟨i,j,rfl,rfl,hc,q⟩:=h
 obtain⟨t,rfl⟩:=rx
 obtain⟨t',rfl⟩:=ry
 exact rule i j t t' s _ _ hc ⟨.int (g i j),H,I.tok _,⟨_,rfl⟩,q⟩
theorem B0{f:Value->Value->Sem Value}{g:Int->Int->Int}
  (rule:∀(i j:Int) (t u:Tok) (s:Shared) (Q:Value->Shared->Prop) (E:Value->Shared->Prop),Q (.int (g i j) s.toks) {s with toks:=s.toks+1}->wpAny (model X.prog X.w) X.A (f (.int i t) (.int j u)) Q E s):
  cQ X f (gm fun i j=> .int (g i j)):=by
 intro pins s σ H x y v u Q I rx ry h
 obtain⟨i,j,rfl,rfl,q⟩:=h
 obtain⟨t,rfl⟩:=rx
 obtain⟨t',rfl⟩:=ry
 exact rule i j t t' s _ _ ⟨.int (g i j),H,I.tok _,⟨_,rfl⟩,q⟩
theorem zh{f:Value->Value->Sem Value}{g:Int->Int->Bool}
  (rule:∀(i j:Int) (t u:Tok) (s:Shared) (Q:Value->Shared->Prop) (E:Value->Shared->Prop),Q (.bool (g i j)) s->wpAny (model X.prog X.w) X.A (f (.int i t) (.int j u)) Q E s):
  cQ X f (gm fun i j=> .bl (g i j)):=by
 intro pins s σ H x y v u Q I rx ry h
 obtain⟨i,j,rfl,rfl,q⟩:=h
 obtain⟨t,rfl⟩:=rx
 obtain⟨t',rfl⟩:=ry
 exact rule i j t t' s _ _ ⟨.bl (g i j),H,I,rfl,q⟩
def tW(i j:Int):Prop:=0<=j/\j<=1000000/\i.natAbs<2^64
def rT(i j:Int):Prop:=(-(2^64)<i/\i<2^64)\/(-(2^64)<j/\j<2^64)
theorem rT.ok{i j:Int}(h:rT i j):IntMulOk i j:=by
 rcases h with ⟨h1,h2⟩|⟨h1,h2⟩
 ·exact .of_left (intBits_le_64 h1 h2)
 ·exact .of_right (intBits_le_64 h1 h2)
theorem cJ:cQ X (binaryOp .Add) (gm fun i j=> .int (i+j)):=B0 fun _ _ _ _ _ _ _ q=>add_int q
theorem iD:cQ X (binaryOp .Sub) (gm fun i j=> .int (i-j)):=B0 fun _ _ _ _ _ _ _ q=>sub_int q
theorem dj:cQ X (binaryOp .Mod) (rI (fun _ j=>0<j) fun i j=> .int (i%j)):=qH fun i j _ _ _ _ _ hc q=>by
 have h1:(0:Int)<j:=hc
 exact mod_int' (by omega) (by rw[Int.fmod_eq_emod_of_nonneg i (by omega)];exact q)
theorem rV:cQ X (binaryOp .Pow) (rI tW fun i j=> .int (i^j.toNat)):=qH fun _ _ _ _ _ _ _ hc q=>pow_int_small hc.1 hc.2.1 hc.2.2 q
theorem Mh{f:Value->Sem Value}{g:Int->Int}
  (rule:∀(i:Int) (t:Tok) (s:Shared) (Q:Value->Shared->Prop) (E:Value->Shared->Prop),Q (.int (g i) s.toks) {s with toks:=s.toks+1}->wpAny (model X.prog X.w) X.A (f (.int i t)) Q E s):
  zR X f (rU fun i=> .int (g i)):=by
 intro pins s σ H x v Q I rx h
 obtain⟨i,rfl,q⟩:=h
 obtain⟨t,rfl⟩:=rx
 exact rule i t s _ _ ⟨.int (g i),H,I.tok _,⟨_,rfl⟩,q⟩
theorem kh:zR X (unaryOp .USub) (rU fun i=> .int (-i)):=Mh fun _ _ _ _ _ q=>neg_int q
end
def zF:V->V->Bool
 | .aN, .aN=>true| .aN, .int _=>true| .int _, .aN=>true| .aN, .bl _=>true| .bl _, .aN=>true| .aN, .str _=>true| .str _, .aN=>true
 | .int _, .int _=>true| .bl _, .bl _=>true| .str _, .str _=>true| .gH _, .gH _=>true
 | .int _, .str _=>true| .str _, .int _=>true| .bl _, .str _=>true| .str _, .bl _=>true
 |_,_=>false
def vq:R2:=fun x y H Q=>zF x y=true/\Q (.bl (decide (x=y))) H
def zS:R2:=fun x y H Q=>zF x y=true/\Q (.bl (!decide (x=y))) H
theorem CH{i j:Int}:decide (V.int i=V.int j)=(i==j):=by
 rw[Bool.eq_iff_iff]
 simp
theorem E7{i j:Bool}:decide (V.bl i=V.bl j)=(i==j):=by
 rw[Bool.eq_iff_iff]
 simp
theorem BE{i j:Str}:decide (V.str i=V.str j)=(i==j):=by
 rw[Bool.eq_iff_iff]
 simp
theorem ET{i j:Array UInt8}:decide (V.gH i=V.gH j)=(i.toList==j.toList):=by
 rw[Bool.eq_iff_iff]
 cases i
 cases j
 simp
section
variable{X:Cx}{a b c:Expr}{ta tb tc:TE}{pos:Pos}
theorem cA{pins:List (Addr×Obj)}{σ:St}{H:Hp}{s:Shared}{Q:VK}{k k':Bool}(I:Inv X pins σ H s)(q:Q (.bl k) H)(e:k=k'):EP X pins σ Q (.bool k') s:=by
 subst e
 exact⟨.bl k,H,I,rfl,q⟩
theorem bX:cQ X (compareOp .Eq) vq:=by
  intro pins s σ H x y v u Q I rx ry h
  obtain⟨hs,q⟩:=h
  cases x with
  | aN =>
    cases rx
    cases y with
    |aN=>cases ry;exact PySem.EqNone.eq_none_none (cA I q (by simp))
    |bl j=>cases ry;exact PySem.EqNone.eq_none_bool (cA I q (by simp))
    |int j=>obtain⟨t',rfl⟩:=ry;exact PySem.EqNone.eq_none_int (cA I q (by simp))
    |str j=>obtain⟨t',rfl⟩:=ry;exact PySem.EqNone.eq_none_str (cA I q (by simp))
    |_=>exact absurd (show false=true from hs) Bool.false_ne_true
  | bl i =>
    cases rx
    cases y with
    |aN=>cases ry;exact PySem.EqNone.eq_bool_none (cA I q (by simp))
    |bl j=>cases ry;exact eq_bool (cA I q E7)
    |str j=>obtain⟨t',rfl⟩:=ry;exact PySem.EqMixed.eq_bool_str (cA I q (by simp))
    |_=>exact absurd (show false=true from hs) Bool.false_ne_true
  | int i =>
    obtain⟨t,rfl⟩:=rx
    cases y with
    |aN=>cases ry;exact PySem.EqNone.eq_int_none (cA I q (by simp))
    |int j=>obtain⟨t',rfl⟩:=ry;exact eq_int (cA I q CH)
    |str j=>obtain⟨t',rfl⟩:=ry;exact PySem.EqMixed.eq_int_str (cA I q (by simp))
    |_=>exact absurd (show false=true from hs) Bool.false_ne_true
  | str i =>
    obtain⟨t,rfl⟩:=rx
    cases y with
    |aN=>cases ry;exact PySem.EqNone.eq_str_none (cA I q (by simp))
    |bl j=>cases ry;exact PySem.EqMixed.eq_str_bool (cA I q (by simp))
    |int j=>obtain⟨t',rfl⟩:=ry;exact PySem.EqMixed.eq_str_int (cA I q (by simp))
    |str j=>obtain⟨t',rfl⟩:=ry;exact eq_str (cA I q BE)
    |_=>exact absurd (show false=true from hs) Bool.false_ne_true
  | gH i =>
    obtain⟨t,rfl⟩:=rx
    cases y with
    |gH j=>obtain⟨t',rfl⟩:=ry;exact PySem.W.eq_bytes (cA I q ET)
    |_=>exact absurd (show false=true from hs) Bool.false_ne_true
  |_=>cases y<;>exact absurd (show false=true from hs) Bool.false_ne_true
theorem fL:cQ X (compareOp .NotEq) zS:=by
  intro pins s σ H x y v u Q I rx ry h
  obtain⟨hs,q⟩:=h
  cases x with
  | aN =>
    cases rx
    cases y with
    |aN=>cases ry;exact PySem.EqNone.ne_none_none (cA I q (by simp))
    |bl j=>cases ry;exact PySem.EqNone.ne_none_bool (cA I q (by simp))
    |int j=>obtain⟨t',rfl⟩:=ry;exact PySem.EqNone.ne_none_int (cA I q (by simp))
    |str j=>obtain⟨t',rfl⟩:=ry;exact PySem.EqNone.ne_none_str (cA I q (by simp))
    |_=>exact absurd (show false=true from hs) Bool.false_ne_true
  | bl i =>
    cases rx
    cases y with
    |aN=>cases ry;exact PySem.EqNone.ne_bool_none (cA I q (by simp))
    |bl j=>cases ry;exact ne_bool (cA I q (congrArg not E7))
    |str j=>obtain⟨t',rfl⟩:=ry;exact PySem.EqMixed.ne_bool_str (cA I q (by simp))
    |_=>exact absurd (show false=true from hs) Bool.false_ne_true
  | int i =>
    obtain⟨t,rfl⟩:=rx
    cases y with
    |aN=>cases ry;exact PySem.EqNone.ne_int_none (cA I q (by simp))
    |int j=>obtain⟨t',rfl⟩:=ry;exact ne_int (cA I q (congrArg not CH))
    |str j=>obtain⟨t',rfl⟩:=ry;exact PySem.EqMixed.ne_int_str (cA I q (by simp))
    |_=>exact absurd (show false=true from hs) Bool.false_ne_true
  | str i =>
    obtain⟨t,rfl⟩:=rx
    cases y with
    |aN=>cases ry;exact PySem.EqNone.ne_str_none (cA I q (by simp))
    |bl j=>cases ry;exact PySem.EqMixed.ne_str_bool (cA I q (by simp))
    |int j=>obtain⟨t',rfl⟩:=ry;exact PySem.EqMixed.ne_str_int (cA I q (by simp))
    |str j=>obtain⟨t',rfl⟩:=ry;exact ne_str (cA I q (congrArg not BE))
    |_=>exact absurd (show false=true from hs) Bool.false_ne_true
  | gH i =>
    obtain⟨t,rfl⟩:=rx
    cases y with
    |gH j=>obtain⟨t',rfl⟩:=ry;exact PySem.W.ne_bytes (cA I q (congrArg not ET))
    |_=>exact absurd (show false=true from hs) Bool.false_ne_true
  |_=>cases y<;>exact absurd (show false=true from hs) Bool.false_ne_true
theorem qc:cQ X (compareOp .Lt) (gm fun i j=> .bl (decide (i<j))):=zh fun _ _ _ _ _ _ _ q=>lt_int q
theorem BZ:cQ X (compareOp .LtE) (gm fun i j=> .bl (decide (i<=j))):=zh fun _ _ _ _ _ _ _ q=>le_int q
theorem Dn:cQ X (compareOp .Gt) (gm fun i j=> .bl (decide (j<i))):=zh fun _ _ _ _ _ _ _ q=>gt_int q
theorem Ju:cQ X (compareOp .Is) (fun x y H Q=>y= .aN/\Q (.bl (decide (x= .aN))) H):=by
 intro pins s σ H x y v u Q I rx ry h
 obtain⟨rfl,q⟩:=h
 cases ry
 refine is_none_gen (cA I q ?_)
 cases x<;>first
  |(cases rx;rfl)
  |(obtain⟨t,rfl⟩:=rx;rfl)
theorem HK:cQ X (compareOp .IsNot) (fun x y H Q=>y= .aN/\Q (.bl (!decide (x= .aN))) H):=by
 intro pins s σ H x y v u Q I rx ry h
 obtain⟨rfl,q⟩:=h
 cases ry
 refine isnot_none_gen (cA I q ?_)
 cases x<;>first
  |(cases rx;rfl)
  |(obtain⟨t,rfl⟩:=rx;rfl)
theorem aK(b:Expr){op:CmpOp}(h:op≠ .In:=by decide)(h2:op≠ .NotIn:=by decide):behindInMarks op b=false:=by
 have e1:(op==CmpOp.In)=false:=by cases op<;>first|rfl|exact absurd rfl h
 have e2:(op==CmpOp.NotIn)=false:=by cases op<;>first|rfl|exact absurd rfl h2
 cases b<;>simp[behindInMarks,e1,e2]
theorem eG{op:CmpOp}{r:R2}(ho:cQ X (compareOp op) r)(ha:PE X a ta)(hb:PE X b tb)(hm:behindInMarks op b=false):PE X (.Compare a [op] [b] pos) (bV r ta tb):=by
 intro pins s σ H Q I h
 exact wpAny_Compare1 (uW ha hb I h fun v u s2 x y H2 I2 rx ry q=>ho pins s2 σ H2 x y v u Q I2 rx ry q) hm
def uA(t:TE):TT:=fun σ H Q=>t σ H fun x H'=>∃k,x= .bl k/\Q k H'
theorem aS{op:CmpOp}{r:R2}(ho:cQ X (compareOp op) r)(ha:PE X a ta)(hb:PE X b tb)(hm:behindInMarks op b=false):PT X (.Compare a [op] [b] pos) (uA (bV r ta tb)):=by
 intro pins s σ H Q I h
 refine wpAny_isTrue_Compare1 (aP (ha pins s σ H _ I h) fun v s1 ⟨x,H1,I1,r1,q1⟩=>aP (hb pins s1 σ H1 _ I1 q1) fun u s2 ⟨y,H2,I2,r2,q2⟩=>
  aP (ho pins s2 σ H2 x y v u _ I2 r1 r2 q2) fun c s3 ⟨z,H3,I3,r3,k,e,q3⟩=>?_) hm
 subst e
 cases r3
 exact wpAny_truthy_bool ⟨H3,I3,q3⟩
def tD(K:PySem.W.Frag)(x:V)(H:Hp)(k:Bool):Prop:=
 match x with
 | .aN=>k=false
 | .bl b=>k=b
 | .int i=>k=(i !=0)
 | .str y=>y.length<=sizeLine/\k=((y.length:Int) !=0)
 | .gH y=>y.size<=sizeLine/\k=((y.size:Int) !=0)
 | .ref p=>(∃xs,aL K H p xs/\k=!xs.isEmpty)\/(∃xs,fJ K H p xs/\k=!xs.isEmpty)\/∃kvs,H p=some (.dK kvs)/\k=!kvs.isEmpty
 |_=>False
theorem Rn{κ:Type}{kvs:List (κ×V)}{vs:List (κ×Value)}(r:KV kvs vs):(!vs.isEmpty)=!kvs.isEmpty:=by
 cases r<;>rfl
theorem Fx{xs:List V}{its:List Value}(r:Vals xs its):(!its.toArray.isEmpty)=!xs.isEmpty:=by
 cases r<;>simp
theorem oM:(sizeLine:Nat)<2^63:=by rw[sizeLine_eq];decide
theorem IC:Jk X (fun x H Q=>∃k,tD X.K x H k/\Q k H):=by
  intro pins s σ H x v Q I rx h
  obtain⟨k,e,q⟩:=h
  have hl:=oM
  have hs:sizeLine=16777216:=sizeLine_eq
  cases x with
  | aN =>
    cases rx
    have e':k=false:=e
    subst e'
    exact truthy_none ⟨H,I,q⟩
  | bl b =>
    cases rx
    have e':k=b:=e
    subst e'
    exact wpAny_truthy_bool ⟨H,I,q⟩
  | int i =>
    obtain⟨t,rfl⟩:=rx
    have e':k=(i !=0):=e
    subst e'
    exact PySem.P.truthy_int ⟨H,I,q⟩
  | str y =>
    obtain⟨t,rfl⟩:=rx
    obtain⟨hy,e'⟩:y.length<=sizeLine/\k=((y.length:Int) !=0):=e
    subst e'
    exact PySem.P.truthy_str (by omega) ⟨H,I.tok _,q⟩
  | gH y =>
    obtain⟨t,rfl⟩:=rx
    obtain⟨hy,e'⟩:y.size<=sizeLine/\k=((y.size:Int) !=0):=e
    subst e'
    exact PySem.W.truthy_bytes (by omega) ⟨H,I.tok _,q⟩
  | ref p =>
    cases rx
    have e':(∃xs,aL X.K H p xs/\k=!xs.isEmpty)\/(∃xs,fJ X.K H p xs/\k=!xs.isEmpty)\/∃kvs,H p=some (.dK kvs)/\k=!kvs.isEmpty:=e
    rcases e' with ⟨xs,hx,e'⟩|⟨xs,hx,e'⟩|⟨kvs,hx,e'⟩
    · subst e'
      obtain⟨its,r,pl,hz⟩:=I.list hx
      have hlen:=r.length
      exact wpAny_truthy_list pl.isList (by simp only[List.size_toArray];omega) ⟨H,I.tok _,by rw[Fx r];exact q⟩
    · subst e'
      obtain⟨its,r,pl,hz⟩:=I.tuple hx
      have hlen:=r.length
      exact truthy_tuple pl (by simp only[List.size_toArray];omega) ⟨H,I.tok _,by rw[Fx r];exact q⟩
    · subst e'
      obtain⟨hz,hS,vs,r,m⟩:kvs.length<=sizeLine/\(p==sysModules)=false/\∃vs,KV kvs vs/\s.heap.DictOf (fq X.prog X.w) p vs:=I.hok p _ hx
      have hlen:kvs.length=vs.length:=Paired.length r
      exact wpAny_truthy_dict hS m (by omega) ⟨H,I.tok _,by rw[Rn r];exact q⟩
  |_=>exact(show False from e).elim
theorem OV(ha:PE X a ta)(he:∀whole,isTrue a X.env whole=(do let v<-whole;standAt a.pos;holding [v] (truthy v))):
  PT X a (fun σ H Q=>ta σ H fun x H'=>∃k,tD X.K x H' k/\Q k H'):=by
 intro pins s σ H Q I h
 exact isTrue_plain (aP (ha pins s σ H _ I h) fun v s1 ⟨x,H1,I1,r1,q1⟩=>IC pins s1 σ H1 x v Q I1 r1 q1) (he _)
theorem vals1{x:V}{us:List Value}(r:Vals [x] us):∃u,us=[u]/\RelV x u:=by
 cases r with
 |cons r1 r2=>cases r2;exact⟨_,rfl,r1⟩
theorem vals2{x y:V}{us:List Value}(r:Vals [x,y] us):∃u w',us=[u,w']/\RelV x u/\RelV y w':=by
  cases r with
  | cons r1 r2 =>
    cases r2 with
    |cons r3 r4=>cases r4;exact⟨_,_,rfl,r1,r3⟩
theorem Uh:fH X (.builtin "abs") (fun xs H Q=>∃i,xs=[.int i]/\Q (.int (if i<0 then-i else i)) H):=by
 intro pins s σ H xs us Q I r h
 obtain⟨i,rfl,q⟩:=h
 obtain⟨u,rfl,t,rfl⟩:=vals1 r
 exact call_abs_int fun u tk=>⟨.int (if i<0 then-i else i),H,I.tok _,⟨_,rfl⟩,q⟩
theorem KH(hc:X.calm=true):fH X (.builtin "min") (fun xs H Q=>∃i j,xs=[.int i, .int j]/\Q (.int (if j<i then j else i)) H):=by
 intro pins s σ H xs us Q I r h
 obtain⟨i,j,rfl,q⟩:=h
 obtain⟨u,w',rfl,⟨t,rfl⟩,⟨t',rfl⟩⟩:=vals2 r
 refine min_two_ints (I.ok.hd hc) fun h' tk k=>⟨_,H,I.kept k,?_,q⟩
 by_cases hj:j<i
 ·rw[if_pos hj,if_pos hj];exact⟨_,rfl⟩
 ·rw[if_neg hj,if_neg hj];exact⟨_,rfl⟩
theorem Kv:fH X (.type "int") (fun xs H Q=>(∃i,xs=[.int i]/\Q (.int i) H)\/∃k,xs=[.bl k]/\Q (.int (if k then 1 else 0)) H):=by
 intro pins s σ H xs us Q I r h
 rcases h with ⟨i,rfl,q⟩|⟨k,rfl,q⟩
 ·obtain⟨u,rfl,t,rfl⟩:=vals1 r
  exact call_int_int ⟨.int i,H,I,⟨_,rfl⟩,q⟩
 ·obtain⟨u,rfl,r1⟩:=vals1 r
  cases r1
  exact call_int_bool ⟨.int (if k then 1 else 0),H,I.tok _,⟨_,rfl⟩,q⟩
end
structure yQ(h:Heap)(x dx C:Addr)(mA:Str->Option Value):Prop where
 obj:h.get? x=some (PySem.W.instObj C dx)
 ns:h.Ns1 dx mA
 ne:dx≠x
theorem GK{h:Heap}{dx:Addr}{mA:Str->Option Value}(n:h.Ns1 dx mA):∃od,h.get? dx=some od/\∀name,PySem.W.lookIn name od=some (mA name):=by
 obtain⟨o,es,ep,ho,hd,hk,_,hm⟩:=n
 refine⟨o,ho,fun name=>?_⟩
 have e:=hm name
 unfold nsFind findBy at e
 rw[<-Array.find?_toList] at e
 unfold PySem.W.lookIn
 rw[hd]
 dsimp only
 split
 ·rename_i y q
  rw[q] at e
  exact congrArg some e
 ·rename_i q
  rw[q] at e
  have a:es.toList.any (·.refKey)=false:=by
   rw[List.any_eq_false]
   intro y hy
   obtain⟨z,t,hkey⟩:=hk y (Array.mem_toList_iff.mp hy)
   simp[DictEntry.refKey,hkey]
  have a':¬es.toList.any (·.refKey)=true:=by rw[a];exact Bool.false_ne_true
  rw[if_neg a']
  exact congrArg some e
theorem yQ.look{h:Heap}{x dx C:Addr}{mA:Str->Option Value}(I:yQ h x dx C mA):∃od,PySem.W.InstAt h x (PySem.W.instObj C dx) C (some od)/\∀name,PySem.W.lookIn name od=some (mA name):=
 let ⟨od,ho,hl⟩:=GK I.ns
 ⟨od,⟨I.obj,rfl,rfl,ho⟩,hl⟩
theorem iI.some_of{v:V}{o:Option Value}(r:iI (some v) o):∃u,o=some u/\RelV v u:=by
 cases o with
 |none=>exact(show False from r).elim
 |some u=>exact⟨u,rfl,r⟩
section
variable{P:Program}{w:World}{H H':Hp}{h h':Heap}{a C dx:Addr}{fs fs':List (Str×V)}
theorem Qw(hok:cI P w H h)(e:H a=some (.ins C dx fs)):∃mA,yQ h a dx C mA/\(∀f,iI (fs.lookup f) (mA f))/\PySem.Within mA (fs.map (·.1))/\fs.length<=1000/\H dx=some (.own a):=by
 obtain⟨d,z,ne,ob,mA,n,r,q⟩:=(show bW P w H h a (.ins C dx fs) from hok a _ e)
 exact⟨mA,⟨ob,n,ne⟩,r,q,z,d⟩
end
structure vp(K:PySem.W.Frag)(C:Addr):Prop where
 pg:PySem.W.plainGet K C Str.empty=true
 hd:PySem.W.hasDictIn K C=true
 po:PySem.W.plainOver K C=true
 sa:PySem.W.findIn K (.ref C) "__setattr__"=some (some (.builtin "object.__setattr__"))
theorem vp.get{K:PySem.W.Frag}{C:Addr}(c:vp K C)(f:Str):PySem.W.plainGet K C f=true:=c.pg
section
variable{X:Cx}{pins:List (Addr×Obj)}{σ:St}{H:Hp}{s:Shared}{A:Around}{E:Value->Shared->Prop}{Q:Value->Shared->Prop}{c:Value}{b:Bool}
inductive fV(K:PySem.W.Frag)(H:Hp):V->Value->Prop where
 |aN:fV K H .aN (.type "NoneType")
 |bl (x:Bool):fV K H (.bl x) (.type "bool")
 |int (i:Int):fV K H (.int i) (.type "int")
 |str (x:Str):fV K H (.str x) (.type "str")
 |jd (x:UInt64):fV K H (.jd x) (.type "float")
 |lst {a:Addr} {xs:List V} (e:H a=some (.lst xs)):fV K H (.ref a) (.type "list")
 |bF {a:Addr} {o:Obj} {xs:List V} (e:H a=some (.bF o (.lst xs))):fV K H (.ref a) (.type "list")
 |tup {a:Addr} {xs:List V} (e:H a=some (.tup xs)):fV K H (.ref a) (.type "tuple")
 |dK {a:Addr} {kvs:List (Key×V)} (e:H a=some (.dK kvs)):fV K H (.ref a) (.type "dict")
 |dT {a:Addr} {kvs:List (List Key×V)} (e:H a=some (.dT kvs)):fV K H (.ref a) (.type "dict")
 |Bq {a:Addr} {o:Obj} {kvs:List (Key×V)} (e:H a=some (.bF o (.dK kvs))):fV K H (.ref a) (.type "dict")
 | ins {a C dx : Addr} {fs : List (Str × V)} (e : H a = some (.ins C dx fs)) (cl : vp K C) (ha : PySem.W.findIn K (.ref C) "__class__" = some (some (.builtin "object.__class__")))
   (hn:PySem.W.specialIn K (.builtin "object.__class__") "__get__"=some (some (.builtin "getset_descriptor.__get__"))) (htk:PySem.W.takesIn K (.builtin "object.__class__")=some true)
   (hm:PySem.W.mroIn K C (.type "object")=some true):fV K H (.ref a) (.ref C)
theorem Tn{x:V}{u t:Value}(I:Inv X pins σ H s)(rx:RelV x u)(ty:fV X.K H x t)(e:PySem.W.kitOne X.K t c=some b)(h:∀tk,Q (.bool b) {s with toks:=tk}):
    wpAny (model X.prog X.w) A (call (.builtin "isinstance") [u,c]) Q E s:=by
  cases ty with
  |aN=>cases (show u=Value.none from rx);exact PySem.W.kia_one PySem.W.kitx_none I.eZ True.intro e (fun z=>nomatch z) h
  |bl y=>cases (show u=Value.bool y from rx);exact PySem.W.kia_one PySem.W.kitx_bool I.eZ True.intro e (fun z=>nomatch z) h
  |int i=>obtain⟨t,q⟩:=(show∃t,u=Value.int i t from rx);cases q;exact PySem.W.kia_one PySem.W.kitx_int I.eZ True.intro e (fun z=>nomatch z) h
  |str y=>obtain⟨t,q⟩:=(show∃t,u=Value.str y t from rx);cases q;exact PySem.W.kia_one PySem.W.kitx_str I.eZ True.intro e (fun z=>nomatch z) h
  |jd y=>obtain⟨t,q⟩:=(show∃t,u=Value.float y t from rx);cases q;exact PySem.W.kia_one PySem.W.kitx_float I.eZ True.intro e (fun z=>nomatch z) h
  | @lst a xs ea =>
    cases (show u=Value.ref a from rx)
    obtain⟨_,_,n,_,h1⟩:=(show bW X.prog X.w H s.heap a (.lst xs) from I.hok a _ ea)
    exact PySem.W.kia_one PySem.W.kitx_list I.eZ ⟨_,h1,rfl⟩ e (fun z=>nomatch z) h
  | @bF a ob xs ea =>
    cases (show u=Value.ref a from rx)
    obtain⟨_,_,_,n,_,h1⟩:=(show bW X.prog X.w H s.heap a (.bF ob (.lst xs)) from I.hok a _ ea)
    exact PySem.W.kia_one PySem.W.kitx_list I.eZ ⟨_,h1,rfl⟩ e (fun z=>nomatch z) h
  | @tup a xs ea =>
    cases (show u=Value.ref a from rx)
    obtain⟨_,_,_,p⟩:=(show bW X.prog X.w H s.heap a (.tup xs) from I.hok a _ ea)
    obtain⟨o,h1,h2,_⟩:=p
    exact PySem.W.kia_one PySem.W.kitx_tuple I.eZ ⟨o,h1,h2⟩ e (fun z=>nomatch z) h
  | @dK a kvs ea =>
    cases (show u=Value.ref a from rx)
    obtain⟨_,_,vs,_,p⟩:=(show bW X.prog X.w H s.heap a (.dK kvs) from I.hok a _ ea)
    obtain⟨o,es,ep,h1,h2,_⟩:=p
    exact PySem.W.kia_one PySem.W.kitx_dict I.eZ ⟨o,h1,h2.1⟩ e (fun z=>nomatch z) h
  | @dT a kvs ea =>
    cases (show u=Value.ref a from rx)
    obtain⟨_,_,xs,_,o,es,ep,h1,h2,_⟩:=(show bW X.prog X.w H s.heap a (.dT kvs) from I.hok a _ ea)
    exact PySem.W.kia_one PySem.W.kitx_dict I.eZ ⟨o,h1,h2.1⟩ e (fun z=>nomatch z) h
  | @Bq a ob kvs ea =>
    cases (show u=Value.ref a from rx)
    obtain⟨_,_,_,vs,_,o,es,ep,h1,h2,_⟩:=I.hok a _ ea
    exact PySem.W.kia_one PySem.W.kitx_dict I.eZ ⟨o,h1,h2.1⟩ e (fun z=>nomatch z) h
  | @ins a C dx fs ea cl ha hn htk hm =>
    cases (show u=Value.ref a from rx)
    obtain⟨mA,O,_⟩:=Qw I.hok ea
    obtain⟨od,J,_⟩:=O.look
    exact PySem.W.kia_one (PySem.W.kitx_own (cl.get _) cl.hd ha hn htk hm) I.eZ J e (fun z=>nomatch z) h
end
structure eV(k:Nat)(A:Around):Prop where
 hd:A.handled=none
 dp:A.depth+3*k+5<recursionLimit
 un:A.units+16*k+200<cLine
theorem eV.mono{j k:Nat}{A:Around}(r:eV k A)(h:j<=k):eV j A:=⟨r.hd,by have:=r.dp;omega,by have:=r.un;omega⟩
theorem eV.deeper{k:Nat}{A:Around}(r:eV (k+1) A)(env:Env):eV k (A.deeper env):=
 ⟨r.hd,by have:=r.dp;show A.depth+1+3*k+5<_;omega,by have:=r.un;show A.units+3+16*k+200<_;omega⟩
theorem eV.depth{k:Nat}{A:Around}(r:eV k A):A.depth<recursionLimit:=by have:=r.dp;omega
theorem eV.units{k:Nat}{A:Around}(r:eV k A):A.units+64<cLine:=by have:=r.un;omega
def cT:TA:=fun _ H Q=>Q [] H
def ck(ta:TE)(tr:TA):TA:=fun σ H Q=>ta σ H fun x H1=>tr σ H1 fun xs H2=>Q (x::xs) H2
section
variable{X:Cx}{e:Expr}{es:List Expr}{te:TE}{t:TA}{pos:Pos}
theorem ak:PA X [] cT:=fun _ _ _ _ H Q I h=>Calls.spliced_nil ⟨[],H,I, .nil,h⟩
theorem aa(ha:PE X e te)(hr:PA X es t)(hs:starEach (e::es) X.env=(false,eval e X.env)::starEach es X.env:=by rfl):PA X (e::es) (ck te t):=by
 intro pos pins s σ H Q I h
 rw[hs]
 show wpAny _ _ (spliced ((false,eval e X.env)::backTo pos (starEach es X.env))) _ _ s
 refine Calls.spliced_cons (aP (ha pins s σ H _ I h) fun u s1 ⟨x,H1,I1,r1,q1⟩=>?_)
 exact aP (hr pos pins s1 σ H1 _ I1 q1) fun us s2 ⟨xs,H2,I2,r2,q2⟩=>⟨x::xs,H2,I2, .cons r1 r2,q2⟩
def rD(t:TA):TE:=fun σ H Q=>t σ H fun xs H1=>xs.length<=sizeLine/\∀p,H1 p=none->Q (.ref p) (upd H1 p (.tup xs))
def lG(t:TA):TE:=fun σ H Q=>t σ H fun xs H1=>xs.length<=sizeLine/\∀p,H1 p=none->Q (.ref p) (upd H1 p (.lst xs))
theorem gR{x1}(h:PA X es t):PE X (.Tuple es x1 pos) (rD t):=by
 intro pins s σ H Q I hq
 refine wpAny_Tuple_spliced (aP (h pos pins s σ H _ I hq) fun us s1 ⟨xs,H1,I1,r,z,q⟩=>⟨by rw[<-r.length];exact z,?_⟩)
 have hf:H1 s1.heap.objs.size=none:=I1.hok.fresh (Nat.le_refl _)
 refine⟨.ref s1.heap.objs.size,upd H1 s1.heap.objs.size (.tup xs),I1.laid (t':=s1.toks) (fun b u e=>Heap.get?_push_of_some _ e) (Nat.le_refl _) ?_,rfl,q _ hf⟩
 exact⟨z,us,r,⟨_,Heap.get?_push_size _ rfl,rfl,_,rfl⟩⟩
theorem dR(h:PA X es t):PE X (.List es pos) (lG t):=by
 intro pins s σ H Q I hq
 refine wpAny_List_spliced (aP (h pos pins s σ H _ I hq) fun us s1 ⟨xs,H1,I1,r,z,q⟩=>⟨by rw[<-r.length];exact z,?_⟩)
 have hf:H1 s1.heap.objs.size=none:=I1.hok.fresh (Nat.le_refl _)
 refine⟨.ref s1.heap.objs.size,upd H1 s1.heap.objs.size (.lst xs),I1.laid (t':=s1.toks) (fun b u e=>Heap.get?_push_of_some _ e) (Nat.le_refl _) ?_,rfl,q _ hf⟩
 exact⟨z,us,0,r,Heap.get?_push_size _ rfl⟩
end
abbrev Sp:=List V->Hp->VK->XK->Prop
abbrev iO:=List Env->Hp->Shared->XK->Value->Shared->Prop
structure qT(P:Program)(w:World)(K:PySem.W.Frag)(mg:Str->Option Value)(base:Heap)(A:Around)(outer:List Env)(s:Shared)(H:Hp):Prop where
 frames:A.frames=some outer
 mod:Mod K mg base
 bs:∀b o,base.get? b=some o->s.heap.get? b=some o/\H b=none
 ko:base.objs.size<=s.heap.objs.size
 iC:s.heap.FunFrames base outer
 mS:∀b∈frs outer,H b=none
 hok:cI P w H s.heap
 bare:AllBare s.gens
def CE(outer:List Env)(P:Program)(w:World)(H:Hp)(s:Shared)(Q:VK)(u:Value)(s':Shared):Prop:=
 ∃v H',s'.os=s.os/\AllBare s'.gens/\Un (frs outer) [] H H' s.heap s'.heap/\cI P w H' s'.heap/\RelV v u/\Q v H'
def CR(CX:iO)(outer:List Env)(P:Program)(w:World)(H:Hp)(s:Shared)(Q:VK)(E:XK)(r:Result)(s':Shared):Prop:=
 match r with
 | .ok (.ret u)=>CE outer P w H s Q u s'
 | .ok _=>False
 | .error e=>CX outer H s E e s'
structure bx(P:Program)(w:World)(K:PySem.W.Frag)(mg:Str->Option Value)(base:Heap)(CX:iO)(k:Nat)(f:Addr)(fd:FuncData)(ps:List Str)(sp:Sp):Prop where
 len:∀vs H Q E,sp vs H Q E->vs.length=ps.length
 run:∀(A:Around) (outer:List Env) (s:Shared) (H:Hp) (args:Args) (us:List Value) (vs:List V) (Q:VK) (E:XK),eV k A->qT P w K mg base A outer s H->BindsTo s fd args (ps.zip us)->Vals vs us->sp vs H Q E->
  codeAny (model P w) A (.call (.ref f) args) (CR CX outer P w H s Q E) s
section
variable{X:Cx}{pins:List (Addr×Obj)}{σ:St}{H:Hp}{s s':Shared}
theorem Inv.RB(I:Inv X pins σ H s):qT X.prog X.w X.K X.mg X.base X.A X.stack s H:=
 ⟨I.ok.frames,I.ok.mod,I.bs,Nat.le_trans I.ok.ko I.sz,I.stack,I.ER,I.hok,I.bare⟩
theorem Inv.after{Q:VK}{u:Value}(I:Inv X pins σ H s)(h:CE X.stack X.prog X.w H s Q u s'):EP X pins σ Q u s':=by
 obtain⟨v,H',os,bare,un,hok,r,q⟩:=h
 obtain⟨hh,g,d,t,os'⟩:=s'
 obtain rfl:os'=s.os:=os
 exact⟨v,H',I.call (h':=hh) (g':=g) (d':=d) (t':=t) (ch:=[]) un hok bare (fun b z=>absurd z (by simp)),r,q⟩
end
def fW(sp:Sp)(jW:List V)(E:XK)(t:TA):TE:=fun σ H Q=>t σ H fun vs H1=>sp (vs++jW) H1 Q E
def Binds(K:PySem.W.Frag)(fd:FuncData)(ps:List Str)(ds:List Value):Prop:=
 ∀(s:Shared) (us:List Value),K.In s.heap->(us++ds).length=ps.length->BindsTo s fd ⟨us,[]⟩ (ps.zip (us++ds))
theorem Binds.all{K:PySem.W.Frag}{fd:FuncData}{ps:List Str}(h:∀us:List Value,us.length=ps.length->bindArgs fd ⟨us,[]⟩=pure (ps.zip us)):Binds K fd ps []:=fun s us _ hl=>by
 rw[List.append_nil] at hl⊢
 exact .of_eq (h us hl)
def Passes(CX:iO)(X:Cx)(E:XK):Prop:=∀(pins:List (Addr×Obj)) (σ:St) (H:Hp) (s:Shared) (e:Value) (s':Shared),Inv X pins σ H s->CX X.stack H s E e s'->X.xe e s'
section
variable{X:Cx}{CX:iO}{k:Nat}{f C:Addr}{fd:FuncData}{ps:List Str}{sp:Sp}{jW:List V}{ds:List Value}{E:XK}{x m:Str}{p pos apos:Pos}{e o:Expr}{es:List Expr}{ta:TE}{t:TA}
theorem RU{pins:List (Addr×Obj)}{σ:St}{H:Hp}{s:Shared}{Q:VK}{us:List Value}{vs:List V}(F:bx X.prog X.w X.K X.mg X.base CX k f fd ps sp)(hr:eV k X.A)(hb:Binds X.K fd ps ds)(hd:Vals jW ds)(hx:Passes CX X E)
    (I:Inv X pins σ H s) (r:Vals vs us) (h:sp (vs++jW) H Q E):wpAny (model X.prog X.w) X.A (call (.ref f) us) (EP X pins σ Q) X.xe s:=by
  have r2:Vals (vs++jW) (us++ds):=r.append hd
  have hl:(us++ds).length=ps.length:=by rw[<-r2.length];exact F.len _ _ _ _ h
  refine wpAny_call (codeAny_mono (F.run X.A X.stack s H ⟨us,[]⟩ (us++ds) (vs++jW) Q E hr I.RB (hb s us I.eZ hl) r2 h) fun r s' hq=>?_)
  cases r with
  |error e=>exact hx pins σ H s e s' I hq
  | ok fl =>
    cases fl with
    |ret u=>exact I.after hq
    |next=>exact False.elim hq
    |brk=>exact False.elim hq
    |cont=>exact False.elim hq
theorem Gy(F:bx X.prog X.w X.K X.mg X.base CX k f fd ps sp)(hr:eV k X.A)(hg:Gl X x)(hm:X.mg x=some (.ref f))(hk:PySem.W.keepIn X.K (.ref f)=true)(hb:Binds X.K fd ps ds)(hd:Vals jW ds)(hx:Passes CX X E)
  (ha:PA X (e::es) t) (hdb:(x==("__debug__":Str))=false:=by decide) (he:starEach (e::es) X.env=(false,eval e X.env)::starEach es X.env:=by rfl) (hpl:(backTo pos (starEach es X.env)).any (·.1)=false:=by rfl):
  PE X (.Call (.Name x p) (e::es) [] pos) (fW sp jW E t):=by
 intro pins s σ H Q I h
 refine wpAny_Call_Name_kw (UT I hg hm ?_ hdb)
 refine PySem.W.callWith_K (h₀:=X.base) I.ok.mod.yq hk (aP (ha pos pins s σ H _ I h) fun us s1 ⟨vs,H1,I1,r,q⟩=>⟨I1.eZ,?_⟩) he hpl
 exact RU F hr hb hd hx I1 r q
end
structure bL(N P:List Str)(sc:Scope):Prop where
 kind:sc.kind= .function
 co:sc.isCoroutine=false
 gen:sc.isGenerator=false
 nd:N.Nodup
 pre:N.take P.length=P
 par:∀x∈P,sc.names.lookup x=some .local\/sc.names.lookup x=some .cell
 Ri:∀y∈sc.names,y.2≠ .free
theorem Gj{kindOf:Str->Option NameKind}{x:Str}:∀{binds:List (Str×Value)} {m:Str->Option Value},(∀v,(x,v)∉binds)->bindL kindOf binds m x=m x
  |[],_,_=>rfl
  | (n, v) :: r, m, h => by
    unfold bindL
    rw[Gj fun w hw=>h w (List.mem_cons_of_mem _ hw)]
    split
    · have:x≠n:=by rintro rfl;exact h v List.mem_cons_self
      simp[this]
    · rfl
theorem EV{kindOf:Str->Option NameKind}{x:Str}:∀{binds:List (Str×Value)} {m:Str->Option Value},(∀v,(x,v)∉binds)->bindC kindOf binds m x=m x
  |[],_,_=>rfl
  | (n, v) :: r, m, h => by
    unfold bindC
    rw[EV fun w hw=>h w (List.mem_cons_of_mem _ hw)]
    split
    · rfl
    · have:x≠n:=by rintro rfl;exact h v List.mem_cons_self
      simp[this]
theorem Az{kindOf:Str->Option NameKind}{x:Str}{v:Value}:∀{P:List Str} {vs:List Value} {i:Nat} {m:Str->Option Value},P.Nodup->P[i]?=some x->vs[i]?=some v->kindOf x=some .local->
    bindL kindOf (P.zip vs) m x=some v
  |[],_,_,_,_,h,_,_=>by simp at h
  |_::_,[],_,_,_,_,h,_=>by simp at h
  | p :: P, w :: vs, 0, m, nd, h1, h2, hk => by
    simp at h1 h2;subst h1;subst h2
    show bindL kindOf ((p,w)::P.zip vs) m p=_
    unfold bindL
    rw[Gj fun v hv=>(List.nodup_cons.mp nd).1 (List.of_mem_zip hv).1,if_pos hk]
    simp
  | p :: P, w :: vs, i + 1, m, nd, h1, h2, hk => by
    show bindL kindOf ((p,w)::P.zip vs) m x=_
    unfold bindL
    exact Az (i:=i) (List.nodup_cons.mp nd).2 (by simpa using h1) (by simpa using h2) hk
theorem B4{kindOf:Str->Option NameKind}{x:Str}{v:Value}:∀{P:List Str} {vs:List Value} {i:Nat} {m:Str->Option Value},P.Nodup->P[i]?=some x->vs[i]?=some v->kindOf x≠some .local->
    bindC kindOf (P.zip vs) m x=some v
  |[],_,_,_,_,h,_,_=>by simp at h
  |_::_,[],_,_,_,_,h,_=>by simp at h
  | p :: P, w :: vs, 0, m, nd, h1, h2, hk => by
    simp at h1 h2;subst h1;subst h2
    show bindC kindOf ((p,w)::P.zip vs) m p=_
    unfold bindC
    rw[EV fun v hv=>(List.nodup_cons.mp nd).1 (List.of_mem_zip hv).1,if_neg hk]
    simp
  | p :: P, w :: vs, i + 1, m, nd, h1, h2, hk => by
    show bindC kindOf ((p,w)::P.zip vs) m x=_
    unfold bindC
    exact B4 (i:=i) (List.nodup_cons.mp nd).2 (by simpa using h1) (by simpa using h2) hk
def start(N:List Str)(vs:List V):St:=vs.map some++List.replicate (N.length-vs.length) none
def lP(CX:iO)(P:Program)(w:World)(K:PySem.W.Frag)(mg:Str->Option Value)(base:Heap)(N:List Str)(qual:Str)(scope:Scope)(f:Addr)(cd:Value)(A:Around)(outer:List Env)(s:Shared)(H:Hp)(E:XK):Cx where
 prog:=P
 w:=w
 K:=K
 mg:=mg
 base:=base
 A:=A.deeper (envOfC qual scope s.heap.objs.size f cd)
 N:=N
 s₀:=s
 H₀:=H
 env:=envOfC qual scope s.heap.objs.size f cd
 outer:=outer
 stack:=envOfC qual scope s.heap.objs.size f cd::outer
 ex:=[]
 calm:=true
 fn:=fun _=>true
 pn:=[]
 xe:=fun e s'=>wpAny (model P w) (A.deeper (envOfC qual scope s.heap.objs.size f cd)) (leaving (envOfC qual scope s.heap.objs.size f cd) e) (fun _ s''=>CX outer H s E e s'') (fun e' s''=>CX outer H s E e' s'') s'
theorem DI{sc:Scope}{n:Nat}{x:Str}(h:sc.names.lookup x=some .cell):∃c,(cellsFrom n sc.names []).lookup x=some c:=by
 have q:=PySem.W.cellsFrom_some sc.names n [] (.inl h)
 exact Option.isSome_iff_exists.mp q
theorem VL{CX:iO}{P:Program}{w:World}{K:PySem.W.Frag}{mg:Str->Option Value}{base:Heap}{N ps:List Str}{qual:Str}{scope:Scope}{f:Addr}{cd:Value}{A:Around}{outer:List Env}{s s1:Shared}{H:Hp}{E:XK}{us:List Value}{vs:List V}
  (S:bL N ps scope) (hd:A.handled=none) (e0:qT P w K mg base A outer s H) (hl:vs.length=ps.length) (r:Vals vs us)
  (x:InCallC s s.heap.objs.size (bindL (envOfC qual scope s.heap.objs.size f cd).kindOf (ps.zip us) fun _=>none) (cellsFrom (s.heap.objs.size+1) scope.names []) (bindC (envOfC qual scope s.heap.objs.size f cd).kindOf (ps.zip us) fun _=>none) s1):
  Inv (lP CX P w K mg base N qual scope f cd A outer s H E) [] (start N vs) H s1:=by
 have hpl:ps.length<=N.length:=by have:=congrArg List.length S.pre;rw[List.length_take] at this;omega
 obtain⟨h1,tk,rfl,hk⟩:=x.done
 have oJ:∀b:Addr,b∉(lP CX P w K mg base N qual scope f cd A outer s H E).ex:=fun b z=>absurd (show b∈([]:List Addr) from z) (by simp)
 refine⟨⟨e0.mod,S.kind,rfl,rfl,Nat.le_refl _,fun y z c h1 h2=>?_,fun y hy=>?_,fun y c _ h=>?_,fun _=>hd,Around.frames_deeper e0.frames, .inr ⟨rfl,rfl⟩,fun b z=>absurd z (oJ b),e0.bs,e0.ko,fun b _ _=>oJ b,fun b z=>absurd z (oJ b),e0.iC,e0.mS⟩,
  rfl,e0.bare,Un.kept hk,⟨_,x.toInCall.ns,fun i y v h1 h2 h3=>?_⟩,fun y c h=>⟨_,x.cell y c h⟩,e0.hok.fresh (Nat.le_refl _),fun y c h=>?_,fun p hp=>absurd (show p∈([]:List (Addr×Obj)) from hp) (by simp),e0.hok.kept hk,?_⟩
 ·exact name_of_addr x.apart (PySem.mem_of_lookup h1) (PySem.mem_of_lookup h2)
 ·have hy:scope.names.lookup y=some .cell\/scope.names.lookup y=some .free:=hy
  rcases hy with hy|hy
  ·exact DI hy
  ·exact absurd rfl (S.Ri _ (PySem.mem_of_lookup hy))
 ·exact Nat.le_of_lt (x.above y c (PySem.mem_of_lookup h))
 ·have hi:i<vs.length:=by
   unfold start at h2
   by_cases hi:i<vs.length
   ·exact hi
   ·rw[List.getElem?_append_right (by simpa using hi)] at h2
    rw[List.getElem?_replicate] at h2
    split at h2<;>cases h2
  have ha:vs[i]?=some v:=by
   unfold start at h2
   rw[List.getElem?_append_left (by simpa using hi),List.getElem?_map] at h2
   cases e:vs[i]? with
   |none=>rw[e] at h2;cases h2
   |some a=>rw[e] at h2;cases h2;rfl
  obtain⟨u,hu,rv⟩:=r.get ha
  have hp:ps[i]?=some y:=by
   rw[<-S.pre,List.getElem?_take_of_lt (by omega)];exact h1
  have DZ:ps.Nodup:=by rw[<-S.pre];exact S.nd.sublist (List.take_sublist _ _)
  refine⟨u,rv,?_⟩
  rcases S.par y (List.mem_of_getElem? hp) with k|k
  ·exact .inl ⟨k,Az DZ hp hu k⟩
  ·obtain⟨c,e⟩:=DI (n:=s.heap.objs.size+1) k
   refine .inr ⟨.inl k,c,e,?_⟩
   have q:=x.cell y c e
   rw[B4 DZ hp hu (by show scope.names.lookup y≠_;rw[k];decide)] at q
   exact q
 ·exact e0.hok.fresh (Nat.le_of_lt (x.above y c (PySem.mem_of_lookup h)))
 ·unfold start
  show _=N.length
  rw[List.length_append,List.length_map,List.length_replicate]
  omega
theorem JU{CX:iO}{P:Program}{w:World}{K:PySem.W.Frag}{mg:Str->Option Value}{base:Heap}{k:Nat}{f:Addr}{name qual:Str}{params:Arguments}{body:List Stmt}{scope:Scope}{dV kV doc pm cdv ct oc:Value}{an od:Option Addr}
    {osl:Array (Option Value)} {N ps:List Str} {sp:Sp} (lk:K.lookup f=some ⟨oc,od, .func (PySem.W.fnOf name qual params body scope dV kV doc pm an cdv ct),osl⟩) (hcd:PySem.W.codeIn K cdv qual=true) (S:bL N ps scope)
    (len:∀vs H Q E,sp vs H Q E->vs.length=ps.length)
    (hbody:∀(A:Around) (outer:List Env) (s:Shared) (H:Hp) (vs:List V) (Q:VK) (E:XK),eV k (A.deeper (envOfC qual scope s.heap.objs.size f cdv))->sp vs H Q E->
      ∃t,gU (lP CX P w K mg base N qual scope f cdv A outer s H E) body t/\t {nx:=fun _ H'=>Q .aN H',rt:=Q} (start N vs) H):
    bx P w K mg base CX (k+1) f (PySem.W.fnOf name qual params body scope dV kV doc pm an cdv ct) ps sp:=by
  refine⟨len,fun A outer s H args us vs Q E hr e0 hb r kc=>?_⟩
  have hl:=len _ _ _ _ kc
  have KX:K.In s.heap:=e0.mod.yq.keeps fun b o e=>(e0.bs b o e).1
  have lim:s.heap.NoLimit:=e0.mod.nolimit.keeps fun b o e=>(e0.bs b o e).1
  have hkind:∀y∈ps.zip us,scope.names.lookup y.1=some .local\/(scope.names.lookup y.1=some .cell/\((cellsFrom (s.heap.objs.size+1) scope.names []).lookup y.1).isSome=true):=fun⟨n,v⟩ hy=>by
    rcases S.par n (List.of_mem_zip hy).1 with q|q
    · exact .inl q
    · exact .inr ⟨q,PySem.W.cellsFrom_some _ _ _ (.inl q)⟩
  refine codeAny_call_function hr.depth (KX _ _ lk) rfl S.co S.gen rfl (PySem.W.codeRec_of KX hcd) (hb _ _ _ _ ?_)
  refine wpAny_newFunctionEnv_cells S.kind hkind fun env he s1 x=>?_
  subst he
  refine⟨lim.keeps x.toInCall.keep,codeAny_func ?_⟩
  obtain⟨t,ht,hq⟩:=hbody A outer s H vs Q E (hr.deeper _) kc
  have I:Inv (lP CX P w K mg base N qual scope f cdv A outer s H E) [] (start N vs) H s1:=VL S hr.hd e0 hl r x
  refine wpAny_mono (ht [] s1 (start N vs) H _ I hq) (fun fl s' hs=>?_) fun e s' hs=>hs
  have fin:∀{σ':St} {H':Hp} {v:V} {u:Value},Inv (lP CX P w K mg base N qual scope f cdv A outer s H E) [] σ' H' s'->RelV v u->Q v H'->CE outer P w H s Q u s':=
    fun{σ' H' v u} J rv q=>⟨v,H',J.os,J.bare,J.base,J.hok,rv,q⟩
  cases fl with
  | ret u =>
    obtain⟨v,σ',H',J,rv,q⟩:=hs
    exact fin J rv q
  | next =>
    obtain⟨σ',H',J,q⟩:=hs
    exact fin (v:=V.aN) (u:=Value.none) J rfl q
  | brk =>
    obtain⟨_,_,_,q⟩:=hs
    exact False.elim q
  | cont =>
    obtain⟨_,_,_,q⟩:=hs
    exact False.elim q
section
variable{X:Cx}{x:Str}{p pos:Pos}{e:Expr}{es:List Expr}{t:TA}{id T:String}{r:List V->Hp->VK->Prop}
def gf(r:List V->Hp->VK->Prop)(t:TA):TE:=fun σ H Q=>t σ H fun vs H1=>r vs H1 Q
theorem cy(hc:fH X (.builtin id) r)(hg:Gl X x)(hm:X.mg x=none)(hv:bootBuiltins x=some (.builtin id))(ha:PA X (e::es) t)(hn:x≠"__name__":=by decide)(hdb:(x==("__debug__":Str))=false:=by decide)
  (he:starEach (e::es) X.env=(false,eval e X.env)::starEach es X.env:=by rfl) (hpl:(backTo pos (starEach es X.env)).any (·.1)=false:=by rfl):PE X (.Call (.Name x p) (e::es) [] pos) (gf r t):=by
 intro pins s σ H Q I h
 refine wpAny_Call_Name_kw (jw I hg hm hv ?_ hn hdb)
 exact PyProof.Rows.callWith_builtin1 (aP (ha pos pins s σ H _ I h) fun us s1 ⟨vs,H1,I1,r1,q1⟩=>hc pins s1 σ H1 vs us Q I1 r1 q1) he hpl
theorem lC(hc:fH X (.type T) r)(hg:Gl X x)(hm:X.mg x=none)(hv:bootBuiltins x=some (.type T))(ha:PA X (e::es) t)(hn:x≠"__name__":=by decide)(hdb:(x==("__debug__":Str))=false:=by decide)
  (he:starEach (e::es) X.env=(false,eval e X.env)::starEach es X.env:=by rfl) (hpl:(backTo pos (starEach es X.env)).any (·.1)=false:=by rfl):PE X (.Call (.Name x p) (e::es) [] pos) (gf r t):=by
 intro pins s σ H Q I h
 refine wpAny_Call_Name_kw (jw I hg hm hv ?_ hn hdb)
 exact PyProof.Rows.callWith_type1 (aP (ha pos pins s σ H _ I h) fun us s1 ⟨vs,H1,I1,r1,q1⟩=>hc pins s1 σ H1 vs us Q I1 r1 q1) he hpl
end
end L2
namespace HT
open PySem PyProof.Rows
section
open PySem.SeqAt
open PySem.AutoSeq1 (wpAny_loadPart')
open PySem.MeetsSeq PySem.MeetsSeq2 PySem.MeetsSeq3
end
section
variable{prog:Program}{w:World}{A:Around}{E:Value->Shared->Prop}{s:Shared}
def dh(n d:Nat):Option Int->Nat
 |none=>d
 |some v=>if v<0 then(v+(n:Int)).toNat else min v.toNat n
theorem Wx(n d:Nat):dh n d none=d:=rfl
end
end HT
namespace L2
open PySem PySem.Spec PyProof.Rows
abbrev TO:=St->Hp->(Option Int->Hp->Prop)->Prop
def PO(X:Cx)(e:Option Expr)(t:TO):Prop:=
 ∀(pins:List (Addr×Obj)) (s:Shared) (σ:St) (H:Hp) (Q:Option Int->Hp->Prop),Inv X pins σ H s->t σ H Q->
  wpAny (model X.prog X.w) X.A (evalPart e X.env) (fun u s'=>∃o H',Inv X pins σ H' s'/\IsPart u o/\Q o H') X.xe s
def uc:TO:=fun _ H Q=>Q none H
def uD(t:TE):TO:=fun σ H Q=>t σ H fun x H1=>∃i,x= .int i/\Q (some i) H1
section
variable{X:Cx}{e:Expr}{te:TE}{lo hi:Option Expr}{tl th:TO}{pos p2:Pos}
theorem ja:PO X none uc:=by
 intro pins s σ H Q I h
 rw[evalPart_none]
 exact wpAny_pure ⟨none,H,I, .none,h⟩
theorem iH(h:PE X e te):PO X (some e) (uD te):=by
 intro pins s σ H Q I hw
 rw[evalPart_some]
 refine aP (h pins s σ H _ I hw) fun u s1 ⟨x,H1,I1,r1,q1⟩=>?_
 obtain⟨i,rfl,q⟩:=q1
 obtain⟨t,rfl⟩:=r1
 exact⟨some i,H1,I1, .int i t,q⟩
def Dk(X:Cx)(r:V->Option Int->Option Int->Hp->VK->Prop):Prop:=
 ∀(pins:List (Addr×Obj)) (s:Shared) (σ:St) (H:Hp) (x:V) (v vl vu:Value) (lo hi:Option Int) (sl:Addr) (Q:VK),Inv X pins σ H s->RelV x v->s.heap.IsSliceOf sl vl vu .none->IsPart vl lo->IsPart vu hi->r x lo hi H Q->
  ∃T id,typeLookup (.type T) "__getitem__"=pure (some (.builtin id))/\s.TypeIs v T/\wpAny (model X.prog X.w) X.A (getItem v (.ref sl)) (EP X pins σ Q) X.xe s
def rZ(r:V->Option Int->Option Int->Hp->VK->Prop)(te:TE)(tl th:TO):TE:=fun σ H Q=>te σ H fun x H1=>tl σ H1 fun l H2=>th σ H2 fun u H3=>r x l u H3 Q
theorem iM{r:V->Option Int->Option Int->Hp->VK->Prop}(hr:Dk X r)(he:PE X e te)(hl:PO X lo tl)(hu:PO X hi th):PE X (.Subscript e (.Slice lo hi none p2) pos) (rZ r te tl th):=by
 intro pins s σ H Q I h
 refine Subscript_ (aP (he pins s σ H _ I h) fun v s1 ⟨x,H1,I1,r1,q1⟩=>?_)
 refine wpAny_Slice (aP (hl pins s1 σ H1 _ I1 q1) fun vl s2 ⟨l,H2,I2,pl,q2⟩=>aP (hu pins s2 σ H2 _ I2 q2) fun vu s3 ⟨u,H3,I3,pu,q3⟩=>?_)
 rw[evalPart_none]
 refine wpAny_pure ?_
 have I4:Inv X pins σ H3 {s3 with heap:=s3.heap.push {cls:= .type "slice",data:= .fields #[vl,vu, .none]}}:=I3.kept (t':=s3.toks) fun b ob q=>Heap.get?_push_of_some _ q
 obtain⟨T,id,hT,ht,hg⟩:=hr pins {s3 with heap:=s3.heap.push {cls:= .type "slice",data:= .fields #[vl,vu, .none]}} σ H3 x v vl vu l u s3.heap.objs.size Q I4 r1 (Heap.IsSliceOf.new ..) pl pu q3
 show wpAny (model X.prog X.w) X.A (subscriptTail e (.Slice lo hi none p2) v (.ref s3.heap.objs.size)) (EP X pins σ Q) X.xe {s3 with heap:=s3.heap.push {cls:= .type "slice",data:= .fields #[vl,vu, .none]}}
 exact tail_any (ops:=[.ref s3.heap.objs.size,v]) ht hT hg (by with_unfolding_all rfl)
def j3(xs:List V)(lo hi:Option Int):List V:=(xs.drop (HT.dh xs.length 0 lo)).take (HT.dh xs.length xs.length hi-HT.dh xs.length 0 lo)
theorem TU(xs:List V)(lo hi:Option Int):(j3 xs lo hi).length<=xs.length:=by
 unfold j3
 rw[List.length_take,List.length_drop]
 omega
end
def cH(n:Nat)(i:Int):Option Nat:=if 0<=i then(if i<n then some i.toNat else none) else if-(n:Int)<=i then some (i+n).toNat else none
def aU{α:Type}(xs:List α)(i:Int):Option α:=(cH xs.length i).bind fun j=>xs[j]?
theorem AL{n:Nat}{i:Int}{j:Nat}(h:cH n i=some j):seqIndex? i n=some j/\j<n/\ -(n:Int)<=i/\i<n:=by
 unfold cH at h
 by_cases h0:0<=i
 ·rw[if_pos h0] at h
  by_cases h1:i<n
  ·rw[if_pos h1] at h
   have e:i.toNat=j:=Option.some.inj h
   exact⟨by rw[seqIndex_of h0 h1,e],by omega,by omega,h1⟩
  ·rw[if_neg h1] at h;cases h
 ·rw[if_neg h0] at h
  by_cases h1: -(n:Int)<=i
  ·rw[if_pos h1] at h
   have e:(i+n).toNat=j:=Option.some.inj h
   exact⟨by rw[seqIndex_neg (by omega) h1,e],by omega,h1,by omega⟩
  ·rw[if_neg h1] at h;cases h
theorem Gd{α:Type}{xs:List α}{i:Int}{v:α}(h:aU xs i=some v):∃j,seqIndex? i xs.length=some j/\xs[j]?=some v/\j<xs.length/\ -(xs.length:Int)<=i/\i<xs.length:=by
  unfold aU at h
  cases e:cH xs.length i with
  |none=>rw[e] at h;cases h
  | some j =>
    rw[e] at h
    obtain⟨h1,h2,h3,h4⟩:=AL e
    exact⟨j,h1,h,h2,h3,h4⟩
theorem Rt{α:Type}{xs:List α}{j:Nat}{v:α}(h:xs[j]?=some v):aU xs (j:Int)=some v:=by
 have hj:j<xs.length:=(List.getElem?_eq_some_iff.mp h).1
 have e:cH xs.length (j:Int)=some j:=by
  unfold cH
  rw[if_pos (by omega),if_pos (by omega)];simp
 unfold aU;rw[e];exact h
def KI(b:Expr):Prop:=∀o i,subscripted b false o i=operate [o,i] (getItem o i)
def sf(X:Cx)(r:R2):Prop:=
 ∀(value slice:Expr) (pins:List (Addr×Obj)) (s:Shared) (σ:St) (H:Hp) (x y:V) (v u:Value) (Q:VK),Inv X pins σ H s->RelV x v->RelV y u->r x y H Q->
  subscripted slice false v u=operate [v,u] (getItem v u)->wpAny (model X.prog X.w) X.A (subscriptTail value slice v u) (EP X pins σ Q) X.xe s
def qF(X:Cx)(id:String)(r:V->List V->Hp->VK->Prop):Prop:=
 ∀(pins:List (Addr×Obj)) (s:Shared) (σ:St) (H:Hp) (x:V) (xs:List V) (v:Value) (us:List Value) (Q:VK),Inv X pins σ H s->RelV x v->Vals xs us->r x xs H Q->
  wpAny (model X.prog X.w) X.A (call (.builtin id) (v::us)) (EP X pins σ Q) X.xe s
section
variable{X:Cx}{a b:Expr}{ta tb:TE}{pos:Pos}
theorem ay{r:R2}(hr:sf X r)(ha:PE X a ta)(hb:PE X b tb)(hs:KI b):PE X (.Subscript a b pos) (bV r ta tb):=by
 intro pins s σ H Q I h
 exact Subscript_ (uW ha hb I h fun v u s2 x y H2 I2 rx ry q=>hr a b pins s2 σ H2 x y v u Q I2 rx ry q (hs _ _))
def bh(K:PySem.W.Frag):R2:=fun x y H Q=>∃p xs i v,x= .ref p/\y= .int i/\aL K H p xs/\aU xs i=some v/\Q v H
def aY(K:PySem.W.Frag):R2:=fun x y H Q=>∃p xs i v,x= .ref p/\y= .int i/\fJ K H p xs/\aU xs i=some v/\Q v H
def PZ:R2:=fun x y H Q=>∃z i c,x= .str z/\y= .int i/\z.length<=sizeLine/\aU z.cps.toList i=some c/\Q (.str ⟨#[c]⟩) H
theorem aR:sf X (bh X.K):=by
 intro value slice pins s σ H x y v u Q I rx ry h hs
 obtain⟨p,xs,i,z,rfl,rfl,hq,he,q⟩:=h
 cases rx
 obtain⟨t,rfl⟩:=ry
 obtain⟨its,r,pl,hz⟩:=I.list hq
 obtain⟨j,h1,h2,h3,h4,h5⟩:=Gd he
 obtain⟨w,ew,rw'⟩:=r.get h2
 have hl:=r.length
 have hn:=oM
 have fin:EP X pins σ Q w s:=⟨z,H,I,rw',q⟩
 by_cases h0:0<=i
 ·have hj:i.toNat=j:=by
   rw[seqIndex_of h0 h5] at h1
   exact Option.some.inj h1
  exact item_listR pl.isList h0 (by omega) (by rw[hj];simpa using ew) fin hs
 ·have hj:(i+(its.toArray.size:Int)).toNat=j:=by
   rw[seqIndex_neg (by omega) h4] at h1
   rw[List.size_toArray,<-hl]
   exact Option.some.inj h1
  exact subscriptTail_builtinR (x:=w) pl.isList.typeIs slot_list_getitem.lookup
   (wpAny_getItem_list_neg (Q:=fun r s'=>r=w/\EP X pins σ Q r s') pl.isList (by omega) (by rw[List.size_toArray]<;>omega) (by omega) (by rw[hj];simpa using ew) ⟨rfl,fin⟩) hs
theorem bu:sf X (aY X.K):=by
 intro value slice pins s σ H x y v u Q I rx ry h hs
 obtain⟨p,xs,i,z,rfl,rfl,hq,he,q⟩:=h
 cases rx
 obtain⟨t,rfl⟩:=ry
 obtain⟨its,r,pl,hz⟩:=I.tuple hq
 obtain⟨j,h1,h2,h3,h4,h5⟩:=Gd he
 obtain⟨w,ew,rw'⟩:=r.get h2
 have hl:=r.length
 have hn:=oM
 have fin:EP X pins σ Q w s:=⟨z,H,I,rw',q⟩
 exact subscriptTail_builtinR (x:=w) pl.typeIs slot_tuple_getitem.lookup
  (getItem_tuple (j:=j) (Q:=fun r s'=>r=w/\EP X pins σ Q r s') pl (by omega) (by omega) (by rw[List.size_toArray,<-hl];exact h1) (by simpa using ew) ⟨rfl,fin⟩) hs
def SS(K:PySem.W.Frag):R2:=fun x y H Q=>bh K x y H Q\/aY K x y H Q\/PZ x y H Q
theorem WG(its:List Value)(n j:Nat)(u:Value):Obj.mapSeq (·.setIfInBounds j u) {cls:= .type "list",data:= .seq its.toArray n}={cls:= .type "list",data:= .seq (its.set j u).toArray n}:=by
 simp[Obj.mapSeq]
theorem Inv.lst{pins:List (Addr×Obj)}{σ:St}{H:Hp}{s:Shared}{p:Addr}{xs:List V}(I:Inv X pins σ H s)(h:H p=some (.lst xs)):
  ∃(its:List Value) (n:Nat),Vals xs its/\s.heap.get? p=some {cls:= .type "list",data:= .seq its.toArray n}/\xs.length<=sizeLine:=by
 obtain⟨z,its,n,r,e⟩:=I.hok p _ h
 exact⟨its,n,r,e,z⟩
theorem Inv.Q8{pins:List (Addr×Obj)}{σ:St}{H:Hp}{s:Shared}{p:Addr}{xs ys:List V}{its its':List Value}{n n':Nat}{f:Obj->Obj}(I:Inv X pins σ H s)(h:H p=some (.lst xs))
  (ho:s.heap.get? p=some {cls:= .type "list",data:= .seq its.toArray n}) (hf:f {cls:= .type "list",data:= .seq its.toArray n}={cls:= .type "list",data:= .seq its'.toArray n'}) (r:Vals ys its') (hz:ys.length<=sizeLine) (t:Nat):
  Inv X pins σ (upd H p (.lst ys)) {s with heap:=s.heap.update p f,toks:=t}:=by
 have e:(s.heap.update p f).get? p=some {cls:= .type "list",data:= .seq its'.toArray n'}:=by
  rw[Heap.get?_update_self f ho (by rw[hf]<;>rfl),hf]
 refine I.write (x:=p) (e:=p) (by rw[h];trivial) (.inl rfl) (fun b u hb q=>(Heap.get?_update_other _ _ (Ne.symm hb)).trans q) ⟨_,e⟩ ?_
 exact⟨hz,its',n',r,e⟩
def nv:V->V->V->Hp->(Hp->Prop)->Prop:=fun o i v H Q=>∃p xs k j,o= .ref p/\i= .int k/\H p=some (.lst xs)/\cH xs.length k=some j/\Q (upd H p (.lst (xs.set j v)))
theorem set_list:vC X nv:=by
 intro pins s σ H o i v ov iv u Q I ro ri rv h
 obtain⟨p,xs,k,j,rfl,rfl,hp,hj,q⟩:=h
 cases ro
 obtain⟨t,rfl⟩:=ri
 obtain⟨its,n,r,ho,hz⟩:=I.lst hp
 obtain⟨h1,h2,h3,h4⟩:=AL hj
 have hl:=r.length
 have hn:=oM
 have I':Inv X pins σ (upd H p (.lst (xs.set j v))) {s with heap:=s.heap.update p (Obj.mapSeq (·.setIfInBounds j u))}:=
  I.Q8 hp ho (WG its n j u) (r.set rv j) (by rw[List.length_set];exact hz) s.toks
 by_cases h0:0<=k
 ·have hk:k.toNat=j:=by
   rw[seqIndex_of h0 h4] at h1
   exact Option.some.inj h1
  exact PySem.W.ki_setAt ho h0 (by omega) (by rw[List.size_toArray,<-hl];exact h4) (by rw[hk];exact⟨_,I',q⟩)
 ·have hk:(k+(its.toArray.size:Int)).toNat=j:=by
   rw[seqIndex_neg (by omega) h3] at h1
   rw[List.size_toArray,<-hl]
   exact Option.some.inj h1
  exact PySem.W.ki_setBack ho (by omega) (by rw[List.size_toArray,<-hl];exact h3) (by omega) (by rw[hk];exact⟨_,I',q⟩)
theorem RN(lo hi:Option Int)(n:Nat):(sliceBounds lo hi none n).1=((HT.dh n 0 lo:Nat):Int)/\(sliceBounds lo hi none n).2.1=((HT.dh n n hi:Nat):Int)/\(sliceBounds lo hi none n).2.2=1:=by
  refine⟨?_,?_,rfl⟩
  · cases lo with
    |none=>simp[sliceBounds,HT.dh]
    | some i =>
      simp only[sliceBounds,HT.dh,Option.getD_none,show(1:Int)>0 by decide,if_true]
      by_cases h:i<0
      · simp only[h,if_true]<;>omega
      · simp only[h,if_false]<;>omega
  · cases hi with
    |none=>simp[sliceBounds,HT.dh]
    | some i =>
      simp only[sliceBounds,HT.dh,Option.getD_none,show(1:Int)>0 by decide,if_true]
      by_cases h:i<0
      · simp only[h,if_true]<;>omega
      · simp only[h,if_false]<;>omega
theorem Ox(its:List Value)(lo hi:Option Int):slicePick its.toArray lo hi none=((its.drop (HT.dh its.length 0 lo)).take (HT.dh its.length its.length hi-HT.dh its.length 0 lo)).toArray:=by
 obtain⟨h1,h2,h3⟩:=RN lo hi its.toArray.size
 unfold slicePick
 rw[h1,h2,h3]
 simp only[sliceRange_one,pick_run,List.size_toArray]<;>rfl
def g7(K:PySem.W.Frag):V->Option Int->Option Int->Hp->VK->Prop:=fun x lo hi H Q=>∃a xs,x= .ref a/\aL K H a xs/\∀p,H p=none->Q (.ref p) (upd H p (.lst (j3 xs lo hi)))
theorem i7:Dk X (g7 X.K):=by
 intro pins s σ H x v vl vu lo hi sl Q I rx hs pl pu h
 obtain⟨a,xs,rfl,hx,q⟩:=h
 cases rx
 obtain⟨its,r,ht,hz⟩:=I.list hx
 have hlen:=r.length
 refine⟨"list",_,slot_list_getitem.lookup,ht.isList.typeIs,?_⟩
 refine wpAny_getItem_list_slice ht.isList hs pl pu .none (by simp) ?_ (by rw[List.size_toArray]<;>omega)
 rw[Ox,<-hlen]
 refine⟨.ref s.heap.objs.size,_,I.laid (t':=s.toks) (o:= .lst (j3 xs lo hi)) (fun b ob q=>Heap.get?_push_of_some _ q) (Nat.le_refl _) ?_,rfl,q _ (I.hok.fresh (Nat.le_refl _))⟩
 exact⟨Nat.le_trans (TU xs lo hi) hz,_,0,(r.drop (HT.dh xs.length 0 lo)).take (HT.dh xs.length xs.length hi-HT.dh xs.length 0 lo),Heap.get?_push_size _ rfl⟩
def Dp:V->Bool
 | .aN=>true
 | .bl _=>true
 | .int _=>true
 | .str _=>true
 |_=>false
def IF:V->V->Bool
 | .aN, .aN=>true
 | .bl a, .bl b=>a==b
 | .bl a, .int b=>(if a then 1 else 0)==b
 | .int a, .bl b=>a==(if b then 1 else 0)
 | .int a, .int b=>a==b
 | .str a, .str b=>a==b
 |_,_=>false
def ny(x:V)(xs:List V):Bool:=xs.any fun y=>IF y x
def TQ(K:PySem.W.Frag)(neg:Bool):R2:=fun x y H Q=>∃p xs,y= .ref p/\(aL K H p xs\/fJ K H p xs)/\Dp x=true/\xs.all Dp=true/\Q (.bl (if neg then !ny x xs else ny x xs)) H
theorem Gg:fH X (.builtin "len") (fun xs H Q=>∃p ys,xs=[.ref p]/\(aL X.K H p ys\/fJ X.K H p ys)/\Q (.int ys.length) H):=by
 intro pins s σ H xs us Q I r h
 obtain⟨p,ys,rfl,hq,q⟩:=h
 obtain⟨u,rfl,rx⟩:=vals1 r
 cases rx
 have hn:=oM
 rcases hq with hq|hq
 ·obtain⟨its,r',pl,hz⟩:=I.list hq
  have hlen:=r'.length
  exact Calls.call_len_list pl.isList (by simp only[List.size_toArray]<;>omega) ⟨.int ys.length,H,I.tok _,⟨s.toks+1,by rw[List.size_toArray,hlen]⟩,q⟩
 ·obtain⟨its,r',pl,hz⟩:=I.tuple hq
  have hlen:=r'.length
  exact len_tuple pl (by simp only[List.size_toArray]<;>omega) ⟨.int ys.length,H,I.tok _,⟨s.toks+1,by rw[List.size_toArray,hlen]⟩,q⟩
theorem Sf:fH X (.type "list") (fun xs H Q=>∃p ys,xs=[.ref p]/\(aL X.K H p ys\/fJ X.K H p ys)/\∀l,H l=none->Q (.ref l) (upd H l (.lst ys))):=by
 intro pins s σ H xs us Q I r h
 obtain⟨p,ys,rfl,hq,q⟩:=h
 obtain⟨u,rfl,rx⟩:=vals1 r
 cases rx
 have fin:∀(its:List Value),Vals ys its->ys.length<=sizeLine->∀(h':Heap) (c':Nat),(∀b o',s.heap.get? b=some o'->h'.get? b=some o')->
   h'.get? s.heap.objs.size=some {cls:= .type "list",dict:=none,data:= .seq its.toArray c',slots:= #[]}->EP X pins σ Q (.ref s.heap.objs.size) {s with heap:=h'}:=fun its r' hz h' c' kp e=>
  ⟨.ref s.heap.objs.size,_,I.laid (t':=s.toks) kp (Nat.le_refl _) (show bW X.prog X.w _ h' _ (.lst ys) from⟨hz,its,c',r',e⟩),rfl,q _ (I.hok.fresh (Nat.le_refl _))⟩
 rcases hq with hq|hq
 ·obtain⟨its,r',pl,hz⟩:=I.list hq
  have hlen:=r'.length
  obtain⟨o,ho,hc,n,hd⟩:=pl.isList
  exact call_list_seq p (.inl rfl) ho hc hd (fun h' c' kp e=>fin its r' hz h' c' kp e) (by simp only[List.size_toArray]<;>omega)
 ·obtain⟨its,r',pl,hz⟩:=I.tuple hq
  have hlen:=r'.length
  obtain⟨o,ho,hc,n,hd⟩:=pl
  exact call_list_seq p (.inr rfl) ho hc hd (fun h' c' kp e=>fin its r' hz h' c' kp e) (by simp only[List.size_toArray]<;>omega)
def nV(K:PySem.W.Frag)(T:String)(x:V)(H:Hp):Prop:=match x with
 | .str _=>T="str"
 | .int _=>T="int"
 | .ref p => (T = "list" /\ ∃ xs, aL K H p xs) \/ (T = "tuple" /\ ∃ o, K.lookup p = some o /\ o.cls = .type "tuple" /\ o.dict = none) \/
   (T="dict" /\((∃kvs,H p=some (.dK kvs))\/(∃kvs,H p=some (.dT kvs))\/∃o kvs,H p=some (.bF o (.dK kvs))))\/(T="set" /\∃S n,H p=some (.set S n))
 |_=>False
theorem E9{pins:List (Addr×Obj)}{σ:St}{H:Hp}{s:Shared}{T:String}{x:V}{v:Value}(I:Inv X pins σ H s)(r:RelV x v)(ty:nV X.K T x H):
    s.TypeIs v T/\∀a,v= .ref a->∃ob,s.heap.get? a=some ob/\ob.dict=none:=by
  cases x with
  | str z =>
    obtain⟨t,rfl⟩:=r
    cases (show T="str" from ty)
    exact⟨typeIs_str s z t,fun _ e=>nomatch e⟩
  | int i =>
    obtain⟨t,rfl⟩:=r
    cases (show T="int" from ty)
    exact⟨typeIs_int s i t,fun _ e=>nomatch e⟩
  | ref p =>
    cases r
    rcases ty with ⟨rfl,xs,hq⟩|⟨rfl,o,hk,hc,hd⟩|⟨rfl,hk⟩|⟨rfl,S,n,hk⟩
    · obtain⟨its,_,pl,_⟩:=I.list hq
      refine⟨pl.isList.typeIs,fun a e=>?_⟩
      cases e
      obtain⟨o,n,e,c,hd,_⟩:=pl
      exact⟨o,e,hd⟩
    · refine⟨⟨o,I.eZ p o hk,hc⟩,fun a e=>?_⟩
      cases e
      exact⟨o,I.eZ _ o hk,hd⟩
    · have z:∃o,s.heap.get? p=some o/\o.ExactDict:=by
        rcases hk with ⟨kvs,hk⟩|⟨kvs,hk⟩|⟨ob,kvs,hk⟩
        · obtain⟨_,_,_,_,o,_,_,e,ex,_⟩:=I.hok p _ hk
          exact⟨o,e,ex⟩
        · obtain⟨_,_,_,_,o,_,_,e,ex,_⟩:=I.hok p _ hk
          exact⟨o,e,ex⟩
        · obtain⟨_,_,_,_,_,o,_,_,e,ex,_⟩:=I.hok p _ hk
          exact⟨o,e,ex⟩
      obtain⟨o,e,ex⟩:=z
      refine⟨⟨o,e,ex.1⟩,fun a e2=>?_⟩
      cases e2
      exact⟨o,e,ex.2.1⟩
    · obtain⟨o,_,_,_,e,ex,_⟩:=I.hok p _ hk
      refine⟨⟨o,e,ex.1⟩,fun a e2=>?_⟩
      cases e2
      exact⟨o,e,ex.2.1⟩
  |_=>exact False.elim ty
def BO(K:PySem.W.Frag)(T:String)(r:V->List V->Hp->VK->Prop)(to:TE):TE:=fun σ H Q=>to σ H fun x H1=>nV K T x H1/\r x [] H1 Q
def zJ(K:PySem.W.Frag)(T:String)(r:V->List V->Hp->VK->Prop)(to:TE)(t:TA):TE:=fun σ H Q=>to σ H fun x H1=>nV K T x H1/\t σ H1 fun xs H2=>r x xs H2 Q
variable{o e:Expr}{es:List Expr}{to:TE}{t:TA}{name:Str}{apos cpos:Pos}{T id:String}{r:V->List V->Hp->VK->Prop}
theorem Iu(pa:PlainAttrs T)(slot:Slot T name id)(hty:typeOf (.builtin id)=pure (.type "method_descriptor"))(hm:qF X id r)(ho:PE X o to)
  (hbase:attributeBase o name X.env (eval o X.env)=eval o X.env:=by rfl) (hline:(apos.endLine==cpos.line)=true:=by rfl):PE X (.Call (.Attribute o name apos) [] [] cpos) (BO X.K T r to):=by
 intro pins s σ H Q I h
 refine wpAny_Call_method0_late hbase hline (aP (ho pins s σ H _ I h) fun v s1 ⟨x,H1,I1,r1,ty,q1⟩=>?_)
 obtain⟨h1,h2⟩:=E9 I1 r1 ty
 exact⟨T,id,pa,slot,hty,h1,h2,Calls.callWith_builtin rfl (PySem.evalArgs_none (hm pins s1 σ H1 x [] v [] Q I1 r1 .nil q1))⟩
theorem EU(pa:PlainAttrs T)(slot:Slot T name id)(hty:typeOf (.builtin id)=pure (.type "method_descriptor"))(hm:qF X id r)(ho:PE X o to)(ha:PA X (e::es) t)
  (hbase:attributeBase o name X.env (eval o X.env)=eval o X.env:=by rfl)
  (hfew : ((backTo cpos (starEach (e :: es) X.env)).all (fun x => !x.1) && (backToKw cpos (keywordEach [] X.env)).all (fun x => x.1.isSome)
   && decide ((e::es).length+([]:List Keyword).length+(if([]:List Keyword).isEmpty then 0 else 1)<30))=true:=by rfl)
  (hline:(apos.endLine==cpos.line)=true:=by rfl) (hs:starEach (e::es) X.env=(false,eval e X.env)::starEach es X.env:=by rfl) (hplain:(backTo cpos (starEach es X.env)).any (·.1)=false:=by rfl):
  PE X (.Call (.Attribute o name apos) (e::es) [] cpos) (zJ X.K T r to t):=by
 intro pins s σ H Q I h
 refine wpAny_Call_method_late hbase hfew hline rfl (aP (ho pins s σ H _ I h) fun v s1 ⟨x,H1,I1,r1,ty,q1⟩=>?_)
 obtain⟨h1,h2⟩:=E9 I1 r1 ty
 refine⟨T,id,pa,slot,hty,h1,h2,?_⟩
 have hA:=ha cpos pins s1 σ H1 _ I1 q1
 rw[hs] at hA⊢
 refine Calls.callWith_builtin (by show(false||(backTo cpos (starEach es X.env)).any (·.1))=false;rw[hplain]<;>rfl) (Calls.evalArgs_plain ?_)
 exact aP hA fun us s2 ⟨vs,H2,I2,r2,q2⟩=>hm pins s2 σ H2 x vs v us Q I2 r1 r2 q2
/-xs.append(e),list.index on a module's tuple .. are qF facts of 06m-/
end
def Aj(X:Cx)(id:String)(r:V->List V->Hp->VK->Prop):Prop:=
 ∀(pins:List (Addr×Obj)) (s:Shared) (σ:St) (H:Hp) (x:V) (xs:List V) (v:Value) (us:List Value) (Q:VK),Inv X pins σ H s->RelV x v->Vals xs us->r x xs H Q->
  wpAny (model X.prog X.w) X.A (call (.builtin id) (v::us)) (EP X pins σ Q) X.xe s
theorem Vals.one{x:V}{us:List Value}(h:Vals [x] us):∃u,us=[u]/\RelV x u:=by
 cases h with
 |cons r t=>cases t;exact⟨_,rfl,r⟩
theorem Vals.two{x y:V}{us:List Value}(h:Vals [x,y] us):∃u v,us=[u,v]/\RelV x u/\RelV y v:=by
  cases h with
  | cons r t =>
    obtain⟨v,e,q⟩:=Vals.one t
    exact⟨_,v,by rw[e],r,q⟩
theorem Vals.dropLast{xs:List V}{us:List Value}(h:Vals xs us):Vals xs.dropLast us.dropLast:=by
  induction h with
  |nil=>exact .nil
  | cons r t ih =>
    cases t with
    |nil=>exact .nil
    |cons q t'=>exact .cons r ih
theorem Vals.rep{xs:List V}{us:List Value}(h:Vals xs us):∀k:Nat,Vals (List.replicate k xs).flatten (List.replicate k us).flatten
  |0=> .nil
  | k + 1 => by
    rw[List.replicate_succ,List.replicate_succ,List.flatten_cons,List.flatten_cons]
    exact Vals.append h (Vals.rep h k)
theorem foldl_rep(its:List Value):∀(k:Nat) (acc:List Value),
    List.foldl (fun x1 x2=>x1++x2) acc.toArray (List.replicate k its.toArray)=(acc++(List.replicate k its).flatten).toArray
  |0,acc=>by simp
  | k + 1, acc => by
    have e:acc.toArray++its.toArray=(acc++its).toArray:=by simp
    have e2:(acc++its)++(List.replicate k its).flatten=acc++(List.replicate (k+1) its).flatten:=by
      rw[List.replicate_succ,List.flatten_cons,List.append_assoc]
    rw[<-e2,<-foldl_rep its k (acc++its),<-e,List.replicate_succ,List.foldl_cons]
section
variable{X:Cx}{pins:List (Addr×Obj)}{σ:St}{H:Hp}{s:Shared}{l b:Addr}{xs ys zs:List V}
theorem Inv.t9{its its':List Value}{n:Nat}{f:Array Value->Array Value}{t':Nat}(I:Inv X pins σ H s)(hH:H l=some (.lst xs))
  (e:s.heap.get? l=some {cls:= .type "list",data:= .seq its.toArray n}) (hf:f its.toArray=its'.toArray) (hv:Vals ys its') (hz:ys.length<=sizeLine):
  Inv X pins σ (upd H l (.lst ys)) {s with heap:=s.heap.update l (Obj.mapSeq f),toks:=t'}:=by
 have q:=PySem.IsL.update e f
 rw[hf] at q
 refine I.write (x:=l) (e:=l) (by rw[hH];exact trivial) (.inl rfl) (fun b' u hb hu=>(Heap.get?_update_other s.heap (Obj.mapSeq f) (Ne.symm hb)).trans hu) ⟨_,q⟩ ?_
 exact⟨hz,its',_,hv,q⟩
theorem Inv.zj{its:List Value}{t':Nat}(I:Inv X pins σ H s)(hv:Vals ys its)(hz:ys.length<=sizeLine):
  Inv X pins σ (upd H s.heap.objs.size (.lst ys)) {s with heap:=s.heap.push {cls:= .type "list",data:= .seq its.toArray},toks:=t'}:=
 I.laid (fun _ _ q=>Heap.get?_push_of_some _ q) (Nat.le_refl _) ⟨hz,its,0,hv,Heap.get?_push_size _ rfl⟩
theorem Inv.fresh(I:Inv X pins σ H s):H s.heap.objs.size=none:=I.hok.fresh (Nat.le_refl _)
theorem Inv.kF(I:Inv X pins σ H s)(hH:H l=some (.lst xs)):xs.length<=sizeLine/\∃(its:List Value) (n:Nat),Vals xs its/\xs.length=its.length/\s.heap.get? l=some {cls:= .type "list",data:= .seq its.toArray n}:=by
 obtain⟨z,its,n,r,e⟩:=I.hok l _ hH
 exact⟨z,its,n,r,r.length,e⟩
theorem CY{n:Nat}(h:n<=sizeLine):Builtin.List.listTooLong n=false:=by
 unfold Builtin.List.listTooLong
 exact decide_eq_false (by omega)
end
section
variable{X:Cx}
def Bp:V->List V->Hp->VK->Prop:=fun x vs H Q=>∃l xs y,x= .ref l/\vs=[y]/\H l=some (.lst xs)/\xs.length<sizeLine/\Q .aN (upd H l (.lst (xs++[y])))
theorem AJ:Aj X "list.append" Bp:=by
 intro pins s σ H x vs v us Q I rx rv h
 obtain⟨l,xs,y,rfl,rfl,hH,hz,q⟩:=h
 cases rx
 obtain⟨u,rfl,ru⟩:=rv.one
 obtain⟨z,its,n,r,hl,e⟩:=I.kF hH
 refine call_meets F.slot_list_append ⟨_,e,rfl⟩ F.entry_list_append (F.args_list_append_2 _ _) (PySem.list_append l its.toArray n u (by rw[List.size_toArray];omega)) ⟨e,?_⟩
 refine⟨.aN,_,I.t9 (its':=its++[u]) hH e (by simp) (r.append (.cons ru .nil)) ?_,rfl,q⟩
 rw[List.length_append,List.length_singleton]
 omega
def Im:V->List V->Hp->VK->Prop:=fun x vs H Q=>∃l b xs zs,x= .ref l/\vs=[.ref b]/\H l=some (.lst xs)/\H b=some (.lst zs)/\xs.length+zs.length<=sizeLine/\Q .aN (upd H l (.lst (xs++zs)))
theorem Xe:Aj X "list.extend" Im:=by
 intro pins s σ H x vs v us Q I rx rv h
 obtain⟨l,b,xs,zs,rfl,rfl,hH,hB,hz,q⟩:=h
 cases rx
 obtain⟨u,rfl,ru⟩:=rv.one
 cases ru
 obtain⟨z,its,n,r,hl,e⟩:=I.kF hH
 obtain⟨z2,its2,n2,r2,hl2,e2⟩:=I.kF hB
 have hsz:its.toArray.size+its2.toArray.size<=sizeLine:=by rw[List.size_toArray,List.size_toArray];omega
 have zT:¬(!its.toArray.isEmpty && Builtin.List.listTooLong (its.toArray.size+its2.toArray.size))=true:=by
  rw[CY hsz,Bool.and_false]
  exact Bool.false_ne_true
 refine call_meets F.slot_list_extend ⟨_,e,rfl⟩ F.entry_list_extend (F.args_list_extend_2 _ _)
  (AutoSeq1.list_extend_list_list_0 l its.toArray n b its2.toArray n2 zT (by rw[List.size_toArray];omega) (by omega)) ⟨e,e2,?_⟩
 refine⟨.aN,_,I.t9 (its':=its++its2) hH e (by simp) (r.append r2) ?_,rfl,q⟩
 rw[List.length_append]
 omega
def sX:R2:=fun x y H Q=>∃l b xs zs,x= .ref l/\y= .ref b/\H l=some (.lst xs)/\H b=some (.lst zs)/\xs.length+zs.length<=sizeLine/\∀p,H p=none->Q (.ref p) (upd H p (.lst (xs++zs)))
theorem mQ:cQ X (binaryOp .Add) sX:=by
 intro pins s σ H x y v u Q I rx ry h
 obtain⟨l,b,xs,zs,rfl,rfl,hH,hB,hz,q⟩:=h
 cases rx
 cases ry
 obtain⟨z,its,n,r,hl,e⟩:=I.kF hH
 obtain⟨z2,its2,n2,r2,hl2,e2⟩:=I.kF hB
 refine PySem.P.add_list e e2 ?_ (by rw[List.size_toArray,List.size_toArray];omega)
 have ea:its.toArray++its2.toArray=(its++its2).toArray:=by simp
 rw[ea]
 exact⟨.ref _,_,I.zj (t':=s.toks) (r.append r2) (by rw[List.length_append];omega),rfl,q _ I.fresh⟩
def mL:R2:=fun x y H Q=>∃l k xs,x= .ref l/\y= .int k/\H l=some (.lst xs)/\ -(2^63)<=k/\k<2^63/\xs.length*k.toNat<=sizeLine/\
 ∀p,H p=none->Q (.ref p) (upd H p (.lst (List.replicate k.toNat xs).flatten))
theorem len_rep{α:Type}(xs:List α)(k:Nat):(List.replicate k xs).flatten.length=k*xs.length:=by
 induction k with
 |zero=>simp
 |succ k ih=>rw[List.replicate_succ,List.flatten_cons,List.length_append,ih,Nat.succ_mul,Nat.add_comm]
theorem qy:cQ X (binaryOp .Mult) mL:=by
 intro pins s σ H x y v u Q I rx ry h
 obtain⟨l,k,xs,rfl,rfl,hH,h1,h2,hz,q⟩:=h
 cases rx
 obtain⟨t,rfl⟩:=ry
 obtain⟨z,its,n,r,hl,e⟩:=I.kF hH
 have hlen:its.toArray.size*k.toNat<=sizeLine:=by rw[List.size_toArray,<-hl];exact hz
 have hcap:¬its.toArray.size*k.toNat>(2^63-1)/8:=by
  have:(sizeLine:Nat)<=(2^63-1)/8:=by decide
  omega
 have hfit:¬(!Builtin.List.listFitsIndex k)=true:=by
  rw[fitsIndex_both h1 h2]
  exact Bool.false_ne_true
 have zT:¬Builtin.List.listTooLong (its.toArray.size*k.toNat)=true:=by
  rw[CY hlen]
  exact Bool.false_ne_true
 have hnew:List.foldl (fun x1 x2=>x1++x2) #[] (List.replicate (if its.toArray.isEmpty=true then 0 else k.toNat) its.toArray)=(List.replicate k.toNat its).flatten.toArray:=by
  have f0:∀m:Nat,List.foldl (fun x1 x2=>x1++x2) #[] (List.replicate m its.toArray)=(List.replicate m its).flatten.toArray:=fun m=>by
   have:=foldl_rep its m []
   rw[List.nil_append] at this
   exact this
  rw[f0]
  cases its with
  |nil=>simp
  |cons a r'=>rw[if_neg (by simp)]
 refine wpAny_binaryOp_repeat_ref (T:="list") (U:="int") (by decide) ⟨_,e,rfl⟩ (fun s'=>typeIs_int s' k t) noFill_list_mul F.fills_int_mul F.slot_int_rmul repeat_list F.slot_int_index.lookup
  (call_meets F.slot_int_rmul (typeIs_int s k t) F.entry_int_rmul (F.args_int_rmul_2 _ _) (int___rmul___int_list k t l its.toArray n)
   ⟨e,rfl,⟨_,e,rfl⟩,call_meets F.slot_list_mul ⟨_,e,rfl⟩ F.entry_list_mul (F.args_list_mul_2 _ _) (AutoListH.list___mul___list_int_3 l its.toArray n k t hfit hcap zT) ⟨e,?_⟩⟩)
 rw[hnew]
 exact⟨.ref _,_,I.zj (t':=s.toks) (r.rep k.toNat) (by rw[len_rep,Nat.mul_comm];exact hz),rfl,q _ I.fresh⟩
end
end L2
namespace Att
open PySem PySem.W PySem.Calls PyProof.Rows
theorem Rg{P:Params}{h:Heap}:∀(ns:List Int) (vs:List Value),WellAll P h vs (ns.map WData.int)->IntsAre vs ns:=by
  intro ns
  induction ns with
  | nil =>
    intro vs w
    rw[List.map_nil] at w
    cases w
    exact .nil
  | cons n ns ih =>
    intro vs w
    rw[List.map_cons] at w
    cases w with
    | cons a b =>
      cases a
      exact .cons _ _ (ih _ b)
theorem Mr{l:OpenLaw}{n:Nat}(hn:l.most=some n){P:Params}{h:Heap}{args:List WData}{vals:List Value}
    (hpre:l.row.toRowW.claim.pre args=true) (hwl:WellAll P h vals args):
    ∃a vs ns,vals=[Value.ref a]/\args=[WData.list (ns.map WData.int)]/\h.get? a=some {cls:= .type "list",data:= .seq vs.toArray}/\IntsAre vs ns/\ns.length<=n:=by
  have hsh:WShape.hasAll [] args [.list .int]=true:=(pre_splitW hpre).1
  have hc:l.pre.holds [] {args:=args}=true:=(pre_splitW hpre).2
  obtain⟨d,r,rfl,h1,h2⟩:=hasAllW_cons hsh
  obtain rfl:=hasAllW_nil h2
  obtain⟨xs,rfl,h3⟩:=hasW_list h1
  obtain⟨ns,rfl⟩:=items_int h3
  have hlen:ns.length<=n:=by
    unfold OpenLaw.pre at hc
    have h4:(WTm.not (.lt (.lit (.int (n:Int))) (.len (.arg 0)))).holds [] {args:=[.list (ns.map .int)]}=true:=by
      have h4:=(holds_andW hc).1
      rw[hn] at h4
      exact h4
    have h5:=condW_of h4 (w_not (w_lt w_lit (w_len_list (w_arg rfl))))
    rw[List.length_map] at h5
    refine Nat.le_of_not_lt fun q=>?_
    have q':(n:Int)<((ns.length:Nat):Int):=by omega
    first
      |(rw[decide_eq_true q'] at h5;exact absurd h5 (by decide))
      |(simp at h5;omega)
  cases hwl with
  | cons w1 w2 =>
    cases w2
    cases w1 with
    |list ho hall=>exact⟨_,_,ns,rfl,rfl,ho,Rg ns _ hall,hlen⟩
theorem II(l:OpenLaw)(args:List WData):l.row.toRowW.claim.post args (.bool true) args=true:=
 postW_of (r:=l.row.toRowW) (X:=(true==true))
  (show WShape.has [] (.bool true) .bool=true by first|rfl|decide|simp[WShape.has,WShape.arms,WShape.armsAll])
  (show(WTm.eq .res (.lit (.bool true))).value [] {args:=args,res:=some (.bool true),after:=args}=some (.bool (true==true)) from w_eq_bool (w_res rfl) w_lit) rfl
theorem LH{l:OpenLaw}{n:Nat}{q:Program}{loose:List Str}{XP:(Str->Option Value)->Heap->Prop}{YP:World->Heap->Prop}{d:DefRec}
  (hn:l.most=some n) (hdf:d.params.defaults=[])
  (call : ∀ (w : World) (s₀ s₁ : Shared) (mg mb : Str -> Option Value) (fa : Addr) (o : Obj) (pm cd doc : Value) (a : Addr) (vs : List Value) (ns : List Int),
   Ground q loose [] XP w s₀ mg mb s₁.heap->YP w s₁.heap->
   s₁.heap.get? fa=some o->o.data= .func (docDef d.name d.params d.body d.scope pm cd doc)->s₁.heap.CodeRec cd d.name->mg d.name=some (.ref fa)->
   s₁.heap.get? a=some {cls:= .type "list",data:= .seq vs.toArray}->IntsAre vs ns->ns.length<=n->s₁.gens= #[]->
   codeAny (model l.prog w) callerA (.call (.ref fa) ⟨[.ref a],[]⟩) (fun r s'=>r= .ok (.ret (.bool true))/\OldK s₁.heap s'.heap/\s'.os=s₁.os/\AllBare s'.gens) s₁):
  WalkO q loose XP YP l.row.toRowW d [] (fun f vs=>PySem.call f vs):=by
 intro w s₀ s₁ mg mb G Y fa o pm cd doc dV kV ho hd hcd hD hmg hg args vals as hpre hlay hrd hwl hlo
 obtain rfl:dV= .none:=Dflts.none hD hdf
 obtain rfl:kV= .none:=Dflts.noKw hD
 obtain⟨a,vs,ns,rfl,rfl,hobj,hints,hlen⟩:=Mr hn hpre hwl
 refine enter_call (codeAny_mono (call w s₀ s₁ mg mb fa o pm cd doc a vs ns G Y ho (fd_plain hd) hcd hmg hobj hints hlen hg) fun r s' hq=>?_)
 obtain⟨rfl,h2,h3,h4⟩:=hq
 exact⟨.inl ⟨.bool true, .bool true,[],rfl,fun _=>rfl, .bool true,II l _,fun _=>⟨List.Pairwise.nil,fun _ hm=>(nomatch hm)⟩⟩,h2,h3,h4⟩
section
variable{prog:Program}{w:World}{A:Around}{E:Value->Shared->Prop}{s:Shared}{K:Frag}
def ledger(h:Heap)(L d:Addr):List (Addr×Obj):=(List.range h.objs.size).filterMap fun a=>if a=L\/a=d then none else(h.get? a).map fun o=>(a,o)
end
end Att
namespace L2
open PySem PySem.Spec PyProof.Rows
theorem BF:∀{vs:List Value} {ns:List Int},IntsAre vs ns->Vals (ns.map V.int) vs
 |_,_, .nil=> .nil
 |_,_, .cons n t h=> .cons ⟨t,rfl⟩ (BF h)
def uX(H:Hp):Prop:=∀b,H b=none\/∃o xs,H b=some (.bF o (.lst xs))
theorem OC{P:Program}{w:World}{K:PySem.W.Frag}{mg mb:Str->Option Value}{CX:iO}{k:Nat}{fa a:Addr}{fd:FuncData}{x:Str}{sp:Sp}{s₁:Shared}{vs:List Value}{ns:List Int}
    (KX:K.In s₁.heap) (hns:s₁.heap.Ns mainGlobals mg) (hb:s₁.heap.Ns builtinsNs mb) (MQ:∀x:Str,x≠"__name__" ->mb x=bootBuiltins x) (hlim:s₁.heap.NoLimit) (hg:s₁.gens= #[])
    (ha:s₁.heap.get? a=some {cls:= .type "list",data:= .seq vs.toArray}) (hi:IntsAre vs ns) (hl:ns.length<=sizeLine) (hr:eV k callerA)
    (F:∀base:Heap,K.In base->base.Ns mainGlobals mg->bx P w K mg base CX k fa fd [x] sp) (hbind:∀(s:Shared) (u:Value),BindsTo s fd ⟨[u],[]⟩ [(x,u)])
    (kc:∀H:Hp,uX H->aL K H a (ns.map V.int)->sp [.ref a] H (fun v _=>v= .bl true) fun _ _ _=>False)
    (zX:∀H e s',CX [] H s₁ (fun _ _ _=>False) e s'->False):
    codeAny (model P w) callerA (.call (.ref fa) ⟨[.ref a],[]⟩) (fun r s'=>r= .ok (.ret (.bool true))/\OldK s₁.heap s'.heap/\s'.os=s₁.os/\AllBare s'.gens) s₁:=by
  have rv:=BF hi
  have QS:=hi.length
  have core:∀H:Hp,uX H->aL K H a (ns.map V.int)->cI P w H s₁.heap->(∀b,H b≠none->b=a)->(H a≠none->K.lookup a=none)->
      codeAny (model P w) callerA (.call (.ref fa) ⟨[.ref a],[]⟩) (fun r s'=>r= .ok (.ret (.bool true))/\OldK s₁.heap s'.heap/\s'.os=s₁.os/\AllBare s'.gens) s₁:=by
    intro H hO hS hok hA hK
    have FY:∀{b:Addr} {o:Obj},s₁.heap.get? b=some o->H b=none->(jx s₁.heap H).get? b=some o:=fun e n=>MH e n
    have oJ:∀{b:Addr} {o:Obj} {es:Array DictEntry} {ep:Nat},s₁.heap.get? b=some o->o.data= .dict es ep->H b=none:=fun{b o es ep} e d=>by
      cases q:H b with
      |none=>rfl
      | some u =>
        have e':b=a:=hA b (by rw[q];simp)
        subst e'
        rw[ha] at e;cases e
        have d':Data.seq vs.toArray _=Data.dict es ep:=d
        cases d'
    have qY:∀{b:Addr} {m:Str->Option Value},s₁.heap.Ns b m->(jx s₁.heap H).Ns b m:=fun{b m} ⟨o,es,ep,e,d,r⟩=>⟨o,es,ep,FY e (oJ e d),d,r⟩
    have DO:K.In (jx s₁.heap H):=fun b o e=>FY (KX b o e) (by
      cases q:H b with
      |none=>rfl
      | some u =>
        have e':b=a:=hA b (by rw[q];simp)
        subst e'
        rw[hK (by rw[q];simp)] at e;cases e)
    have hM:Mod K mg (jx s₁.heap H):=⟨DO,qY hns,⟨mb,qY hb,MQ⟩,let ⟨mc,h1,h2⟩:=hlim;⟨mc,qY h1,h2⟩⟩
    have e0:qT P w K mg (jx s₁.heap H) callerA [] s₁ H:=⟨rfl,hM,fun b o e=>QT e,Nat.le_of_eq (Le _ _),trivial,fun b hb=>absurd (show b∈([]:List Addr) from hb) (by simp),hok, .of_eq hg⟩
    refine codeAny_mono ((F _ DO (qY hns)).run callerA [] s₁ H ⟨[.ref a],[]⟩ [.ref a] [.ref a] _ _ hr e0 (hbind s₁ (.ref a)) (.cons rfl .nil) (kc H hO hS)) fun r s' h=>?_
    cases r with
    |error e=>exact(zX H e s' h).elim
    | ok fl =>
      cases fl with
      |next=>exact False.elim h
      |brk=>exact False.elim h
      |cont=>exact False.elim h
      | ret u =>
        obtain⟨v,H',os,bare,un,LW,r',q⟩:=h
        have q':v= .bl true:=q
        subst q'
        obtain rfl:u=Value.bool true:=r'
        refine⟨rfl,OldK.of_keep fun b o e=>?_,os,bare⟩
        cases q:H b with
        |none=>exact un.keep b o e q (by intro z;exact absurd (show b∈([]:List Addr) from z) (by simp)) (by simp)
        | some u =>
          rcases hO b with z|⟨ob,xs,z⟩
          · rw[q] at z;cases z
          · have z2:=un.iu b ob _ z
            obtain⟨e1,_⟩:=hok b _ z
            obtain⟨e2,_⟩:=LW b _ z2
            rw[e] at e1;cases e1
            exact e2
  cases hk:K.lookup a with
  | some o =>
    have e:=KX a o hk
    rw[ha] at e
    cases e
    refine core (fun _=>none) (fun _=> .inl rfl) (.inr ⟨_,vs.toArray,_,hk,rfl,rfl,rfl,by rw[List.size_toArray,QS];exact hl,by simpa using rv⟩) (fun b u z=>by have z':(none:Option HO)=some u:=z;cases z') (fun b z=>absurd rfl z) fun z=>absurd rfl z
  | none =>
    refine core (fun b=>if b=a then some (.bF {cls:= .type "list",data:= .seq vs.toArray} (.lst (ns.map V.int))) else none) (fun b=>?_) (.inl (.inr ⟨{cls:= .type "list",data:= .seq vs.toArray},if_pos rfl⟩)) (fun b u z=>?_) (fun b z=>?_) fun _=>hk
    · by_cases hb:b=a
      · exact .inr ⟨_,_,if_pos hb⟩
      · exact .inl (if_neg hb)
    · by_cases hb:b=a
      · have z':=(if_pos hb).symm.trans z
        cases z'
        subst hb
        exact⟨ha,by rw[List.length_map];exact hl,vs,_,rv,ha⟩
      · have z':=(if_neg hb).symm.trans z
        cases z'
    · by_cases hb:b=a
      · exact hb
      · exact absurd (if_neg hb) z
theorem Ka{l:PySem.W.OpenLaw}{n k:Nat}{q:Program}{loose:List Str}{XP:(Str->Option Value)->Heap->Prop}{YP:World->Heap->Prop}{d:DefRec}{K:Params->PySem.W.Frag}{CX:World->iO}{sp:World->Sp}{x:Str}
  (hn:l.most=some n) (hn2:n<=sizeLine) (hdf:d.params.defaults=[]) (hr:eV k callerA)
  (hY:∀(w:World) (h:Heap),YP w h->(K w.params).In h)
  (F : ∀ (w : World) (mg : Str -> Option Value) (fa : Addr) (h : Heap), (K w.params).In h -> h.Ns mainGlobals mg -> mg d.name = some (.ref fa) ->
   ∃fd:FuncData,(∀(s:Shared) (u:Value),BindsTo s fd ⟨[u],[]⟩ [(x,u)])/\
    ∀base:Heap,(K w.params).In base->base.Ns mainGlobals mg->bx l.prog w (K w.params) mg base (CX w) k fa fd [x] (sp w))
  (kc:∀(w:World) (H:Hp) (a:Addr) (ns:List Int),ns.length<=n->uX H->aL (K w.params) H a (ns.map V.int)->sp w [.ref a] H (fun v _=>v= .bl true) fun _ _ _=>False)
  (zX:∀(w:World) (H:Hp) (s:Shared) (e:Value) (s':Shared),CX w [] H s (fun _ _ _=>False) e s'->False):
  PySem.W.WalkO q loose XP YP l.row.toRowW d [] (fun f vs=>PySem.call f vs):=by
 refine Att.LH hn hdf fun w s₀ s₁ mg mb fa o pm cd doc a vs ns G Y ho hd hcd hmg hobj hints hlen hg=>?_
 have KX:=hY w _ Y
 obtain⟨fd,hb,hF⟩:=F w mg fa _ KX G.T.g hmg
 exact OC KX G.T.g G.T.b G.T.builtins G.T.nolimit hg hobj hints (Nat.le_trans hlen hn2) hr hF hb (fun H hO hS=>kc w H a ns hlen hO hS) fun H e s'=>zX w H s₁ e s'
end L2
/-THE LAST THEOREM (shape;LID,My.*are yours):
   My.Adr:a structure of the addresses that your layer names (classes,functions);My.Txt K t:a structure (Prop) of the equations over K;
   My.txt_mk:{K} {implicit addresses ..} (e1:nsIn K mainGlobals "law"=some (some (.ref f))) (e2:K.lookup f=some ⟨oc,od, .func (fnOf "law" "law" params body scope dV kV doc pm an cdv ct),sl⟩) (e3:codeIn K cdv "law"=true) .. :∃t,My.Txt K t
set_option maxRecDepth 100000 in
set_option maxHeartbeats 0 in
(the tactic k_is has no namespace:write k_is)-/
namespace L2
open PySem PySem.Spec PyProof.Rows
def bG(s:Stmt):Arguments:=match s with
 | .FunctionDef _ a _ _ _ _ _ _ _ _=>a
 |_=>{posonlyargs:=[],args:=[],vararg:=none,kwonlyargs:=[],kw_defaults:=[],kwarg:=none,defaults:=[]}
def bC(s:Stmt):List Stmt:=match s with
 | .FunctionDef _ _ b _ _ _ _ _ _ _=>b
 |_=>[]
def az(s:Stmt):Scope:=match s with
 | .FunctionDef _ _ _ _ _ _ sc _ _ _=>sc
 |_=>{kind:= .function,names:=[],isGenerator:=false,isCoroutine:=false}
abbrev bA:iO:=fun _ _ _ _ _ _=>False
abbrev E0:XK:=fun _ _ _=>False
theorem NL{X:Cx}:Passes bA X E0:=fun _ _ _ _ _ _ _ h=>h.elim
structure bD(K:PySem.W.Frag)(x qual:Str)(st:Stmt)(f:Addr)(fd:FuncData):Prop where
 ex:∃(oc:Value) (od:Option Addr) (kV doc pm:Value) (an:Option Addr) (cdv ct:Value) (osl:Array (Option Value)),
  fd=PySem.W.fnOf x qual (bG st) (bC st) (az st) .none kV doc pm an cdv ct/\K.lookup f=some ⟨oc,od, .func fd,osl⟩/\PySem.W.codeIn K cdv qual=true
 kp:PySem.W.keepIn K (.ref f)=true
section
variable{P:Program}{w:World}{K:PySem.W.Frag}{mg:Str->Option Value}{base:Heap}
theorem bD.ok{x qual:Str}{st:Stmt}{f:Addr}{fd:FuncData}{N ps:List Str}{k:Nat}{sp:Sp}(F:bD K x qual st f fd)(S:bL N ps (az st))(len:∀vs H Q E,sp vs H Q E->vs.length=ps.length)
  (hbody : ∀ (cdv : Value) (A : Around) (outer : List Env) (s : Shared) (H : Hp) (vs : List V) (Q : VK) (E : XK), eV k (A.deeper (envOfC qual (az st) s.heap.objs.size f cdv)) -> sp vs H Q E ->
   ∃t,gU (lP bA P w K mg base N qual (az st) f cdv A outer s H E).rj (bC st) t/\t {nx:=fun _ H'=>Q .aN H',rt:=Q} (start N vs) H):bx P w K mg base bA (k+1) f fd ps sp:=by
 obtain⟨oc,od,kV,doc,pm,an,cdv,ct,osl,rfl,lk,hcd⟩:=F.ex
 refine JU lk hcd S len fun A outer s H vs Q E hr kc=>?_
 obtain⟨t,h,q⟩:=hbody cdv A outer s H vs Q E hr kc
 exact⟨t,h.rj,q⟩
theorem bD.binds{x qual:Str}{st:Stmt}{f:Addr}{fd:FuncData}{ps:List Str}(F:bD K x qual st f fd)
  (h:∀(kV doc pm:Value) (an:Option Addr) (cdv ct:Value) (us:List Value),us.length=ps.length->bindArgs (PySem.W.fnOf x qual (bG st) (bC st) (az st) .none kV doc pm an cdv ct) ⟨us,[]⟩=pure (ps.zip us)):Binds K fd ps []:=by
 obtain⟨oc,od,kV,doc,pm,an,cdv,ct,osl,rfl,lk,hcd⟩:=F.ex
 exact .all (h kV doc pm an cdv ct)
theorem bQ{x qual:Str}{st:Stmt}{f:Addr}{oc:Value}{od an:Option Addr}{osl:Array (Option Value)}{kV doc pm cdv ct:Value}(l:K.lookup f=some ⟨oc,od, .func (PySem.W.fnOf x qual (bG st) (bC st) (az st) .none kV doc pm an cdv ct),osl⟩)
  (c:PySem.W.codeIn K cdv qual=true) (k:PySem.W.keepIn K (.ref f)=true):bD K x qual st f (PySem.W.fnOf x qual (bG st) (bC st) (az st) .none kV doc pm an cdv ct):=⟨⟨oc,od,kV,doc,pm,an,cdv,ct,osl,rfl,l,c⟩,k⟩
end
theorem D9{n:Nat}(h:n<=1000):n<sizeLine:=Nat.lt_of_le_of_lt h (by decide)
section
variable{X:Cx}
theorem pv(i:Nat){x:Str}{pos:Pos}(hN:X.N[i]?=some x:=by rfl)(hv:wL X.env.scope x:=by first|exact Or.inl rfl|exact Or.inr (Or.inl rfl)|exact Or.inr (Or.inr rfl))(hd:(x==("__debug__":Str))=false:=by decide)
  (hcd:(x==("__classdict__":Str))=false:=by decide):PE X (.Name x pos) (dM i):=O1 hN hv hd hcd
end
theorem AB{A B:Prop}(h:B):if false=true then A else B:=by
 rw[if_neg Bool.false_ne_true]
 exact h
theorem qU{A B:Prop}(h:A):if true=true then A else B:=by
 rw[if_pos rfl]
 exact h
theorem mR{c A B:Prop}[Decidable c](h1:c->A)(h2:¬c->B):if c then A else B:=by
 by_cases h:c
 ·rw[if_pos h]
  exact h1 h
 ·rw[if_neg h]
  exact h2 h
def bf(H H':Hp):Prop:=∀b o,H b=some o->H' b=some o
theorem bf.refl(H:Hp):bf H H:=fun _ _ h=>h
theorem bf.trans{H H1 H2:Hp}(a:bf H H1)(b:bf H1 H2):bf H H2:=fun c o h=>b c o (a c o h)
theorem bf.free{H H':Hp}(e:bf H H'){l:Addr}(h:H' l=Option.none):H l=Option.none:=by
  cases q:H l with
  |none=>rfl
  | some o =>
    rw[e l o q] at h
    cases h
theorem bf.seq{K:PySem.W.Frag}{H H':Hp}{a:Addr}{xs:List V}(e:bf H H')(h:aL K H a xs):aL K H' a xs:=by
 rcases h with (h|⟨o,h⟩)|h
 ·exact .inl (.inl (e _ _ h))
 ·exact .inl (.inr ⟨o,e _ _ h⟩)
 ·exact .inr h
end L2
set_option maxHeartbeats 1000000
namespace L2
open PySem PySem.Spec PyProof.Rows
def gQ(cells:List (Str×Addr)):List (Str×NameKind)->List (Str×Addr)->List (Str×Addr)
 |[],acc=>acc
 |(n,k)::r,acc=>gQ cells r (if k==NameKind.free then(match cells.lookup n with|some a=>(n,a)::acc|none=>acc) else acc)
theorem uB{env:Env}{f:Str×NameKind->List (Str×Addr)->Sem (ForInStep (List (Str×Addr)))}
    (hf:∀x acc,f x acc=if(x.2==NameKind.free)=true then(do let a<-cellOf env x.1;pure (ForInStep.yield ((x.1,a)::acc))) else pure (ForInStep.yield acc)):
    ∀(l:List (Str×NameKind)) (acc:List (Str×Addr)),(∀x∈l,x.2= .free->∃a,env.cells.lookup x.1=some a)->(forIn l acc f:Sem (List (Str×Addr)))=pure (gQ env.cells l acc)
  |[],acc,_=>by rw[List.forIn_nil];rfl
  | (n, k) :: r, acc, h => by
    have hr:=fun x hx=>h x (List.mem_cons_of_mem _ hx)
    rw[List.forIn_cons,hf]
    by_cases hk:(k==NameKind.free)=true
    · have hk':k=NameKind.free:=by simpa using hk
      obtain⟨a,ha⟩:=h (n,k) List.mem_cons_self hk'
      have hc:cellOf env n=pure a:=by unfold cellOf;rw[ha]
      rw[if_pos hk,hc]
      show(forIn r ((n,a)::acc) f:Sem (List (Str×Addr)))=pure (gQ env.cells r _)
      rw[uB hf r _ hr,if_pos hk,ha]
    · rw[if_neg hk]
      show(forIn r acc f:Sem (List (Str×Addr)))=pure (gQ env.cells r _)
      rw[uB hf r _ hr,if_neg hk]
theorem To{scope:Scope}{env:Env}(h:∀x∈scope.names,x.2= .free->∃a,env.cells.lookup x.1=some a):closureFor scope env=pure (gQ env.cells scope.names []):=by
 simp only[closureFor]
 rw[uB (env:=env) (fun⟨n,k⟩ acc=>by dsimp only) scope.names [] h]
 rfl
theorem vP{cells:List (Str×Addr)}:∀{l:List (Str×NameKind)} {acc:List (Str×Addr)} {x:Str} {c:Addr},(∀y d,acc.lookup y=some d->cells.lookup y=some d)->(gQ cells l acc).lookup x=some c->cells.lookup x=some c
  |[],_,_,_,ha,h=>ha _ _ h
  | (n, k) :: r, acc, x, c, ha, h => by
    refine vP (l:=r) ?_ h
    intro y d hd
    by_cases hk:(k==NameKind.free)=true
    · rw[if_pos hk] at hd
      cases q:cells.lookup n with
      |none=>rw[q] at hd;exact ha _ _ hd
      | some a =>
        rw[q] at hd
        by_cases hy:(y==n)=true
        · have hy':y=n:=by simpa using hy
          subst hy'
          simp[List.lookup_cons] at hd
          rw[q,hd]
        · have hy':(y==n)=false:=by simpa using hy
          simp only[List.lookup_cons,hy'] at hd
          exact ha _ _ hd
    · rw[if_neg hk] at hd;exact ha _ _ hd
theorem AW{cells:List (Str×Addr)}:∀{l:List (Str×NameKind)} {acc:List (Str×Addr)} {x:Str},(acc.lookup x).isSome=true->((gQ cells l acc).lookup x).isSome=true
  |[],_,_,h=>h
  | (n, k) :: r, acc, x, h => by
    refine AW (l:=r) ?_
    by_cases hk:(k==NameKind.free)=true
    · rw[if_pos hk]
      cases q:cells.lookup n with
      |none=>exact h
      | some a =>
        by_cases hy:(x==n)=true
        · simp[List.lookup_cons,hy]
        · have hy':(x==n)=false:=by simpa using hy
          simp only[List.lookup_cons,hy']
          exact h
    · rw[if_neg hk];exact h
theorem AV{cells:List (Str×Addr)}:∀{l:List (Str×NameKind)} {acc:List (Str×Addr)} {x:Str} {a:Addr},(x,NameKind.free)∈l->cells.lookup x=some a->((gQ cells l acc).lookup x).isSome=true
  |[],_,_,_,h,_=>nomatch h
  | (n, k) :: r, acc, x, a, h, hc => by
    rcases List.mem_cons.mp h with e|h
    · obtain⟨rfl,rfl⟩:=Prod.mk.inj e
      refine AW (l:=r) ?_
      rw[if_pos (by decide),hc]
      simp[List.lookup_cons]
    · exact AV (l:=r) h hc
theorem BV{cells:List (Str×Addr)}{l:List (Str×NameKind)}{x:Str}{a:Addr}(h:(x,NameKind.free)∈l)(hc:cells.lookup x=some a):(gQ cells l []).lookup x=some a:=by
 obtain⟨c,e⟩:=Option.isSome_iff_exists.mp (AV (acc:=[]) h hc)
 have:=vP (fun y d (q:([]:List (Str×Addr)).lookup y=some d)=>by simp at q) e
 rw[hc] at this;cases this
 exact e
theorem vt{env:Env}:∀{l:List (Str×NameKind)} {x:Str} {k:NameKind},(∀y∈l,y.2≠ .cell)->
    (l.map fun(n,k)=>if(k==NameKind.free && env.scope.kind== .function && env.kindOf n==some .cell) then(n,NameKind.cell) else(n,k)).lookup x=some k->k= .cell\/k= .free->l.lookup x=some .free
  |[],_,_,_,h,_=>by simp at h
  | (n, q) :: r, x, k, hc, h, hk => by
    have hr:=fun y hy=>hc y (List.mem_cons_of_mem _ hy)
    have ih:=vt (env:=env) (l:=r) (x:=x) (k:=k) hr
    rw[List.map_cons] at h
    dsimp only at h
    by_cases hx:(x==n)=true
    · simp only[List.lookup_cons,hx]
      by_cases hq:(q==NameKind.free && env.scope.kind== .function && env.kindOf n==some .cell)=true
      · have:q= .free:=by
          simp only[Bool.and_eq_true] at hq
          simpa using hq.1.1
        rw[this]
      · rw[if_neg hq] at h
        simp only[List.lookup_cons,hx] at h
        have C7:q=k:=Option.some.inj h
        rcases hk with e|e
        · exact absurd (C7.trans e) (hc (n,q) List.mem_cons_self)
        · rw[C7,e]
    · have hx':(x==n)=false:=by simpa using hx
      simp only[List.lookup_cons,hx']
      refine ih ?_ hk
      by_cases hq:(q==NameKind.free && env.scope.kind== .function && env.kindOf n==some .cell)=true
      · rw[if_pos hq] at h
        simp only[List.lookup_cons,hx'] at h
        exact h
      · rw[if_neg hq] at h
        simp only[List.lookup_cons,hx'] at h
        exact h
theorem EI{env:Env}:∀{l:List (Str×NameKind)} {x:Str},l.lookup x=some .free->
    (l.map fun(n,k)=>if(k==NameKind.free && env.scope.kind== .function && env.kindOf n==some .cell) then(n,NameKind.cell) else(n,k)).lookup x=some .cell\/
    (l.map fun(n,k)=>if(k==NameKind.free && env.scope.kind== .function && env.kindOf n==some .cell) then(n,NameKind.cell) else(n,k)).lookup x=some .free
  |[],_,h=>by simp at h
  | (n, q) :: r, x, h => by
    have ih:=EI (env:=env) (l:=r) (x:=x)
    rw[List.map_cons]
    dsimp only
    by_cases hx:(x==n)=true
    · simp only[List.lookup_cons,hx] at h
      by_cases hq:(q==NameKind.free && env.scope.kind== .function && env.kindOf n==some .cell)=true
      · rw[if_pos hq]
        left
        simp only[List.lookup_cons,hx]
      · rw[if_neg hq]
        right
        simp only[List.lookup_cons,hx]
        exact h
    · have hx':(x==n)=false:=by simpa using hx
      simp only[List.lookup_cons,hx'] at h
      have:=ih h
      by_cases hq:(q==NameKind.free && env.scope.kind== .function && env.kindOf n==some .cell)=true
      · rw[if_pos hq]
        simp only[List.lookup_cons,hx']
        exact this
      · rw[if_neg hq]
        simp only[List.lookup_cons,hx']
        exact this
def cK(sx:Scope)(NX:List Str)(scope:Scope)(N:List Str)(mp:List (Option Nat)):Bool:=
 (scope.kind== .function) && scope.names.all (fun y=>y.2 != .cell) && scope.names.all (fun y=>y.2 != .local||scope.names.lookup y.1==some .local) &&
 scope.names.all (fun y=>y.2 != .free||sx.names.lookup y.1==some .cell||sx.names.lookup y.1==some .free) &&(mp.length==N.length) &&
 ((N.zip mp).all fun p=>match p.2 with|none=>true|some j=>NX[j]?==some p.1 && scope.names.lookup p.1==some .free)
structure cz(sx:Scope)(NX:List Str)(scope:Scope)(N:List Str)(mp:List (Option Nat)):Prop where
 kind:scope.kind= .function
 cell:∀y∈scope.names,y.2≠ .cell
 names:∀y∈scope.names,y.2= .local->scope.names.lookup y.1=some .local
 free:∀y∈scope.names,y.2= .free->sx.names.lookup y.1=some .cell\/sx.names.lookup y.1=some .free
 len:mp.length=N.length
 look:∀(i j:Nat) (x:Str),mp[i]?=some (some j)->N[i]?=some x->NX[j]?=some x/\scope.names.lookup x=some .free
theorem cz.of{sx:Scope}{NX:List Str}{scope:Scope}{N:List Str}{mp:List (Option Nat)}(h:cK sx NX scope N mp=true):cz sx NX scope N mp:=by
 unfold cK at h
 simp only[Bool.and_eq_true,List.all_eq_true] at h
 obtain⟨⟨⟨⟨⟨h1,h2⟩,h3⟩,h4⟩,h5⟩,h6⟩:=h
 refine⟨by simpa using h1,fun y hy=>by simpa using h2 y hy,fun y hy e=>?_,fun y hy e=>?_,by simpa using h5,fun i j x e1 e2=>?_⟩
 ·have:=h3 y hy
  simpa[e] using this
 ·have:=h4 y hy
  simpa[e] using this
 ·have hm:(x,some j)∈N.zip mp:=by
   have:(N.zip mp)[i]?=some (x,some j):=by
    rw[List.getElem?_zip_eq_some];exact⟨e2,e1⟩
   exact List.mem_of_getElem? this
  have:=h6 _ hm
  simpa using this
def dZ(mp:List (Option Nat))(σ:St):St:=mp.map fun o=>match o with|none=>none|some j=>match σ[j]? with|some v=>v|none=>none
def gK(X:Cx)(scope:Scope)(C:Addr)(N:List Str)(s₀:Shared)(H₀:Hp)(fp:List Addr):Cx:=
 {X with N:=N,s₀:=s₀,H₀:=H₀,env:=compEnvC scope (gQ X.env.cells scope.names []) C X.env,outer:=X.stack,ex:=fp,fn:=fun _=>false,pn:=[],xe:=fun _ _=>False}
def nZ(X:Cx)(ifs:List Expr)(t:TT):Prop:=
 ∀(pins:List (Addr×Obj)) (s:Shared) (σ:St) (H:Hp) (Q:Bool->Hp->Prop),Inv X pins σ H s->t σ H Q->
  wpAny (model X.prog X.w) X.A (forIn ifs true fun c r=>if r=true then do let ok<-isTrue c X.env (eval c X.env);pure (ForInStep.yield ok) else pure (ForInStep.yield r)) (TP X pins σ Q) X.xe s
def pK:TT:=fun _ H Q=>Q true H
theorem gk{X:Cx}:nZ X [] pK:=fun pins s σ H Q I h=>wpAny_tests_nil ⟨H,I,h⟩
theorem gJ{X:Cx}{c:Expr}{t:TT}(h:PT X c t):nZ X [c] t:=fun pins s σ H Q I q=>wpAny_tests_one (h pins s σ H Q I q)
def kN(J:It)(g:TG)(tc:TT)(te:TE)(acc:Addr)(Qe:Hp->Prop)(σ:St)(H:Hp):Prop:=∃W:Nat->Nat->St->Hp->Prop,(∃m,W 0 m σ H)/\∀i m σ H,W i m σ H->
 (J.stop i H /\ Qe H) \/ (J.go i H /\ ∃ Nx : St -> Hp -> Prop, (∀ σ' H', Nx σ' H' -> ∃ m', m' < m /\ W (i + 1) m' σ' H') /\ ∀ x H', J.jT i H x H' -> g x σ H' fun σ2 H2 => tc σ2 H2 fun b H3 =>
  if b=true then te σ2 H3 fun v H4=>∃ys,H4 acc=some (.lst ys)/\ys.length<sizeLine/\Nx σ2 (upd H4 acc (.lst (ys++[v]))) else Nx σ2 H3)
def jN(wi:TI)(g:TG)(tc:TT)(te:TE)(mp:List (Option Nat)):TE:=fun σ H Q=>wi σ H fun J H1=>∀acc,H1 acc=none->kN J g tc te acc (fun H'=>Q (.ref acc) H') (dZ mp σ) (upd H1 acc (.lst []))
section
variable{prog:Program}{w:World}{A:Around}{R:Result->Shared->Prop}{s:Shared}
theorem Nk{elt target iter:Expr}{ifs:List Expr}{scope:Scope}{pos:Pos}{it acc:Value}{env:Env}(I:Nat->Shared->Prop)
    (turn:∀n s,I n s->wpAny (model prog w) A (pyNext it) (fun r s₁=>match r with
      |none=>R (.ok .next) s₁
      |some v=>wpAny (model prog w) A (letOwnedTupleGo target it v) (fun _ s₀=>wpAny (model prog w) A (assign target env v) (fun _ s₂=>
          wpAny (model prog w) A (forIn ifs true fun c r=>if r=true then do let ok<-isTrue c env (eval c env);pure (ForInStep.yield ok) else pure (ForInStep.yield r)) (fun ok s₃=>
            if ok=true then wpAny (model prog w) A (eval elt env) (fun x s₄=>
              wpAny (model prog w) A (call (.builtin "list.append") [acc,x]) (fun _ s₅=>∃m,m<n/\I m s₅) (fun _ _=>False) s₄) (fun _ _=>False) s₃
            else∃m,m<n/\I m s₃) (fun _ _=>False) s₂) (fun _ _=>False) s₀) (fun _ _=>False) s₁) (fun _ _=>False) s)
    (n:Nat) (h:I n s):
    codeAny (model prog w) A (.compLoop (.ListComp elt [⟨target,iter,ifs,0⟩] scope pos) 0 it acc env) R s:=by
  refine codeAny_loop rfl I (fun n s hI=>?_) n h
  show wpAny _ A ((compTurn (.ListComp elt [⟨target,iter,ifs,0⟩] scope pos) 0 it acc env).onRaise (fun x=>do noteFrame x env;theTreesLotGoes x)) _ _ s
  refine wpAny_noted ?_
  rw[compTurn_list]
  refine wpAny_bind (wpAny_standAt (wpAny_bind (wpAny_mono (turn n s hI) (fun r s₁ h₁=>?_) fun _ _ h'=>h'.elim)))
  cases r with
  |none=>exact wpAny_pure h₁
  | some v =>
    refine wpAny_bind (wpAny_mono h₁ (fun _ s₀ h₀=>?_) fun _ _ h'=>h'.elim)
    refine wpAny_bind (wpAny_mono h₀ (fun _ s₂ h₂=>wpAny_bind (wpAny_mono h₂ (fun ok s₃ h₃=>?_) fun _ _ h'=>h'.elim)) fun _ _ h'=>h'.elim)
    cases ok with
    |false=>exact wpAny_pure ⟨rfl,h₃⟩
    | true =>
      exact wpAny_bind (wpAny_bind (wpAny_mono h₃ (fun x s₄ h₄=>wpAny_bind (wpAny_mono h₄ (fun _ s₅ h₅=>wpAny_pure (wpAny_pure ⟨rfl,h₅⟩)) fun _ _ h'=>h'.elim)) fun _ _ h'=>h'.elim))
end
section
variable{X:Cx}
theorem Cw{elt iter tg:Expr}{ifs:List Expr}{scope:Scope}{pos pos':Pos}{N:List Str}{mp:List (Option Nat)}{wi:TI}{g:TG}{tc:TT}{te:TE}{use:Option (Value->Sem Unit)}
    {pins:List (Addr×Obj)} {s:Shared} {σ:St} {H:Hp} {Q:VK} {QQ:Value->Shared->Prop}
    (ok:cz X.env.scope X.N scope N mp) (hc:X.calm=true) (hi:PI X tg iter wi)
    (hb:∀C s₀ H₀ fp,PG (gK X scope C N s₀ H₀ fp) tg g/\nZ (gK X scope C N s₀ H₀ fp) ifs tc/\PE (gK X scope C N s₀ H₀ fp) elt te)
    (hs:∀x,foldedSetIterable iter X.env x=pure x) (I:Inv X pins σ H s) (h:jN wi g tc te mp σ H Q)
    (fin:∀acc C H' s' m,Inv X pins σ H' s'->fG X pins H' C->s'.heap.Ns C m->Q (.ref acc) H'->compPost (model X.prog X.w) X.A X.xe use QQ (.ref acc) C (.ok .next) s'):
    wpAny (model X.prog X.w) X.A (comprehension (.ListComp elt [⟨tg,iter,ifs,0⟩] scope pos) scope X.env pos' (newList []) false (eval iter X.env) use) QQ X.xe s:=by
  have hfree:∀x∈scope.names,x.2= .free->∃a,X.env.cells.lookup x.1=some a:=fun x hx e=>I.ok.has x.1 (ok.free x hx e)
  refine wpAny_comprehension_free (use:=use) rfl hs (To hfree) ok.kind ok.names (aP (hi pins s σ H _ I h) fun v s1 h1=>aP h1 fun itv s2 h2=>?_)
  obtain⟨it,fp,tn,J,H2,e,I2,T,st2,f2,hW⟩:=h2
  subst e
  refine wpAny_newObj_type (wpAny_newFunctionEnv ok.cell (by intro y hy;simp at hy) (fun h₁ t7 vJ=>?_) ok.kind)
  dsimp only at t7 vJ⊢
  have I3:=I2.zj (its:=[]) (ys:=[]) (t':=s2.toks) .nil (Nat.zero_le _)
  have hW:=hW s2.heap.objs.size I2.fresh
  obtain⟨W,⟨m0,w0⟩,turn⟩:=hW
  generalize ye:s2.heap.push {cls:= .type "list",dict:=none,data:= .seq ([]:List Value).toArray}=HP at t7 vJ⊢
  have I3:Inv X pins σ (upd H2 s2.heap.objs.size (.lst [])) {s2 with heap:=HP}:=by rw[<-ye];exact I3
  generalize Wc:upd H2 s2.heap.objs.size (.lst [])=H3 at I3 w0
  have hC:HP.objs.size=s2.heap.objs.size+1:=by rw[<-ye,Heap.size_push]
  have old:∀b o,HP.get? b=some o->h₁.get? b=some o:=fun b o e=>vJ.extBut b o (Nat.ne_of_lt (Heap.lt_size e)) (Heap.get?_push_of_some _ e)
  have jd:∀b∈fp,b<s2.heap.objs.size:=fun b hb=>by
    obtain⟨o,e,_⟩:=T.obj 0 _ st2 b hb
    exact Heap.lt_size e
  have Lw:∀b∈fp,H3 b=none:=fun b hb=>by
    rw[<-Wc,aF (Nat.ne_of_lt (jd b hb))]
    exact(f2 b hb).1
  have oE:∀{x:Str} {c:Addr},(gQ X.env.cells scope.names []).lookup x=some c->X.env.cells.lookup x=some c:=fun{x c} e=>vP (fun y d q=>by simp at q) e
  have sF:(gK X scope HP.objs.size N {s2 with heap:=HP} H3 fp).Ok:=by
    refine⟨I2.ok.mod,ok.kind,I2.ok.glob,I2.ok.blt,Nat.le_refl _,fun x y c e1 e2=>I2.ok.inj x y c (oE e1) (oE e2),fun x hx=>?_,(fun x c e=>absurd (show false=true from e) (by decide)),I2.ok.hd,I2.ok.frames, .inl rfl,fun b hb=>?_,I3.bs,Nat.le_trans I3.ok.ko I3.sz,fun b o e hb=>?_,fun b hb hz=>?_,I3.stack,I3.ER⟩
    · have hx':scope.names.lookup x=some .free:=by
        rcases hx with hx|hx
        · exact vt ok.cell hx (.inl rfl)
        · exact vt ok.cell hx (.inr rfl)
      have hm:=PySem.mem_of_lookup hx'
      obtain⟨a,ha⟩:=hfree _ hm rfl
      exact⟨a,BV hm ha⟩
    · refine⟨fun z=>?_,fun x c e=>(f2 b hb).2.2.2.2.1 x c (oE e)⟩
      have z':b=HP.objs.size:=z
      have q:=jd b hb
      rw[z',hC] at q
      exact absurd q (Nat.not_lt.mpr (Nat.le_succ _))
    · rcases(f2 b hb).2.2.2.1 with z|z
      · exact I2.ok.nP b o e z
      · exact absurd (Nat.lt_of_lt_of_le (Heap.lt_size (I2.ok.bs b o e).1) z) (Nat.lt_irrefl _)
    · rcases List.mem_cons.mp (I2.An b hz) with z|z
      · exact(f2 b hb).2.1 z
      · exact(f2 b hb).2.2.1 z
  have IY:Inv (gK X scope HP.objs.size N {s2 with heap:=HP} H3 fp) [] (dZ mp σ) H3 {s2 with heap:=h₁,toks:=s2.toks+([]:List (Str×Value)).length}:=by
    refine⟨sF,rfl,I2.bare,Un.kept old,⟨_,t7,fun i x v e1 e2 e3=>?_⟩,fun x c e=>?_,I3.hok.fresh (Nat.le_refl _),fun x c e=>I3.gF x c (oE e),fun p hp=>absurd (show p∈([]:List (Addr×Obj)) from hp) (by simp),I3.hok.kept old,?_⟩
    · have hj:∃j,mp[i]?=some (some j)/\σ[j]?=some (some v):=by
        unfold dZ at e2
        rw[List.getElem?_map] at e2
        cases q:mp[i]? with
        |none=>rw[q] at e2;cases e2
        | some o =>
          rw[q] at e2
          cases o with
          |none=>cases e2
          | some j =>
            refine⟨j,rfl,?_⟩
            have e2:(match σ[j]? with|some v=>v|none=>none)=some v:=Option.some.inj e2
            cases r:σ[j]? with
            |none=>rw[r] at e2;cases e2
            | some u =>
              rw[r] at e2
              have e2:u=some v:=e2
              rw[e2]
      obtain⟨j,hj1,hj2⟩:=hj
      obtain⟨l1,l2⟩:=ok.look i j x hj1 e1
      have hm:=PySem.mem_of_lookup l2
      have kx:=ok.free _ hm rfl
      obtain⟨mm,_,hl⟩:=I3.loc
      obtain⟨u,ru,lk⟩:=hl j x v l1 hj2 (kx.elim (fun z=> .inr (.inl z)) fun z=> .inr (.inr z))
      refine⟨u,ru, .inr ⟨EI l2,?_⟩⟩
      rcases lk with ⟨k,_⟩|⟨_,c,e,z⟩
      · exfalso
        have k':X.env.scope.names.lookup x=some .local:=k
        rcases kx with kx|kx
        · rw[k'] at kx;cases kx
        · rw[k'] at kx;cases kx
      · refine⟨c,BV hm e,?_⟩
        obtain⟨o,ho,hd⟩:=z
        exact⟨o,old c o ho,hd⟩
    · obtain⟨v,o,ho,hd⟩:=I3.cell x c (oE e)
      exact⟨v,o,old c o ho,hd⟩
    · show(dZ mp σ).length=N.length
      unfold dZ
      rw[List.length_map,ok.len]
  have jP:∀{H':Hp},(∀b∈fp,H' b=none)->∀b∈fp,fG (gK X scope HP.objs.size N {s2 with heap:=HP} H3 fp) [] H' b:=fun{H'} hn b hb=>
    ⟨hn b hb,(sF.rS b hb).1,sF.pP b hb, .inl hb,(sF.rS b hb).2,fun p hp=>absurd (show p∈([]:List (Addr×Obj)) from hp) (by simp)⟩
  have Dc:tn 0 h₁:=T.keep 0 _ _ st2 fun b hb o e=>old b o (by rw[<-ye];exact Heap.get?_push_of_some _ e)
  have loop:codeAny (model X.prog X.w) X.A (.compLoop (.ListComp elt [⟨tg,iter,ifs,0⟩] scope pos) 0 (.ref it) (.ref s2.heap.objs.size) (compEnvC scope (gQ X.env.cells scope.names []) HP.objs.size X.env))
      (compPost (model X.prog X.w) X.A X.xe use QQ (.ref s2.heap.objs.size) HP.objs.size) {s2 with heap:=h₁,toks:=s2.toks+([]:List (Str×Value)).length}:=by
    obtain⟨hg,ht,he⟩:=hb HP.objs.size {s2 with heap:=HP} H3 fp
    generalize hY:gK X scope HP.objs.size N {s2 with heap:=HP} H3 fp=Y at hg ht he IY jP
    have yp:Y.prog=X.prog:=by rw[<-hY];rfl
    have yw:Y.w=X.w:=by rw[<-hY];rfl
    have yK:Y.K=X.K:=by rw[<-hY];rfl
    have yA:Y.A=X.A:=by rw[<-hY];rfl
    have yc:Y.calm=true:=by rw[<-hY];exact hc
    have yx:Y.xe=fun _ _=>False:=by rw[<-hY];rfl
    have AF:Y.env=compEnvC scope (gQ X.env.cells scope.names []) HP.objs.size X.env:=by rw[<-hY];rfl
    rw[<-AF]
    refine Nk (fun n s'=>∃i σ' H',Inv Y [] σ' H' s'/\tn i s'.heap/\(∀b∈fp,H' b=none)/\W i n σ' H') ?_ m0 ⟨0,_,H3,IY,Dc,Lw,w0⟩
    rintro n s3 ⟨i,σ3,H4,I4,st3,fr3,w3⟩
    rcases turn i n σ3 H4 w3 with ⟨stop,qn⟩|⟨go,Nx,hN,step⟩
    · have q0:=T.done Y yp yw yK yc i [] s3 σ3 H4 (fun _ _=>False) I4 (jP fr3) st3 stop
      rw[yA] at q0
      refine aP q0 fun r s4 ⟨hr,I5⟩=>?_
      subst hr
      show compPost (model X.prog X.w) X.A X.xe use QQ (.ref s2.heap.objs.size) HP.objs.size (.ok .next) s4
      obtain⟨m,hm,_⟩:=id I5.loc
      have yl:Y.env.locals=HP.objs.size:=by rw[AF];rfl
      rw[yl] at hm
      have fC:H4 HP.objs.size=none:=by have:=I5.free;rw[yl] at this;exact this
      have ub:=I5.base
      have ub':Un (frs X.stack) fp H3 H4 HP s4.heap:=by rw[<-hY] at ub;exact ub
      have hos:s4.os=s2.os:=by have:=I5.os;rw[<-hY] at this;exact this
      have Ru:cI X.prog X.w H4 s4.heap:=by have:=I5.hok;rw[yp,yw] at this;exact this
      have IX:Inv X pins σ H4 s4:=I3.RT (ch:=fp) hos ub' Ru I5.bare fun b hb=>⟨(f2 b hb).2.2.2.1,(f2 b hb).2.1,(f2 b hb).2.2.2.2.1,(f2 b hb).2.2.2.2.2⟩
      exact fin _ _ H4 s4 m IX (I3.lF (Nat.le_refl _) fC) hm qn
    · have q0:=T.item Y yp yw yK yc i [] s3 σ3 H4 (fun _ _=>False) I4 (jP fr3) st3 go
      rw[yA] at q0
      refine aP q0 fun r s4 ⟨u,hr,h4⟩=>?_
      subst hr
      refine aP h4 fun _ s5 ⟨x,H5,I5,r5,y5,kY,sR⟩=>?_
      have tU:=I5.pinned (jP sR) (T.obj _ _ kY)
      rw[<-yx,<-yp,<-yw,<-yA]
      refine aP (hg _ s5 σ3 H5 x u _ tU r5 (step x H5 y5)) fun _ s6 ⟨nJ,H6,I6,q6⟩=>?_
      refine aP (ht _ s6 nJ H6 _ I6 q6) fun b s7 ⟨H7,I7,q7⟩=>?_
      have again:∀{oO:St} {H8:Hp} {s8:Shared},Inv Y ([]++nE fp s5.heap) oO H8 s8->Nx oO H8->∃m,m<n/\∃i σ' H',Inv Y [] σ' H' s8/\tn i s8.heap/\(∀b∈fp,H' b=none)/\W i m σ' H':=fun{oO H8 s8} I8 n8=>by
        obtain⟨m',hm,w8⟩:=hN oO H8 n8
        refine⟨m',hm,i+1,oO,H8,I8.rN,T.keep _ _ _ kY fun b hb o e=>(I8.pin (b,o) (List.mem_append_right _ (List.mem_append_right _ (qE hb e)))).1,fun b hb=>?_,w8⟩
        obtain⟨o,e,d⟩:=T.obj _ _ kY b hb
        exact(I8.pin (b,o) (List.mem_append_right _ (List.mem_append_right _ (qE hb e)))).2.1
      cases b with
      | false =>
        rw[if_neg Bool.false_ne_true]
        rw[if_neg Bool.false_ne_true] at q7
        exact again I7 q7
      | true =>
        rw[if_pos rfl]
        rw[if_pos rfl] at q7
        refine aP (he _ s7 nJ H7 _ I7 q7) fun v s8 ⟨y,H8,I8,r8,ys,e8,z8,n8⟩=>?_
        refine aP (AJ _ s8 nJ H8 (.ref s2.heap.objs.size) [y] (.ref s2.heap.objs.size) [v] (fun _ H9=>H9=upd H8 s2.heap.objs.size (.lst (ys++[y]))) I8 rfl (.cons r8 .nil) ⟨_,ys,y,rfl,rfl,e8,z8,rfl⟩) fun v9 s9 ⟨y9,H9,I9,r9,e9⟩=>?_
        subst e9
        exact again I9 n8
  refine codeAny_compStart_list loop (T.self _ _ _ _ _ Dc loop)
theorem fG.turned{pins:List (Addr×Obj)}{s:Shared}{σ:St}{H:Hp}{C:Addr}{h':Heap}(I:Inv X pins σ H s)(f:fG X pins H C)(hs:Heap.SameBut C s.heap h'):Inv X pins σ H {s with heap:=h'}:=
 I.turned (t':=s.toks) (fun b o hb e=>(hs.2 b hb).trans e) f.1 f.2.1 f.2.2.2.1 f.2.2.2.2.1 f.2.2.2.2.2
theorem dJ{elt iter tg:Expr}{ifs:List Expr}{scope:Scope}{pos:Pos}{N:List Str}{mp:List (Option Nat)}{wi:TI}{g:TG}{tc:TT}{te:TE}
  (ok:cz X.env.scope X.N scope N mp) (hi:PI X tg iter wi)
  (hb:∀C s₀ H₀ fp,PG (gK X scope C N s₀ H₀ fp) tg g/\nZ (gK X scope C N s₀ H₀ fp) ifs tc/\PE (gK X scope C N s₀ H₀ fp) elt te) (hc:X.calm=true:=by rfl)
  (hs:∀x,foldedSetIterable iter X.env x=pure x:=by intro _;rfl):PE X (.ListComp elt [⟨tg,iter,ifs,0⟩] scope pos) (jN wi g tc te mp):=by
 intro pins s σ H Q I h
 rw[eval_ListComp]
 refine Cw (use:=none) ok hc hi hb hs I h fun acc C H' s' m I' f hn q=>?_
 exact⟨m,hn,fun h' hs'=>⟨.ref acc,H',f.turned I' hs',rfl,q⟩⟩
def qL(i:Nat)(t:TE):TS:=fun D σ H=>t σ H fun v H'=>D.nx (σ.set i (some v)) H'
theorem oz{elt iter tg:Expr}{ifs:List Expr}{scope:Scope}{pos spos py:Pos}{N:List Str}{mp:List (Option Nat)}{wi:TI}{g:TG}{tc:TT}{te:TE}{i:Nat}{y:Str}
  (hN:X.N.Nodup) (hy:X.N[i]?=some y) (hk:X.env.kindOf y=some .local)
  (ok:cz X.env.scope X.N scope N mp) (hi:PI X tg iter wi)
  (hb:∀C s₀ H₀ fp,PG (gK X scope C N s₀ H₀ fp) tg g/\nZ (gK X scope C N s₀ H₀ fp) ifs tc/\PE (gK X scope C N s₀ H₀ fp) elt te) (hc:X.calm=true:=by rfl)
  (hsw:swapsWith (.ListComp elt [⟨tg,iter,ifs,0⟩] scope pos) (some (.Name y py)) spos.line X.env=pure true:=by rfl)
  (hs:∀x,foldedSetIterable iter X.env x=pure x:=by intro _;rfl):PS X (.Assign [.Name y py] (.ListComp elt [⟨tg,iter,ifs,0⟩] scope pos) spos) (qL i (jN wi g tc te mp)):=by
 intro pins s σ H D I h
 rw[exec_Assign_Name_used _ _ _ _ hsw]
 refine wpAny_bind (wpAny_standAt (wpAny_bind ?_))
 show wpAny _ X.A (do let _<-comprehension (.ListComp elt [⟨tg,iter,ifs,0⟩] scope pos) scope X.env _ (newList []) false (eval iter X.env) (some (assign (.Name y py) X.env))) _ _ s
 refine wpAny_bind (wpAny_mono (Cw (use:=some (assign (.Name y py) X.env)) (QQ:=fun _ s'=>SP X pins D .next s') ok hc hi hb hs I h fun acc C H' s' m I' f hn q=>?_) (fun _ s' hq=>wpAny_pure (wpAny_pure hq)) fun _ _ e=>e)
 refine wpAny_assign_Name (Dh (v:= .ref acc) I' hN hy (.inl hk) rfl (fun s2 I2 ⟨a,sb,ha⟩=>?_) (.inr hk))
 have hne:C≠a:=by
  rcases ha with z|z
  ·rw[z];exact f.2.1
  ·exact fun e=>f.2.2.2.2.1 y a z e.symm
 exact⟨m,hn.sameBut sb hne,fun h' hs'=>⟨_,H',f.turned I2 hs',q⟩⟩
end
def Sm(i:Int):Prop:= -(2^300)<i/\i<2^300
theorem zv{i:Int}(h:Sm i):Builtin.Int.intBits i<=2^20:=by
 obtain⟨h1,h2⟩:=h
 unfold Builtin.Int.intBits
 split
 ·exact Nat.zero_le _
 ·rename_i h0
  have hn:i.natAbs≠0:=by
   intro e
   apply h0
   simp
   omega
  have h3:i.natAbs<2^300:=by omega
  have h4:i.natAbs.log2<300:=(Nat.log2_lt hn).mpr h3
  have:(2:Nat)^20=1048576:=by decide
  omega
theorem Px{x y:Int}(h:Sm y):Builtin.divisionGoesByPylong x y=false:=by
 refine PyProof.noPylong_of_log2 ?_
 obtain⟨h1,h2⟩:=h
 by_cases h0:y.natAbs=0
 ·rw[h0];decide+kernel
 ·have h3:y.natAbs<2^300:=by omega
  have h4:y.natAbs.log2<300:=(Nat.log2_lt h0).mpr h3
  omega
section
variable{X:Cx}
theorem o8:cQ X (binaryOp .FloorDiv) (rI (fun _ j=>0<j/\Sm j) fun i j=> .int (i/j)):=qH fun i j _ _ _ _ _ hc q=>
 floordiv_int (by omega) (by rw[Int.fdiv_eq_ediv_of_nonneg _ (by omega)];exact q) (.inl (Px hc.2))
theorem QV:qF X "int.bit_length" (fun x xs H Q=>∃i,x= .int i/\xs=[]/\Q (.int (Builtin.Int.intBits i)) H):=by
 intro pins s σ H x xs v us Q I rx rv h
 obtain⟨i,rfl,rfl,q⟩:=h
 obtain⟨t,rfl⟩:=rx
 cases rv
 exact call_int_bit_length ⟨.int _,H,I.tok _,⟨_,rfl⟩,q⟩
def jl(K:PySem.W.Frag):List V->Hp->VK->Prop:=fun xs H Q=>∃x T t b,xs=[x, .ty T]/\fV K H x t/\PySem.W.kitOne K t (.type T)=some b/\Q (.bl b) H
theorem nD:fH X (.builtin "isinstance") (jl X.K):=by
 intro pins s σ H xs us Q I rv h
 obtain⟨x,T,t,b,rfl,ty,e,q⟩:=h
 obtain⟨u,v,rfl,ru,rv⟩:=rv.two
 cases (show v=Value.type T from rv)
 exact Tn I ru ty e fun tk=>⟨.bl b,H,I.tok tk,rfl,q⟩
def pB:PyData->Key->Prop
 | .int i,k=>k= .inl i
 | .str x,k=>k= .inr x
 |_,_=>False
mutual
def af(nb:Addr->Prop)(H:Hp):PyData->V->Prop
 | .none,v=>v= .aN
 | .bool b,v=>v= .bl b
 | .int i,v=>v= .int i
 | .str x,v=>v= .str x
 | .list ds,v=>∃a xs,v= .ref a/\¬nb a/\H a=some (.lst xs)/\ai nb H ds xs
 | .tuple ds,v=>∃a xs,v= .ref a/\¬nb a/\H a=some (.tup xs)/\ai nb H ds xs
 | .dict kvs,v=>∃a ps,v= .ref a/\¬nb a/\Rd H a (.dK ps)/\aB nb H kvs ps
termination_by structural d=>d
def ai(nb:Addr->Prop)(H:Hp):List PyData->List V->Prop
 |[],xs=>xs=[]
 |d::ds,xs=>∃y ys,xs=y::ys/\af nb H d y/\ai nb H ds ys
termination_by structural d=>d
def aB(nb:Addr->Prop)(H:Hp):List (PyData×PyData)->List (Key×V)->Prop
 |[],xs=>xs=[]
 |d::ds,xs=>∃p ys,xs=p::ys/\bN nb H d p/\aB nb H ds ys
termination_by structural d=>d
def bN(nb:Addr->Prop)(H:Hp):PyData×PyData->Key×V->Prop
 |(k,d),p=>pB k p.1/\af nb H d p.2
termination_by structural d=>d
end
def aW(nb:Addr->Prop)(H H':Hp):Prop:=∀a o,¬nb a->H a=some o->H' a=some o
def Nb(b:Addr):Addr->Prop:=fun a=>a=b
section
variable{nb bE:Addr->Prop}{H H1 H2 H':Hp}{a b c p:Addr}{o:HO}{xs:List V}
theorem aW.refl(nb:Addr->Prop)(H:Hp):aW nb H H:=fun _ _ _ h=>h
theorem aW.trans(x:aW nb H H1)(y:aW nb H1 H2):aW nb H H2:=fun a o n h=>y a o n (x a o n h)
theorem aW.of(x:bf H H'):aW nb H H':=fun a o _ h=>x a o h
theorem aW.set(h:nb p):aW nb H (upd H p o):=fun a u n q=>by rw[aF (fun e=>n (by rw[e];exact h))];exact q
theorem aW.rd{u:HO}(x:aW nb H H')(n:¬nb a)(h:Rd H a u):Rd H' a u:=by
 rcases h with h|⟨o,h⟩
 ·exact .inl (x _ _ n h)
 ·exact .inr ⟨o,x _ _ n h⟩
end
mutual
theorem af.keep{nb:Addr->Prop}{H H':Hp}(x:aW nb H H'):∀{d:PyData} {v:V},af nb H d v->af nb H' d v
 | .none,_,h=>by unfold af at h⊢;exact h
 | .bool _,_,h=>by unfold af at h⊢;exact h
 | .int _,_,h=>by unfold af at h⊢;exact h
 | .str _,_,h=>by unfold af at h⊢;exact h
 | .list ds,_,h=>by unfold af at h⊢;obtain⟨a,xs,e,n,s,r⟩:=h;exact⟨a,xs,e,n,x _ _ n s,ai.keep x r⟩
 | .tuple ds,_,h=>by unfold af at h⊢;obtain⟨a,xs,e,n,s,r⟩:=h;exact⟨a,xs,e,n,x _ _ n s,ai.keep x r⟩
 | .dict kvs,_,h=>by unfold af at h⊢;obtain⟨a,xs,e,n,s,r⟩:=h;exact⟨a,xs,e,n,x.rd n s,aB.keep x r⟩
theorem ai.keep{nb:Addr->Prop}{H H':Hp}(x:aW nb H H'):∀{ds:List PyData} {vs:List V},ai nb H ds vs->ai nb H' ds vs
 |[],_,h=>by unfold ai at h⊢;exact h
 |d::ds,_,h=>by unfold ai at h⊢;obtain⟨y,ys,e,h1,h2⟩:=h;exact⟨y,ys,e,af.keep x h1,ai.keep x h2⟩
theorem aB.keep{nb:Addr->Prop}{H H':Hp}(x:aW nb H H'):∀{ds:List (PyData×PyData)} {vs:List (Key×V)},aB nb H ds vs->aB nb H' ds vs
 |[],_,h=>by unfold aB at h⊢;exact h
 |d::ds,_,h=>by unfold aB at h⊢;obtain⟨y,ys,e,h1,h2⟩:=h;exact⟨y,ys,e,bN.keep x h1,aB.keep x h2⟩
theorem bN.keep{nb:Addr->Prop}{H H':Hp}(x:aW nb H H'):∀{d:PyData×PyData} {v:Key×V},bN nb H d v->bN nb H' d v
 |(k,d),_,h=>by unfold bN at h⊢;exact⟨h.1,af.keep x h.2⟩
end
mutual
theorem af.av{nb bE:Addr->Prop}{H:Hp}(x:∀a,bE a->nb a):∀{d:PyData} {v:V},af nb H d v->af bE H d v
 | .none,_,h=>by unfold af at h⊢;exact h
 | .bool _,_,h=>by unfold af at h⊢;exact h
 | .int _,_,h=>by unfold af at h⊢;exact h
 | .str _,_,h=>by unfold af at h⊢;exact h
 | .list ds,_,h=>by unfold af at h⊢;obtain⟨a,xs,e,n,s,r⟩:=h;exact⟨a,xs,e,fun z=>n (x a z),s,ai.av x r⟩
 | .tuple ds,_,h=>by unfold af at h⊢;obtain⟨a,xs,e,n,s,r⟩:=h;exact⟨a,xs,e,fun z=>n (x a z),s,ai.av x r⟩
 | .dict kvs,_,h=>by unfold af at h⊢;obtain⟨a,xs,e,n,s,r⟩:=h;exact⟨a,xs,e,fun z=>n (x a z),s,aB.av x r⟩
theorem ai.av{nb bE:Addr->Prop}{H:Hp}(x:∀a,bE a->nb a):∀{ds:List PyData} {vs:List V},ai nb H ds vs->ai bE H ds vs
 |[],_,h=>by unfold ai at h⊢;exact h
 |d::ds,_,h=>by unfold ai at h⊢;obtain⟨y,ys,e,h1,h2⟩:=h;exact⟨y,ys,e,af.av x h1,ai.av x h2⟩
theorem aB.av{nb bE:Addr->Prop}{H:Hp}(x:∀a,bE a->nb a):∀{ds:List (PyData×PyData)} {vs:List (Key×V)},aB nb H ds vs->aB bE H ds vs
 |[],_,h=>by unfold aB at h⊢;exact h
 |d::ds,_,h=>by unfold aB at h⊢;obtain⟨y,ys,e,h1,h2⟩:=h;exact⟨y,ys,e,bN.av x h1,aB.av x h2⟩
theorem bN.av{nb bE:Addr->Prop}{H:Hp}(x:∀a,bE a->nb a):∀{d:PyData×PyData} {v:Key×V},bN nb H d v->bN bE H d v
 |(k,d),_,h=>by unfold bN at h⊢;exact⟨h.1,af.av x h.2⟩
end
mutual
theorem af.fresh{nb:Addr->Prop}{H:Hp}{p:Addr}(hp:H p=none):∀{d:PyData} {v:V},af nb H d v->af (fun a=>nb a\/a=p) H d v
 | .none,_,h=>by unfold af at h⊢;exact h
 | .bool _,_,h=>by unfold af at h⊢;exact h
 | .int _,_,h=>by unfold af at h⊢;exact h
 | .str _,_,h=>by unfold af at h⊢;exact h
 | .list ds,_,h=>by unfold af at h⊢;obtain⟨a,xs,e,n,s,r⟩:=h;exact⟨a,xs,e,fun z=>z.elim n (gn s hp),s,ai.fresh hp r⟩
 | .tuple ds,_,h=>by unfold af at h⊢;obtain⟨a,xs,e,n,s,r⟩:=h;exact⟨a,xs,e,fun z=>z.elim n (gn s hp),s,ai.fresh hp r⟩
 | .dict kvs,_,h=>by unfold af at h⊢;obtain⟨a,xs,e,n,s,r⟩:=h;exact⟨a,xs,e,fun z=>z.elim n (s.elim (fun s=>gn s hp) fun⟨_,s⟩=>gn s hp),s,aB.fresh hp r⟩
theorem ai.fresh{nb:Addr->Prop}{H:Hp}{p:Addr}(hp:H p=none):∀{ds:List PyData} {vs:List V},ai nb H ds vs->ai (fun a=>nb a\/a=p) H ds vs
 |[],_,h=>by unfold ai at h⊢;exact h
 |d::ds,_,h=>by unfold ai at h⊢;obtain⟨y,ys,e,h1,h2⟩:=h;exact⟨y,ys,e,af.fresh hp h1,ai.fresh hp h2⟩
theorem aB.fresh{nb:Addr->Prop}{H:Hp}{p:Addr}(hp:H p=none):∀{ds:List (PyData×PyData)} {vs:List (Key×V)},aB nb H ds vs->aB (fun a=>nb a\/a=p) H ds vs
 |[],_,h=>by unfold aB at h⊢;exact h
 |d::ds,_,h=>by unfold aB at h⊢;obtain⟨y,ys,e,h1,h2⟩:=h;exact⟨y,ys,e,bN.fresh hp h1,aB.fresh hp h2⟩
theorem bN.fresh{nb:Addr->Prop}{H:Hp}{p:Addr}(hp:H p=none):∀{d:PyData×PyData} {v:Key×V},bN nb H d v->bN (fun a=>nb a\/a=p) H d v
 |(k,d),_,h=>by unfold bN at h⊢;exact⟨h.1,af.fresh hp h.2⟩
end
mutual
theorem af.reads{pins:List (Addr×Obj)}{σ:St}{H:Hp}{s:Shared}{nb:Addr->Prop}(I:Inv X pins σ H s):∀{d:PyData} {v:V} {u:Value},af nb H d v->RelV v u->d.canLay0=true->∃as,Reads s.heap u d as
  | .none,_,_,h,r,_=>by unfold af at h;subst h;cases r;exact⟨_, .none⟩
  | .bool _,_,_,h,r,_=>by unfold af at h;subst h;cases r;exact⟨_, .bool _⟩
  | .int _,_,_,h,r,_=>by unfold af at h;subst h;obtain⟨t,rfl⟩:=r;exact⟨_, .int _ _⟩
  | .str _,_,_,h,r,_=>by unfold af at h;subst h;obtain⟨t,rfl⟩:=r;exact⟨_, .str _ _⟩
  | .list ds, _, _, h, r, hc0 => by
    unfold af at h
    obtain⟨a,xs,rfl,n,s,q⟩:=h
    cases r
    obtain⟨its,rv,p,hz⟩:=I.list (aL.of s)
    obtain⟨as,ra⟩:=ai.reads I q rv (by simpa only[PyData.canLay0] using hc0)
    obtain⟨o,ho,hc,m,hd⟩:=p.isList
    exact⟨_, .list ho hc hd (by simpa using ra)⟩
  | .tuple ds, _, _, h, r, hc0 => by
    unfold af at h
    obtain⟨a,xs,rfl,n,s,q⟩:=h
    cases r
    obtain⟨its,rv,p,hz⟩:=I.tuple (fJ.of s)
    obtain⟨as,ra⟩:=ai.reads I q rv (by simpa only[PyData.canLay0] using hc0)
    obtain⟨o,ho,hc,m,hd⟩:=p
    exact⟨_, .tuple ho hc hd (by simpa using ra)⟩
  | .dict _,_,_,h,r,hc0=>by simp[PyData.canLay0] at hc0
theorem ai.reads{pins:List (Addr×Obj)}{σ:St}{H:Hp}{s:Shared}{nb:Addr->Prop}(I:Inv X pins σ H s):∀{ds:List PyData} {vs:List V} {us:List Value},ai nb H ds vs->Vals vs us->PyData.canLayAll0 ds=true->∃as,ReadsAll s.heap us ds as
  |[],_,_,h,r,_=>by unfold ai at h;subst h;cases r;exact⟨_, .nil⟩
  | d :: ds, _, _, h, r, hc0 => by
    rw[PyData.canLayAll0,Bool.and_eq_true] at hc0
    unfold ai at h
    obtain⟨y,ys,rfl,h1,h2⟩:=h
    cases r with
    | cons r1 r2 =>
      obtain⟨as,q1⟩:=af.reads I h1 r1 hc0.1
      obtain⟨bs,q2⟩:=ai.reads I h2 r2 hc0.2
      exact⟨_, .cons q1 q2⟩
end
def yf(neg:Bool):R2:=fun x y H Q=>∃nb d e,af nb H d x/\af nb H e y/\SeqAt.shaped d=true/\SeqAt.shaped e=true/\Q (.bl (PyData.eqv d e !=neg)) H
theorem KD(hu:X.A.units+64<cLine):cQ X (compareOp .Eq) (yf false):=by
 intro pins s σ H x y v u Q I rx ry h
 obtain⟨nb,d,e,h1,h2,h3,h4,q⟩:=h
 obtain⟨as,r1⟩:=h1.reads I rx (SeqAt.canLay_of_shaped h3)
 obtain⟨bs,r2⟩:=h2.reads I ry (SeqAt.canLay_of_shaped h4)
 exact eq_dataH r1 r2 h3 h4 hu ⟨.bl _,H,I,rfl,by simpa using q⟩
theorem FP(hu:X.A.units+64<cLine):cQ X (compareOp .NotEq) (yf true):=by
 intro pins s σ H x y v u Q I rx ry h
 obtain⟨nb,d,e,h1,h2,h3,h4,q⟩:=h
 obtain⟨as,r1⟩:=h1.reads I rx (SeqAt.canLay_of_shaped h3)
 obtain⟨bs,r2⟩:=h2.reads I ry (SeqAt.canLay_of_shaped h4)
 exact ne_dataH r1 r2 h3 h4 hu ⟨.bl _,H,I,rfl,by simpa using q⟩
end
structure Callee(P:Program)(w:World)(K:PySem.W.Frag)(mg:Str->Option Value)(base:Heap)(x:Str)(k:Nat)(ps:List Str)(sp:Sp):Prop where
 ex:∃f fd,bx P w K mg base bA k f fd ps sp/\Binds K fd ps []/\PySem.W.keepIn K (.ref f)=true/\mg x=some (.ref f)
theorem aI{X:Cx}{x:Str}{k:Nat}{ps:List Str}{sp:Sp}{p pos:Pos}{e:Expr}{es:List Expr}{t:TA}(c:Callee X.prog X.w X.K X.mg X.base x k ps sp)(hr:eV k X.A)(ha:PA X (e::es) t)(hg:Gl X x:=by rfl)
  (hdb:(x==("__debug__":Str))=false:=by decide) (he:starEach (e::es) X.env=(false,eval e X.env)::starEach es X.env:=by rfl) (hpl:(backTo pos (starEach es X.env)).any (·.1)=false:=by rfl):
  PE X (.Call (.Name x p) (e::es) [] pos) (fW sp [] E0 t):=by
 obtain⟨f,fd,F,b,kp,m⟩:=c.ex
 exact Gy F hr hg m kp b .nil NL ha hdb he hpl
theorem Callee.mk'{P:Program}{w:World}{K:PySem.W.Frag}{mg:Str->Option Value}{base:Heap}{x:Str}{st:Stmt}{k:Nat}{ps:List Str}{sp:Sp}{f:Addr}{fd:FuncData}(F:bD K x x st f fd)(ok:bx P w K mg base bA k f fd ps sp)(b:Binds K fd ps [])
  (m:mg x=some (.ref f)):Callee P w K mg base x k ps sp:=⟨f,fd,ok,b,F.kp,m⟩
end L2
set_option maxRecDepth 100000
set_option maxHeartbeats 1000000
namespace L2
open PySem PySem.Spec PyProof.Rows
section
variable{X:Cx}
theorem ez:cQ X (binaryOp .Mult) (rI (fun i j=>rT i j\/(Sm i/\Sm j)) fun i j=> .int (i*j)):=qH fun _ _ _ _ _ _ _ hc q=>mul_int q (by
 rcases hc with hc|hc
 ·exact hc.ok
 ·exact IntMulOk.of_bits (zv hc.1) (zv hc.2))
end
def bR(H:Hp)(b l:Addr):Prop:=∃(ns:List Int) (i c st n:Int),H b=some (.lst [.ref l, .int i, .int c, .int st, .int n])/\H l=some (.lst (ns.map V.int))/\
 (∀x∈ns,0<=x/\x<10^60)/\ns.length<=63/\0<=i/\0<=c/\c<10^60/\0<=st/\st<2147483647
theorem C5{H:Hp}{b l:Addr}{ns:List Int}{i c st n:V}(h:H b=some (.lst [.ref l,i,c,st,n]))(h':H l=some (.lst (ns.map V.int))):l≠b:=by
 intro e
 subst e
 rw[h] at h'
 have e:=HO.lst.inj (Option.some.inj h')
 cases ns with
 |nil=>cases e
 |cons x r=>rw[List.map_cons] at e;cases (List.cons.inj e).1
theorem bR.put{H:Hp}{b l:Addr}{ns:List Int}{i c st n:Int}(hl:l≠b)(h':H l=some (.lst (ns.map V.int)))(h1:∀x∈ns,0<=x/\x<10^60)(h2:ns.length<=63)
  (h3:0<=i) (h4:0<=c) (h5:c<10^60) (h6:0<=st) (h7:st<2147483647):bR (upd H b (.lst [.ref l, .int i, .int c, .int st, .int n])) b l:=
 ⟨ns,i,c,st,n,bq,by rw[aF hl];exact h',h1,h2,h3,h4,h5,h6,h7⟩
theorem bR.put2{H:Hp}{b l p:Addr}{o:HO}(h:bR H b l)(hp:p≠b/\p≠l):bR (upd H p o) b l:=by
 obtain⟨ns,i,c,st,n,h1,h2,r⟩:=h
 exact⟨ns,i,c,st,n,by rw[aF (Ne.symm hp.1)];exact h1,by rw[aF (Ne.symm hp.2)];exact h2,r⟩
theorem bR.same{H H':Hp}{b l:Addr}(h:bR H b l)(s:bf H H'):bR H' b l:=by
 obtain⟨ns,i,c,st,n,h1,h2,r⟩:=h
 exact⟨ns,i,c,st,n,s _ _ h1,s _ _ h2,r⟩
def g6:Sp:=fun vs H Q _=>∃(b l:Addr) (many:Int),vs=[.ref b, .int many]/\bR H b l/\0<many/\Sm many/\∀(r:Int) (H':Hp),0<=r->r<many->aW (Nb b) H H'->bR H' b l->Q (.int r) H'
def Bh(K:PySem.W.Frag):Sp:=fun vs H Q _=>∃(a:Addr) (ns:List Int),vs=[.ref a]/\aL K H a (ns.map V.int)/\ns.length<=63/\∀(b l:Addr) (H':Hp),bf H H'->H b=none->bR H' b l->Q (.ref b) H'
theorem cW{α:Type}{xs:List α}{i:Int}{v:α}(h0:0<=i)(h:xs[i.toNat]?=some v):aU xs i=some v:=by
 have e:i=((i.toNat:Nat):Int):=by omega
 rw[e]
 exact Rt h
theorem cV{H:Hp}{p:Addr}{o:HO}(h:H p=none):bf H (upd H p o):=fun b u q=>by rw[aF (gn q h)];exact q
section
variable{nb:Addr->Prop}{H H':Hp}
theorem ai.length:∀{ds:List PyData} {xs:List V},ai nb H ds xs->xs.length=ds.length
 |[],_,h=>by unfold ai at h;subst h;rfl
 |d::ds,_,h=>by unfold ai at h;obtain⟨y,ys,rfl,_,h2⟩:=h;simp[ai.length h2]
theorem ai.get:∀{ds:List PyData} {xs:List V} {i:Nat} {d:PyData},ai nb H ds xs->ds[i]?=some d->∃x,xs[i]?=some x/\af nb H d x
 |[],_,_,_,_,e=>by simp at e
 |d::ds,_,0,_,h,e=>by unfold ai at h;obtain⟨y,ys,rfl,h1,h2⟩:=h;simp at e;subst e;exact⟨y,rfl,h1⟩
 |d::ds,_,i+1,_,h,e=>by unfold ai at h;obtain⟨y,ys,rfl,h1,h2⟩:=h;simpa using ai.get (i:=i) h2 (by simpa using e)
theorem ai.snoc{d:PyData}{x:V}(hd:af nb H d x):∀{ds:List PyData} {xs:List V},ai nb H ds xs->ai nb H (ds++[d]) (xs++[x])
 |[],_,h=>by unfold ai at h;subst h;unfold ai;exact⟨x,[],rfl,hd,by unfold ai;rfl⟩
 |e::ds,_,h=>by unfold ai at h;obtain⟨y,ys,rfl,h1,h2⟩:=h;show ai nb H (e::(ds++[d])) _;unfold ai;exact⟨y,ys++[x],rfl,h1,ai.snoc hd h2⟩
theorem ai.append:∀{ds es:List PyData} {xs ys:List V},ai nb H ds xs->ai nb H es ys->ai nb H (ds++es) (xs++ys)
 |[],_,_,_,h,h'=>by unfold ai at h;subst h;exact h'
 |e::ds,es,_,zs,h,h'=>by unfold ai at h;obtain⟨y,ys,rfl,h1,h2⟩:=h;show ai nb H (e::(ds++es)) _;unfold ai;exact⟨y,ys++zs,rfl,h1,ai.append h2 h'⟩
theorem ai.take:∀{ds:List PyData} {xs:List V} (n:Nat),ai nb H ds xs->ai nb H (ds.take n) (xs.take n)
 |_,_,0,_=>by simp only[List.take_zero];unfold ai;rfl
 |[],_,n+1,h=>by unfold ai at h;subst h;simp only[List.take_nil];unfold ai;rfl
 |d::ds,_,n+1,h=>by unfold ai at h;obtain⟨y,ys,rfl,h1,h2⟩:=h;simp only[List.take_succ_cons];unfold ai;exact⟨y,_,rfl,h1,ai.take n h2⟩
theorem ai.drop:∀{ds:List PyData} {xs:List V} (n:Nat),ai nb H ds xs->ai nb H (ds.drop n) (xs.drop n)
 |_,_,0,h=>h
 |[],_,n+1,h=>by unfold ai at h;subst h;simp only[List.drop_nil];unfold ai;rfl
 |d::ds,_,n+1,h=>by unfold ai at h;obtain⟨y,ys,rfl,h1,h2⟩:=h;simp only[List.drop_succ_cons];exact ai.drop n h2
theorem ai.nil:ai nb H [] []:=by unfold ai;rfl
theorem ai.cons{d:PyData}{x:V}{ds:List PyData}{xs:List V}(h1:af nb H d x)(h2:ai nb H ds xs):ai nb H (d::ds) (x::xs):=by unfold ai;exact⟨x,xs,rfl,h1,h2⟩
theorem af.int(i:Int):af nb H (.int i) (.int i):=by unfold af;rfl
theorem af.aN:af nb H .none .aN:=by unfold af;rfl
theorem af.bl(b:Bool):af nb H (.bool b) (.bl b):=by unfold af;rfl
theorem af.lst{a:Addr}{ds:List PyData}{xs:List V}(n:¬nb a)(h:H a=some (.lst xs))(hd:ai nb H ds xs):af nb H (.list ds) (.ref a):=by unfold af;exact⟨a,xs,rfl,n,h,hd⟩
theorem af.tup{a:Addr}{ds:List PyData}{xs:List V}(n:¬nb a)(h:H a=some (.tup xs))(hd:ai nb H ds xs):af nb H (.tuple ds) (.ref a):=by unfold af;exact⟨a,xs,rfl,n,h,hd⟩
theorem af.cO{v:V}{ds:List PyData}(h:af nb H (.list ds) v):∃a xs,v= .ref a/\¬nb a/\H a=some (.lst xs)/\ai nb H ds xs:=by unfold af at h;exact h
theorem af.ofT{v:V}{ds:List PyData}(h:af nb H (.tuple ds) v):∃a xs,v= .ref a/\¬nb a/\H a=some (.tup xs)/\ai nb H ds xs:=by unfold af at h;exact h
theorem af.bP{v:V}{i:Int}(h:af nb H (.int i) v):v= .int i:=by unfold af at h;exact h
theorem af.tF{v:V}(h:af nb H .none v):v= .aN:=by unfold af at h;exact h
end
def ux:Sp:=fun vs H Q _=>∃i:Int,vs=[.int i]/\Q (.bl true) H
def pW(K:PySem.W.Frag):Sp:=fun vs H Q _=>∃(a:Addr) (ns:List Int),vs=[.ref a]/\aL K H a (ns.map V.int)/\ns.length<=63/\∀H',Q (.bl true) H'
end L2
set_option maxRecDepth 100000
set_option maxHeartbeats 1000000
namespace L2
open PySem PySem.Spec PyProof.Rows
def z9(Q:VK):List V->Hp->Prop:=fun xs H1=>xs.length<=sizeLine/\∀p,H1 p=none->Q (.ref p) (upd H1 p (.lst xs))
def lB(K:PySem.W.Frag):List V->Hp->VK->Prop:=fun xs H Q=>∃p ys,xs=[.ref p]/\(aL K H p ys\/fJ K H p ys)/\∀l,H l=none->Q (.ref l) (upd H l (.lst ys))
theorem sL{X:Cx}:fH X (.type "list") (lB X.K):=Sf
def BH:R2:=fun x y H Q=>y= .aN/\Q (.bl (decide (x= .aN))) H
def qz:R2:=fun x y H Q=>y= .aN/\Q (.bl (!decide (x= .aN))) H
theorem mO{X:Cx}:cQ X (compareOp .Is) BH:=Ju
theorem jb{X:Cx}:cQ X (compareOp .IsNot) qz:=HK
def intOf:Expr->Option Int
 | .Constant (.int i) _ _=>some i
 |_=>none
theorem Ir{e:Expr}{i:Int}(h:intOf e=some i):∃k p,e= .Constant (.int i) k p:=by
 unfold intOf at h
 split at h
 ·cases h;exact⟨_,_,rfl⟩
 ·cases h
def mh:List Expr->Option (List Int)
 |[]=>some []
 |e::r=>(intOf e).bind fun i=>(mh r).map (i:: ·)
def rF(is:List Int):TA:=fun _ H Q=>Q (is.map V.int) H
theorem AY{X:Cx}:∀{es:List Expr} {is:List Int},mh es=some is->PA X es (rF is):=by
  intro es
  induction es with
  | nil =>
    intro is h
    have e:is=[]:=by simpa[mh] using h.symm
    subst e
    exact ak
  | cons e r ih =>
    intro is h
    unfold mh at h
    cases hi:intOf e with
    |none=>rw[hi] at h;cases h
    | some i =>
      rw[hi] at h
      obtain⟨k,p,rfl⟩:=Ir hi
      obtain⟨js,hj,rfl⟩:=Option.map_eq_some_iff.mp (show(mh r).map (i:: ·)=some is from h)
      exact aa (te:=tC (.int i)) (t:=rF js) aj (ih hj)
theorem Qv{X:Cx}{i:Nat}{x:Str}{es:List Expr}{is:List Int}{p1 p2 p3:Pos}(hN:X.N.Nodup)(hi:X.N[i]?=some x)(hx:Loc X.env.scope x)(h:mh es=some is)(hf:X.fn x=true\/X.env.scope.names.lookup x=some .local):
  PS X (.Assign [.Name x p1] (.List es p2) p3) (eE (lG (rF is)) (dN i)):=aM hN hi hx (dR (AY h)) rfl hf
namespace R
section
variable{σ:St}{H:Hp}{Q:VK}{D:Ends}{ta tb te:TE}{K:PySem.W.Frag}
theorem seq{t u:TS}(h:t {D with nx:=u D} σ H):ji t u D σ H:=h
theorem asg{g:TG}(h:te σ H fun x H1=>g x σ H1 D.nx):eE te g D σ H:=h
theorem Ae{c:TT}{t u:TS}(h:c σ H fun b H1=>if b=true then t D σ H1 else u D σ H1):zP c t u D σ H:=h
theorem ret(h:te σ H D.rt):zV te D σ H:=h
theorem drop(h:te σ H fun _ H1=>D.nx σ H1):pF te D σ H:=h
theorem next(h:D.nx σ H):wj D σ H:=h
theorem var{i:Nat}{v:V}(e:σ[i]?=some (some v))(h:Q v H):dM i σ H Q:=⟨v,e,h⟩
theorem c{v:V}(h:Q v H):tC v σ H Q:=h
theorem op{r:R2}(h:ta σ H fun x H1=>tb σ H1 fun y H2=>r x y H2 Q):bV r ta tb σ H Q:=h
theorem test{q:Bool->Hp->Prop}(h:te σ H fun x H'=>∃k,x= .bl k/\q k H'):uA te σ H q:=h
theorem bl{P:Bool->Prop}{b:Bool}(h:P b):∃k,V.bl b= .bl k/\P k:=⟨b,rfl,h⟩
theorem and{t u:TT}{q:Bool->Hp->Prop}(h:t σ H fun c H1=>if c=true then u σ H1 q else q false H1):sQ t u σ H q:=h
theorem vN(h:ta σ H fun x H1=>∃c,x= .bl c/\if c=true then tb σ H1 Q else Q (.bl false) H1):zE ta tb σ H Q:=h
theorem GO(h:ta σ H fun x H1=>∃c,x= .bl c/\Q (.bl (!c)) H1):Ga ta σ H Q:=h
theorem cb{r:List V->Hp->VK->Prop}{t:TA}(h:t σ H fun vs H1=>r vs H1 Q):gf r t σ H Q:=h
theorem call{sp:Sp}{t:TA}(h:t σ H fun vs H1=>sp (vs++[]) H1 Q E0):fW sp [] E0 t σ H Q:=h
theorem nil{q:List V->Hp->Prop}(h:q [] H):cT σ H q:=h
theorem cons{t:TA}{q:List V->Hp->Prop}(h:ta σ H fun x H1=>t σ H1 fun xs H2=>q (x::xs) H2):ck ta t σ H q:=h
theorem lst{t:TA}(h:t σ H (z9 Q)):lG t σ H Q:=h
theorem sl{r:V->Option Int->Option Int->Hp->VK->Prop}{tl th:TO}(h:te σ H fun x H1=>tl σ H1 fun l H2=>th σ H2 fun u H3=>r x l u H3 Q):rZ r te tl th σ H Q:=h
theorem Ls{q:Option Int->Hp->Prop}(h:q none H):uc σ H q:=h
theorem part{q:Option Int->Hp->Prop}(h:te σ H fun x H1=>∃i,x= .int i/\q (some i) H1):uD te σ H q:=h
theorem Ot{P:Int->Prop}{i:Int}(h:P i):∃j,V.int i= .int j/\P j:=⟨i,rfl,h⟩
theorem O3{T:String}{r:V->List V->Hp->VK->Prop}(h:te σ H fun x H1=>nV K T x H1/\r x [] H1 Q):BO K T r te σ H Q:=h
theorem Uj{i:Int}{A:Prop}(h:A):nV K "int" (.int i) H/\A:=⟨rfl,h⟩
theorem EX{i:Nat}{v:V}{q:St->Hp->Prop}(h:q (σ.set i (some v)) H):dN i v σ H q:=h
theorem RW{to ti:TE}{t:qf}{v:V}{q:St->Hp->Prop}(h:to σ H fun o H1=>ti σ H1 fun i H2=>t o i v H2 fun H3=>q σ H3):kL to ti t v σ H q:=h
theorem RG{t:TG}{u:fY}{v:V}{r:List V}{q:St->Hp->Prop}(h:t v σ H fun σ' H'=>u r σ' H' q):mG t u (v::r) σ H q:=⟨v,r,rfl,h⟩
theorem Rb{q:St->Hp->Prop}(h:q σ H):rJ [] σ H q:=⟨rfl,h⟩
theorem Oh{n:Nat}{t:fY}{a:Addr}{xs:List V}{q:St->Hp->Prop}(hq:fJ K H a xs)(hl:xs.length=n)(h:t xs σ H q):oR K n t (.ref a) σ H q:=⟨a,xs,rfl,hq,hl,h⟩
theorem o9{q:Bool->Hp->Prop}(h:q true H):pK σ H q:=h
theorem gm{g:Int->Int->V}{i j:Int}(h:Q (g i j) H):L2.gm g (.int i) (.int j) H Q:=⟨i,j,rfl,rfl,h⟩
theorem rI{C:Int->Int->Prop}{g:Int->Int->V}{i j:Int}(hc:C i j)(h:Q (g i j) H):L2.rI C g (.int i) (.int j) H Q:=⟨i,j,rfl,rfl,hc,h⟩
theorem vo{i j:Int}:decide (V.int i=V.int j)=decide (i=j):=by rw[Bool.eq_iff_iff];simp
theorem Mz{i j:Int}(h:Q (.bl (decide (i=j))) H):vq (.int i) (.int j) H Q:=⟨rfl,by rw[vo];exact h⟩
theorem Rl{i j:Int}(h:Q (.bl (decide (i≠j))) H):zS (.int i) (.int j) H Q:=⟨rfl,by rw[vo,<-decide_not];exact h⟩
theorem CI{i:Int}(h:Q (.bl true) H):qz (.int i) .aN H Q:=⟨rfl,by rw[decide_eq_false (fun e=>V.noConfusion e)];exact h⟩
theorem El(h:Q (.bl false) H):qz .aN .aN H Q:=⟨rfl,by rw[decide_eq_true rfl];exact h⟩
theorem sq{p:Addr}{xs:List V}{i:Int}{v:V}(hp:H p=some (.lst xs))(e:aU xs i=some v)(h:Q v H):bh K (.ref p) (.int i) H Q:=⟨p,xs,i,v,rfl,rfl,aL.of hp,e,h⟩
theorem EZ{p:Addr}{o:HO}{xs:List V}{i:Int}{v:V}(e:aU xs i=some v)(h:Q v (upd H p (.lst xs))):bh K (.ref p) (.int i) (upd H p (.lst xs)) Q:=⟨p,xs,i,v,rfl,rfl,aL.of bq,e,h⟩
theorem setM{p:Addr}{xs:List V}{k:Int}{j:Nat}{v:V}{q:Hp->Prop}(hp:H p=some (.lst xs))(e:cH xs.length k=some j)(h:q (upd H p (.lst (xs.set j v)))):nv (.ref p) (.int k) v H q:=⟨p,xs,k,j,rfl,rfl,hp,e,h⟩
theorem Lj{p:Addr}{xs:List V}{k:Int}{j:Nat}{v:V}{q:Hp->Prop}(e:cH xs.length k=some j)(h:q (upd H p (.lst (xs.set j v)))):nv (.ref p) (.int k) v (upd H p (.lst xs)) q:=
 ⟨p,xs,k,j,rfl,rfl,bq,e,by rw[xW];exact h⟩
theorem Kh{p:Addr}{xs:List V}{P:List V->Prop}(hp:H p=some (.lst xs))(h:P xs):∃a ys,[V.ref p]=[.ref a]/\(aL K H a ys\/fJ K H a ys)/\P ys:=⟨p,xs,rfl, .inl (aL.of hp),h⟩
theorem Cy{p:Addr}{xs:List V}{lo hi:Option Int}(hp:aL K H p xs)(h:∀a,H a=none->Q (.ref a) (upd H a (.lst (j3 xs lo hi)))):g7 K (.ref p) lo hi H Q:=⟨p,xs,rfl,hp,h⟩
theorem Te{a:Int}{P:Int->Prop}(h:P a):∃i,[V.int a]=[.int i]/\P i:=⟨a,rfl,h⟩
theorem bits{i:Int}{P:Int->Prop}(h:P i):∃j,V.int i= .int j/\([]:List V)=[]/\P j:=⟨i,rfl,rfl,h⟩
theorem Ol{xs:List V}(h:xs.length<=10000)(q:∀p H',bf H H'->H p=none->H' p=some (.lst xs)->Q (.ref p) H'):z9 Q xs H:=
 ⟨Nat.le_trans h (by decide),fun p hp=>q p _ (cV hp) hp bq⟩
theorem DK{c A B:Prop}[Decidable c](h:c)(q:A):if c then A else B:=by rw[if_pos h];exact q
theorem Aw{c A B:Prop}[Decidable c](h:¬c)(q:B):if c then A else B:=by rw[if_neg h];exact q
theorem dT{c:Prop}[Decidable c](h:c):decide c=true:=decide_eq_true h
theorem dF{c:Prop}[Decidable c](h:¬c):¬decide c=true:=by rw[decide_eq_false h];exact Bool.false_ne_true
theorem Dw{c:Prop}[Decidable c](h:¬c):(!decide c)=true:=by rw[decide_eq_false h];rfl
theorem CC{c:Prop}[Decidable c](h:c):¬(!decide c)=true:=by rw[decide_eq_true h];decide
theorem PJ{i:Int}(h:Q (.bl true) H):jl K [.int i, .ty "int"] H Q:=⟨_,_,_,true,rfl, .int i,rfl,h⟩
theorem Us{i:Int}(h:Q (.bl false) H):jl K [.int i, .ty "bool"] H Q:=⟨_,_,_,false,rfl, .int i,by with_unfolding_all rfl,h⟩
theorem HV{t:TA}{R:It->Hp->Prop}(h:t σ H fun vs H1=>∃j:Int,vs=[.int j]/\ -(2^62)<=j/\j<2^62/\R (gy 0 j.toNat) H1):qa t σ H R:=h
theorem LB{P:Int->Prop}{i:Int}(h1: -(2^62)<=i)(h2:i<2^62)(h:P i):∃j:Int,[V.int i]=[.int j]/\ -(2^62)<=j/\j<2^62/\P j:=⟨i,rfl,h1,h2,h⟩
theorem GV{t:TA}{R:It->Hp->Prop}(h:t σ H fun vs H1=>∃i j:Int,vs=[.int i, .int j]/\(-(2^62)<=i/\i<2^62/\ -(2^62)<=j/\j<2^62)/\R (gy i (j-i).toNat) H1):DG t σ H R:=h
theorem U5{P:Int->Int->Prop}{a b:Int}(h1: -(2^62)<=a/\a<2^62/\ -(2^62)<=b/\b<2^62)(h:P a b):∃i j:Int,[V.int a,V.int b]=[.int i, .int j]/\(-(2^62)<=i/\i<2^62/\ -(2^62)<=j/\j<2^62)/\P i j:=⟨a,b,rfl,h1,h⟩
theorem iL{tl:TE}{R:It->Hp->Prop}(h:tl σ H fun x H1=>∃a,x= .ref a/\(∃xs,aL K H1 a xs)/\R (kW K a) H1):rL K tl σ H R:=h
theorem qC{P:Addr->Prop}{p:Addr}{xs:List V}(hp:aL K H p xs)(h:P p):∃a,V.ref p= .ref a/\(∃xs,aL K H a xs)/\P a:=⟨p,rfl,⟨xs,hp⟩,h⟩
theorem OO{wi:TI}{g:TG}{tb:TS}(h:wi σ H fun J H1=>∃W:Nat->Nat->St->Hp->Prop,(∃m,W 0 m σ H1)/\∀i m σ H,W i m σ H->
 (J.stop i H/\D.nx σ H)\/(J.go i H/\∃N:St->Hp->Prop,(∀σ' H',N σ' H'->∃m',m'<m/\W (i+1) m' σ' H')/\∀x H',J.jT i H x H'->g x σ H' fun σ2 H2=>tb {D with nx:=N,ct:=N,bk:=D.nx} σ2 H2)):mK wi g tb D σ H:=h
theorem comp{wi:TI}{g:TG}{tc:TT}{mp:List (Option Nat)}(h:wi σ H fun J H1=>∀acc,H1 acc=none->kN J g tc te acc (fun H'=>Q (.ref acc) H') (dZ mp σ) (upd H1 acc (.lst []))):jN wi g tc te mp σ H Q:=h
end
theorem DW{lo:Int}{n:Nat}{g:TG}{tc:TT}{te:TE}{acc:Addr}{Qe:Hp->Prop}{σ:St}{H:Hp}(Pv:Nat->St->Hp->Prop)(h0:Pv 0 σ H)
  (hs:∀i σ H,i<n->Pv i σ H->g (.int (lo+i)) σ H fun σ2 H2=>tc σ2 H2 fun b H3=>if b=true then te σ2 H3 fun v H4=>∃ys,H4 acc=some (.lst ys)/\ys.length<sizeLine/\Pv (i+1) σ2 (upd H4 acc (.lst (ys++[v]))) else Pv (i+1) σ2 H3)
  (hd:∀σ H,Pv n σ H->Qe H):kN (gy lo n) g tc te acc Qe σ H:=by
 refine⟨fun i m σ H=>m=n-i/\i<=n/\Pv i σ H,⟨n,by simp,Nat.zero_le _,h0⟩,?_⟩
 rintro i m σ H ⟨rfl,hi,p⟩
 by_cases hlt:i<n
 ·refine .inr ⟨hlt,Pv (i+1),fun σ' H' p'=>⟨n-(i+1),by omega,rfl,hlt,p'⟩,fun x H' y=>?_⟩
  obtain⟨e,y⟩:=y
  subst e y
  exact hs i σ _ hlt p
 ·have e:i=n:=by omega
  subst e
  exact .inl ⟨Nat.le_refl _,hd σ H p⟩
theorem BN{K:PySem.W.Frag}{a:Addr}{xs:List V}{g:TG}{tc:TT}{te:TE}{acc:Addr}{Qe:Hp->Prop}{σ:St}{H:Hp}(Pv:Nat->St->Hp->Prop)(h0:Pv 0 σ H)(hl:∀i σ H,i<=xs.length->Pv i σ H->aL K H a xs)
  (hs:∀i x σ H,xs[i]?=some x->Pv i σ H->g x σ H fun σ2 H2=>tc σ2 H2 fun b H3=>if b=true then te σ2 H3 fun v H4=>∃ys,H4 acc=some (.lst ys)/\ys.length<sizeLine/\Pv (i+1) σ2 (upd H4 acc (.lst (ys++[v]))) else Pv (i+1) σ2 H3)
  (hd:∀σ H,Pv xs.length σ H->Qe H):kN (kW K a) g tc te acc Qe σ H:=by
 refine⟨fun i m σ H=>m=xs.length-i/\i<=xs.length/\Pv i σ H,⟨xs.length,by simp,Nat.zero_le _,h0⟩,?_⟩
 rintro i m σ H ⟨rfl,hi,p⟩
 have q:=hl i σ H hi p
 by_cases hlt:i<xs.length
 ·refine .inr ⟨⟨xs,xs[i],q,by simp[hlt]⟩,Pv (i+1),fun σ' H' p'=>⟨xs.length-(i+1),by omega,rfl,hlt,p'⟩,fun x H' y=>?_⟩
  obtain⟨e,y⟩:=y
  subst e
  exact hs i x σ _ (y xs q) p
 ·have e:i=xs.length:=by omega
  subst e
  exact .inl ⟨⟨xs,q,Nat.le_refl _⟩,hd σ H p⟩
end R
end L2
set_option maxRecDepth 100000
set_option maxHeartbeats 1000000
namespace L2
open PySem PySem.Spec PyProof.Rows
@[reducible] def pairD(pr:Int×Int):PyData:= .tuple [.int pr.1, .int pr.2]
def bw:Option Int->PyData
 |none=> .none
 |some i=> .int i
def su:Option Int->V
 |none=> .aN
 |some i=> .int i
def fP(wd:List (Option Int))(pr:Int×Int):Int:=match wd[pr.1.toNat]? with
 |some (some x)=>pr.2*x
 |_=>0
def aV(prs:List (Int×Int))(wd:List (Option Int)):Int:=(prs.map (fP wd)).sum
theorem xq{prs:List (Int×Int)}{wd:List (Option Int)}{i:Nat}(h:i<prs.length):aV (prs.take (i+1)) wd=aV (prs.take i) wd+fP wd prs[i]:=by
 unfold aV
 rw[List.take_add_one,List.getElem?_eq_getElem h,List.map_append,List.sum_append]
 simp
theorem NP{nb:Addr->Prop}{H:Hp}{o:Option Int}{v:V}(h:af nb H (bw o) v):v=su o:=by
 cases o with
 |none=>exact h.tF
 |some i=>exact h.bP
theorem Dg{nb:Addr->Prop}{H:Hp}:∀{wd:List (Option Int)} {xs:List V},ai nb H (wd.map bw) xs->xs=wd.map su
  |[],_,h=>by unfold List.map ai at h;exact h
  | o :: wd, _, h => by
    rw[List.map_cons] at h
    unfold ai at h
    obtain⟨y,ys,rfl,h1,h2⟩:=h
    rw[List.map_cons,NP h1,Dg h2]
theorem OB{nb:Addr->Prop}{H:Hp}{pr:Int×Int}{v:V}(h:af nb H (pairD pr) v):∃t,v= .ref t/\¬nb t/\H t=some (.tup [.int pr.1, .int pr.2]):=by
 obtain⟨t,xs,rfl,n,ht,hd⟩:=h.ofT
 unfold ai at hd
 obtain⟨y,ys,rfl,h1,h2⟩:=hd
 unfold ai at h2
 obtain⟨z,zs,rfl,h3,h4⟩:=h2
 unfold ai at h4
 subst h4
 rw[h1.bP,h3.bP] at ht
 exact⟨t,rfl,n,ht⟩
def tX:Sp:=fun vs H Q _=>∃(nb:Addr->Prop) (p:Int) (va vc:V) (prs:List (Int×Int)) (wd:List (Option Int)),vs=[.int p,va,vc]/\af nb H (.list (prs.map pairD)) va/\af nb H (.list (wd.map bw)) vc/\0<p/\
 (∀pr∈prs,0<=pr.1/\pr.1<wd.length/\Sm pr.2)/\(∀x,some x∈wd->Sm x)/\Q (.int (aV prs wd%p)) H
theorem BL(prs:List (Int×Int)):SeqAt.shaped (.list (prs.map pairD))=true/\PyData.depthAll (prs.map pairD)<=1/\PyData.canLayAll0 (prs.map pairD)=true:=by
 have h:PyData.depthAll (prs.map pairD)<=1/\PyData.canLayAll0 (prs.map pairD)=true:=by
  induction prs with
  |nil=>simp[PyData.depthAll,PyData.canLayAll0]
  |cons a r ih=>simp[pairD,PyData.depthAll,PyData.depth,PyData.canLayAll0,PyData.canLay0,ih.2];have:=ih.1;omega
 refine⟨?_,h⟩
 unfold SeqAt.shaped
 simp[PyData.canLay0,PyData.depth,h.2]
 omega
def pU(r:Int):Prop:=∀d:Int,2<=d->d*d<=r->r%d≠0
def sN:List Int:=[2,3,5,7,2,11,101,10007,65537,1000003,998244353,1000000007,2147483647,1000000000039,1000000000000000003,18446744073709551557,2305843009213693951,618970019642690137449562111,162259276829213363391578010288127,170141183460469231731687303715884105727,1000000000000000000000000000000000000003,9999999999999999999999999999999999999983]
def Dy(p:Int):Prop:=2<=p/\p<10^40/\(p∈sN\/pU p)
def yV:Sp:=fun vs H Q _=>∃n:Int,vs=[.int n]/\2<=n/\n<=10002/\∀(r:Int) (H':Hp),bf H H'->2<=r->r<=10100->pU r->Q (.int r) H'
def GA:Sp:=fun vs H Q _=>∃(b l:Addr),vs=[.ref b]/\bR H b l/\∀(p:Int) (H':Hp),Dy p->aW (Nb b) H H'->bR H' b l->Q (.int p) H'
def v7(wd:List Int)(ld:List (Option Int)):Prop:=ld.length=wd.length/\∀(i:Nat) x,ld[i]?=some (some x)->wd[i]?=some x
theorem Ew{nb:Addr->Prop}{H:Hp}:∀is:List Int,ai nb H (is.map PyData.int) (is.map V.int)
 |[]=>ai.nil
 |i::is=>ai.cons (.int i) (Ew is)
theorem Fb:∀ds:List PyData,(∀(i:Nat) d,ds[i]?=some d->∃o:Option Int,d=bw o)->∃ld:List (Option Int),ds=ld.map bw
  |[],_=>⟨[],rfl⟩
  | d :: ds, h => by
    obtain⟨o,rfl⟩:=h 0 d rfl
    obtain⟨ld,rfl⟩:=Fb ds fun i e he=>h (i+1) e (by simpa using he)
    exact⟨o::ld,rfl⟩
theorem G7{wd:List Int}(ds:List PyData)(hl:ds.length=wd.length)(h:∀(i:Nat) d,ds[i]?=some d->d= .none\/∃x,wd[i]?=some x/\d= .int x):∃ld:List (Option Int),ds=ld.map bw/\v7 wd ld:=by
 obtain⟨ld,rfl⟩:=Fb ds fun i d hd=>by
  rcases h i d hd with e|⟨x,_,e⟩
  ·exact⟨none,e⟩
  ·exact⟨some x,e⟩
 refine⟨ld,rfl,by simpa using hl,fun i x hx=>?_⟩
 rcases h i (.int x) (by rw[List.getElem?_map,hx];rfl) with e|⟨y,hy,e⟩
 ·cases e
 ·cases e;exact hy
theorem qm{nb:Addr->Prop}{H:Hp}:∀{is:List Int} {xs:List V},ai nb H (is.map PyData.int) xs->xs=is.map V.int
  |[],_,h=>by unfold List.map ai at h;exact h
  | i :: is, _, h => by
    rw[List.map_cons] at h
    unfold ai at h
    obtain⟨y,ys,rfl,h1,h2⟩:=h
    rw[List.map_cons,h1.bP,qm h2]
theorem Oo{wd:List Int}{ld:List (Option Int)}(h:v7 wd ld){x:Int}(hx:some x∈ld):x∈wd:=by
 obtain⟨i,hi⟩:=List.getElem?_of_mem hx
 exact List.mem_of_getElem? (h.2 i x hi)
end L2
set_option maxRecDepth 100000
set_option maxHeartbeats 1000000
namespace L2
open PySem PySem.Spec PyProof.Rows
abbrev Bg:=Option (Addr×Addr)
def NB(B:Bg)(a:Addr):Prop:=∀b l,B=some (b,l)->a≠b
def ir(B:Bg)(H:Hp):Prop:=∀b l,B=some (b,l)->bR H b l
inductive HD where
 |d (x:PyData)|fz (o:Obj) (ps:List (Key×V))
def gV(S:Addr->Prop)(H:Hp):HD->V->Prop
 | .d x,v=>af S H x v
 | .fz o ps,v=>∃a,v= .ref a/\¬S a/\H a=some (.bF o (.dK ps))
theorem gV.keep{S:Addr->Prop}{H H':Hp}{x:HD}{v:V}(h:gV S H x v)(b:aW S H H'):gV S H' x v:=by
 cases x with
 |d x=>exact af.keep b h
 |fz o ps=>obtain⟨a,e,n,q⟩:=h;exact⟨a,e,n,b _ _ n q⟩
theorem gV.av{S S':Addr->Prop}{H:Hp}{x:HD}{v:V}(h:gV S H x v)(b:∀a,S' a->S a):gV S' H x v:=by
 cases x with
 |d x=>exact af.av b h
 |fz o ps=>obtain⟨a,e,n,q⟩:=h;exact⟨a,e,fun z=>n (b a z),q⟩
theorem gV.fresh{S:Addr->Prop}{H:Hp}{x:HD}{v:V}{p:Addr}(h:gV S H x v)(hp:H p=none):gV (fun a=>S a\/a=p) H x v:=by
 cases x with
 |d x=>exact af.fresh hp h
 |fz o ps=>obtain⟨a,e,n,q⟩:=h;exact⟨a,e,fun z=>z.elim n (gn q hp),q⟩
structure Gx where
 B:Bg
 H0:Hp
 A:Addr->Prop
 hold:List (Bool×HD×V):=[]
def jn(nb:Addr->Prop)(H:Hp):Prop:=∀a,nb a->H a≠none
structure Kp(S:Addr->Prop)(F:List Addr)(H H':Hp):Prop where
 own:∀a∈F,∀o,H a=some o->H' a=some o
 lst:∀a xs,¬S a->H a=some (.lst xs)->H' a=some (.lst xs)
 tup:∀a xs,¬S a->H a=some (.tup xs)->H' a=some (.tup xs)
 bU:∀a ps,¬S a->Rd H a (.dK ps)->Rd H' a (.dK ps)
theorem Kp.of{S:Addr->Prop}{F:List Addr}{H H':Hp}(h:∀a o,(¬S a\/a∈F)->H a=some o->H' a=some o):Kp S F H H':=
 ⟨fun a ha o e=>h a o (.inr ha) e,fun a xs n e=>h a _ (.inl n) e,fun a xs n e=>h a _ (.inl n) e,fun a ps n e=>e.elim (fun e=> .inl (h a _ (.inl n) e)) fun⟨o,e⟩=> .inr ⟨o,h a _ (.inl n) e⟩⟩
structure Cu where
 v:V
 F:List Addr
 f:Bool
 P:(Addr->Prop)->Hp->Prop
 keep:∀{S:Addr->Prop} {H H':Hp},Kp S F H H'->P S H->P S H'
 av:∀{S S':Addr->Prop} {H:Hp},(∀a,S' a->S a)->P S H->P S' H
 fresh:∀{S:Addr->Prop} {H:Hp} {p:Addr},H p=none->P S H->P (fun a=>S a\/a=p) H
inductive Sl where
 |no|d (f:Bool) (d:PyData)|own (a:Addr) (f:Bool) (ds:List PyData)|au|raw (v:V)|bU (a:Addr) (f:Bool) (ks:List (Int×PyData))|cu (c:Cu)
def Sl.adr:Sl->List Addr
 | .own a _ _=>[a]
 | .bU a _ _=>[a]
 | .cu c=>c.F
 |_=>[]
@[reducible] def cG(p:Int×PyData):PyData×PyData:=(.int p.1,p.2)
abbrev Rh:=List Sl
def Gx.S(G:Gx)(nb:Addr->Prop)(f:Bool):Addr->Prop:=fun a=>nb a\/G.A a\/¬NB G.B a\/(f=true/\G.H0 a≠none)
def oj(G:Gx)(nb:Addr->Prop)(H:Hp)(x:Option V):Sl->Prop
 | .no=>True
 | .d f d=>∃v,x=some v/\af (G.S nb f) H d v
 | .own a f ds=>x=some (.ref a)/\nb a/\NB G.B a/\∃xs,H a=some (.lst xs)/\ai (G.S nb f) H ds xs
 | .au=>∃b l,G.B=some (b,l)/\x=some (.ref b)
 | .raw v=>x=some v
 | .bU a f ks=>x=some (.ref a)/\nb a/\NB G.B a/\∃ps,H a=some (.dK ps)/\aB (G.S nb f) H (ks.map cG) ps
 | .cu c=>x=some c.v/\(∀a∈c.F,nb a/\NB G.B a)/\c.P (G.S nb c.f) H
structure Wd(G:Gx)(nb:Addr->Prop)(ρ:Rh)(σ:St)(H:Hp):Prop where
 au:ir G.B H
 live:jn nb H
 old:∀a o,NB G.B a->G.H0 a=some o->H a=some o
 cZ:∀a,nb a->NB G.B a->G.H0 a=none
 gA:jn G.A G.H0
 len:σ.length=ρ.length
 gB:ir G.B G.H0
 cL:∀h∈G.hold,gV (G.S nb h.1) H h.2.1 h.2.2
 ok:∀(i:Nat) (s:Sl),ρ[i]?=some s->∃x,σ[i]?=some x/\oj G nb H x s
 apart:∀(i j:Nat) a f as c g cs,i≠j->ρ[i]?=some (.own a f as)->ρ[j]?=some (.own c g cs)->a≠c
 dI:∀(i j:Nat) a f as c g cs,i≠j->ρ[i]?=some (.bU a f as)->ρ[j]?=some (.bU c g cs)->a≠c
 cY:∀(i j:Nat) c s,i≠j->ρ[i]?=some (.cu c)->ρ[j]?=some s->∀a∈c.F,a∉s.adr
def Step(B:Bg)(H H':Hp):Prop:=(∀a o,NB B a->H a=some o->H' a=some o)/\ir B H'
section
variable{G:Gx}{B:Bg}{nb:Addr->Prop}{ρ:Rh}{σ:St}{H H1 H2 H':Hp}{f g:Bool}{d:PyData}{ds:List PyData}{v:V}{xs:List V}{a p:Addr}
theorem Step.refl(h:ir B H):Step B H H:=⟨fun _ _ _ e=>e,h⟩
theorem Step.trans(x:Step B H H1)(y:Step B H1 H2):Step B H H2:=⟨fun a o n e=>y.1 a o n (x.1 a o n e),y.2⟩
theorem ir.same(h:ir B H)(s:bf H H'):ir B H':=fun b l e=>(h b l e).same s
theorem Step.same(h:ir B H)(s:bf H H'):Step B H H':=⟨fun a o _ e=>s a o e,h.same s⟩
theorem Step.but{bE:Addr->Prop}(s:Step B H H')(h:∀a,¬NB B a->bE a):aW bE H H':=fun a o n e=>s.1 a o (Classical.byContradiction fun z=>n (h a z)) e
theorem Step.cU(s:Step G.B H H'):aW (G.S nb f) H H':=s.but fun a h=> .inr (.inr (.inl h))
theorem cE(h:g=true->f=true){bE:Addr->Prop}(hn:∀a,nb a->bE a):∀a,G.S nb g a->G.S bE f a:=by
 intro a z
 rcases z with z|z|z|⟨z,q⟩
 ·exact .inl (hn a z)
 ·exact .inr (.inl z)
 ·exact .inr (.inr (.inl z))
 ·exact .inr (.inr (.inr ⟨h z,q⟩))
theorem NB.kg(h:ir B H)(n:¬NB B a):H a≠none:=by
 intro e
 apply n
 intro b l hb z
 subst z
 obtain⟨_,_,_,_,_,h1,_⟩:=h _ _ hb
 rw[h1] at e;cases e
theorem Wd.gC(W:Wd G nb ρ σ H):jn (G.S nb f) H:=by
 intro a z
 rcases z with z|z|z|⟨_,z⟩
 ·exact W.live a z
 ·by_cases n:NB G.B a
  ·cases e:G.H0 a with
   |none=>exact absurd e (W.gA a z)
   |some o=>rw[W.old a o n e];exact Option.some_ne_none _
  ·exact NB.kg W.au n
 ·exact NB.kg W.au z
 ·by_cases n:NB G.B a
  ·cases e:G.H0 a with
   |none=>exact absurd e z
   |some o=>rw[W.old a o n e];exact Option.some_ne_none _
  ·exact NB.kg W.au n
theorem Wd.fresh(W:Wd G nb ρ σ H)(hp:H p=none):¬G.S nb f p:=fun z=>W.gC p z hp
theorem oj.step{x:Option V}{s:Sl}(st:Step G.B H H')(h:oj G nb H x s):oj G nb H' x s:=by
  cases s with
  |no=>trivial
  |d f d=>obtain⟨v,e,h⟩:=h;exact⟨v,e,h.keep st.cU⟩
  |own a f ds=>obtain⟨e,n,q,xs,hx,hd⟩:=h;exact⟨e,n,q,xs,st.1 _ _ q hx,hd.keep st.cU⟩
  |au=>exact h
  |raw v=>exact h
  |bU a f ks=>obtain⟨e,n,q,xs,hx,hd⟩:=h;exact⟨e,n,q,xs,st.1 _ _ q hx,hd.keep st.cU⟩
  | cu c =>
    obtain⟨e,n,p⟩:=h
    refine⟨e,n,c.keep (.of fun a o ha e=>st.1 a o ?_ e) p⟩
    rcases ha with ha|ha
    · exact Classical.byContradiction fun z=>ha (.inr (.inr (.inl z)))
    · exact(n a ha).2
theorem Oi(n:NB B a)(st:Step B H H')(h:H a≠none):H' a≠none:=by
 cases e:H a with
 |none=>exact absurd e h
 |some o=>rw[st.1 a o n e];exact Option.some_ne_none _
theorem Wd.step(W:Wd G nb ρ σ H)(st:Step G.B H H'):Wd G nb ρ σ H' where
 au:=st.2
 live:=fun a n=>by
  by_cases q:NB G.B a
  ·exact Oi q st (W.live a n)
  ·exact NB.kg st.2 q
 old:=fun a o n e=>st.1 a o n (W.old a o n e)
 cZ:=W.cZ
 gA:=W.gA
 len:=W.len
 gB:=W.gB
 cL:=fun h m=>(W.cL h m).keep st.cU
 ok:=fun i s e=>by
  obtain⟨x,e1,h⟩:=W.ok i s e
  exact⟨x,e1,h.step st⟩
 apart:=W.apart
 dI:=W.dI
 cY:=W.cY
theorem Wd.set{i:Nat}{s:Sl}{x:Option V}(W:Wd G nb ρ σ H)(h:oj G nb H x s)(hs:∀a f ds,s= .own a f ds->∀j c g cs,j≠i->ρ[j]?=some (.own c g cs)->a≠c)(hd:∀a f ds,s= .bU a f ds->∀j c g cs,j≠i->ρ[j]?=some (.bU c g cs)->a≠c:=by intro _ _ _ z;cases z)(hcu:∀a∈s.adr,∀j t,j≠i->ρ[j]?=some t->(∃c,s= .cu c)\/(∃c,t= .cu c)->a∉t.adr:=by intro _ z;cases z):Wd G nb (ρ.set i s) (σ.set i x) H where
 au:=W.au
 live:=W.live
 old:=W.old
 cZ:=W.cZ
 gA:=W.gA
 len:=by rw[List.length_set,List.length_set];exact W.len
 gB:=W.gB
 cL:=W.cL
 ok:=fun j t e=>by
  by_cases hij:i=j
  ·subst hij
   have hl:i<ρ.length:=by have:=(List.getElem?_eq_some_iff.mp e).1;rwa[List.length_set] at this
   rw[List.getElem?_set_self hl] at e
   cases e
   exact⟨x,List.getElem?_set_self (by rw[W.len];exact hl),h⟩
  ·rw[List.getElem?_set_ne hij] at e⊢
   exact W.ok j t e
 apart:=fun j k a f as c g cs hjk e1 e2=>by
  by_cases hj:i=j
  ·subst hj
   have hl:i<ρ.length:=by have:=(List.getElem?_eq_some_iff.mp e1).1;rwa[List.length_set] at this
   rw[List.getElem?_set_self hl] at e1
   cases e1
   rw[List.getElem?_set_ne hjk] at e2
   exact hs a f as rfl k c g cs (Ne.symm hjk) e2
  ·by_cases hk:i=k
   ·subst hk
    have hl:i<ρ.length:=by have:=(List.getElem?_eq_some_iff.mp e2).1;rwa[List.length_set] at this
    rw[List.getElem?_set_self hl] at e2
    cases e2
    rw[List.getElem?_set_ne hj] at e1
    exact(hs c g cs rfl j a f as hjk e1).symm
   ·rw[List.getElem?_set_ne hj] at e1
    rw[List.getElem?_set_ne hk] at e2
    exact W.apart j k a f as c g cs hjk e1 e2
 dI:=fun j k a f as c g cs hjk e1 e2=>by
  by_cases hj:i=j
  ·subst hj
   have hl:i<ρ.length:=by have:=(List.getElem?_eq_some_iff.mp e1).1;rwa[List.length_set] at this
   rw[List.getElem?_set_self hl] at e1
   cases e1
   rw[List.getElem?_set_ne hjk] at e2
   exact hd a f as rfl k c g cs (Ne.symm hjk) e2
  ·by_cases hk:i=k
   ·subst hk
    have hl:i<ρ.length:=by have:=(List.getElem?_eq_some_iff.mp e2).1;rwa[List.length_set] at this
    rw[List.getElem?_set_self hl] at e2
    cases e2
    rw[List.getElem?_set_ne hj] at e1
    exact(hd c g cs rfl j a f as hjk e1).symm
   ·rw[List.getElem?_set_ne hj] at e1
    rw[List.getElem?_set_ne hk] at e2
    exact W.dI j k a f as c g cs hjk e1 e2
 cY:=fun j k c t hjk e1 e2 a ha=>by
  by_cases hj:i=j
  ·subst hj
   have hl:i<ρ.length:=by have:=(List.getElem?_eq_some_iff.mp e1).1;rwa[List.length_set] at this
   rw[List.getElem?_set_self hl] at e1
   cases e1
   rw[List.getElem?_set_ne hjk] at e2
   exact hcu a ha k t (Ne.symm hjk) e2 (.inl ⟨c,rfl⟩)
  ·by_cases hk:i=k
   ·subst hk
    have hl:i<ρ.length:=by have:=(List.getElem?_eq_some_iff.mp e2).1;rwa[List.length_set] at this
    rw[List.getElem?_set_self hl] at e2
    cases e2
    rw[List.getElem?_set_ne hj] at e1
    exact fun z=>hcu a z j (.cu c) hjk e1 (.inr ⟨c,rfl⟩) ha
   ·rw[List.getElem?_set_ne hj] at e1
    rw[List.getElem?_set_ne hk] at e2
    exact W.cY j k c t hjk e1 e2 a ha
theorem Wd.jq{i:Nat}(W:Wd G nb ρ σ H)(h:af (G.S nb f) H d v):Wd G nb (ρ.set i (.d f d)) (σ.set i (some v)) H:=W.set ⟨v,rfl,h⟩ fun _ _ _ e=>by cases e
inductive Wk:Rh->Rh->Prop
 |nil:Wk [] []
 |no {s:Sl} {r r':Rh} (h:Wk r r'):Wk (.no::r) (s::r')
 |eq {s:Sl} {r r':Rh} (h:Wk r r'):Wk (s::r) (s::r')
theorem Wk.at:∀{r r':Rh} {i:Nat} {s:Sl},Wk r r'->r[i]?=some s->s= .no/\(∃t,r'[i]?=some t)\/r'[i]?=some s
 |_,_,_,_, .nil,e=>by simp at e
 |_,_,0,_, .no h,e=>by simp at e;subst e;exact .inl ⟨rfl,_,rfl⟩
 |_,_,0,_, .eq h,e=>by simp at e;subst e;exact .inr rfl
 |_,_,i+1,_, .no h,e=>by simpa using Wk.at (i:=i) h (by simpa using e)
 |_,_,i+1,_, .eq h,e=>by simpa using Wk.at (i:=i) h (by simpa using e)
theorem Wk.len{r r':Rh}(h:Wk r r'):r.length=r'.length:=by
 induction h with
 |nil=>rfl
 |no _ ih=>simp[ih]
 |eq _ ih=>simp[ih]
theorem Wd.wk{ρ':Rh}(W:Wd G nb ρ' σ H)(h:Wk ρ ρ'):Wd G nb ρ σ H where
 au:=W.au
 live:=W.live
 old:=W.old
 cZ:=W.cZ
 gA:=W.gA
 len:=by rw[h.len];exact W.len
 gB:=W.gB
 cL:=W.cL
 ok:=fun i s e=>by
  rcases h.at e with ⟨rfl,t,e'⟩|e'
  ·obtain⟨x,e1,_⟩:=W.ok i t e';exact⟨x,e1,trivial⟩
  ·exact W.ok i s e'
 apart:=fun i j a f as c g cs hij e1 e2=>by
  rcases h.at e1 with ⟨z,_⟩|jA
  ·cases z
  rcases h.at e2 with ⟨z,_⟩|e2'
  ·cases z
  exact W.apart i j a f as c g cs hij jA e2'
 dI:=fun i j a f as c g cs hij e1 e2=>by
  rcases h.at e1 with ⟨z,_⟩|jA
  ·cases z
  rcases h.at e2 with ⟨z,_⟩|e2'
  ·cases z
  exact W.dI i j a f as c g cs hij jA e2'
 cY:=fun i j c s hij e1 e2 a ha=>by
  rcases h.at e1 with ⟨z,_⟩|jA
  ·cases z
  rcases h.at e2 with ⟨z,_⟩|e2'
  ·subst z;exact fun z=>by cases z
  exact W.cY i j c s hij jA e2' a ha
theorem Wd.more(W:Wd G nb ρ σ H)(hp:H p=none){o:HO}:Wd G (fun a=>nb a\/a=p) ρ σ (upd H p o):=by
 have hS:bf H (upd H p o):=cV hp
 have hN:NB G.B p:=fun b l e z=>by
  subst z
  obtain⟨_,_,_,_,_,h1,_⟩:=W.au _ _ e
  rw[h1] at hp;cases hp
 have W':=W.step (Step.same W.au hS)
 have hA:∀f a,G.S (fun a=>nb a\/a=p) f a->(G.S nb f a\/a=p):=fun f a z=>by
  rcases z with (z|z)|z|z|z
  ·exact .inl (.inl z)
  ·exact .inr z
  ·exact .inl (.inr (.inl z))
  ·exact .inl (.inr (.inr (.inl z)))
  ·exact .inl (.inr (.inr (.inr z)))
 refine⟨W'.au,fun a n=>?_,W'.old,fun a n q=>?_,W.gA,W.len,W.gB,fun h m=>(((W.cL h m).fresh hp).av (hA h.1)).keep (aW.of hS),fun i s e=>?_,W.apart,W.dI,W.cY⟩
 ·rcases n with n|n
  ·exact W'.live a n
  ·subst n;rw[bq];exact Option.some_ne_none _
 ·rcases n with n|n
  ·exact W.cZ a n q
  ·subst n
   cases e:G.H0 a with
   |none=>rfl
   |some o=>rw[W.old a o q e] at hp;cases hp
 ·obtain⟨x,e1,h⟩:=W.ok i s e
  refine⟨x,e1,?_⟩
  cases s with
  |no=>trivial
  |d f d=>obtain⟨v,e,h⟩:=h;exact⟨v,e,((h.fresh hp).av (hA f)).keep (aW.of hS)⟩
  |own a f ds=>obtain⟨e,n,q,xs,hx,hd⟩:=h;exact⟨e, .inl n,q,xs,hS _ _ hx,((hd.fresh hp).av (hA f)).keep (aW.of hS)⟩
  |au=>exact h
  |raw v=>exact h
  |bU a f ds=>obtain⟨e,n,q,xs,hx,hd⟩:=h;exact⟨e, .inl n,q,xs,hS _ _ hx,((hd.fresh hp).av (hA f)).keep (aW.of hS)⟩
  |cu c=>obtain⟨e,n,q⟩:=h;exact⟨e,fun a ha=>⟨.inl (n a ha).1,(n a ha).2⟩,c.keep (.of fun a o _ e=>hS a o e) (c.av (hA c.f) (c.fresh hp q))⟩
theorem Wd.write(W:Wd G nb ρ σ H){o:HO}(hp:nb p)(hN:NB G.B p)(ho:∀(i:Nat) a f ds,ρ[i]?=some (.own a f ds)->a≠p)(hod:∀(i:Nat) a f ds,ρ[i]?=some (.bU a f ds)->a≠p)(hoc:∀(i:Nat) c,ρ[i]?=some (.cu c)->p∉c.F):Wd G nb ρ σ (upd H p o):=by
  have hl:∀b l,G.B=some (b,l)->p≠l:=fun b l e z=>by
    obtain⟨_,_,_,_,_,_,h2,_⟩:=W.gB b l e
    rw[<-z,W.cZ p hp hN] at h2;cases h2
  have hB:ir G.B (upd H p o):=fun b l e=>(W.au b l e).put2 ⟨hN b l e,hl b l e⟩
  have bt:∀f,aW (G.S nb f) H (upd H p o):=fun f=>aW.set (.inl hp)
  refine⟨hB,fun a n=>?_,fun a o' n e=>?_,W.cZ,W.gA,W.len,W.gB,fun h m=>(W.cL h m).keep (bt h.1),fun i s e=>?_,W.apart,W.dI,W.cY⟩
  · by_cases z:a=p
    · subst z;rw[bq];exact Option.some_ne_none _
    · rw[aF z];exact W.live a n
  · have z:a≠p:=fun z=>by subst z;rw[W.cZ a hp n] at e;cases e
    rw[aF z];exact W.old a o' n e
  · obtain⟨x,e1,h⟩:=W.ok i s e
    refine⟨x,e1,?_⟩
    cases s with
    |no=>trivial
    |d f d=>obtain⟨v,e,h⟩:=h;exact⟨v,e,h.keep (bt f)⟩
    |own a f ds=>obtain⟨e',n,q,xs,hx,hd⟩:=h;exact⟨e',n,q,xs,by rw[aF (ho i a f ds e)];exact hx,hd.keep (bt f)⟩
    |au=>exact h
    |raw v=>exact h
    |bU a f ds=>obtain⟨e',n,q,xs,hx,hd⟩:=h;exact⟨e',n,q,xs,by rw[aF (hod i a f ds e)];exact hx,hd.keep (bt f)⟩
    | cu c =>
      obtain⟨e',n,q⟩:=h
      refine⟨e',n,c.keep (.of fun a o' ha e''=>?_) q⟩
      rw[aF]
      · exact e''
      · rintro rfl
        rcases ha with ha|ha
        · exact ha (.inl hp)
        · exact hoc i c e ha
end
end L2
set_option maxRecDepth 100000
set_option maxHeartbeats 1000000
namespace L2
open PySem PySem.Spec PyProof.Rows
abbrev Pd:=Bool->PyData->Prop
def Ev(G:Gx)(ρ:Rh)(te:TE)(Φ:Pd):Prop:=∀nb σ H (Q:VK),Wd G nb ρ σ H->(∀f v H' d,Φ f d->Step G.B H H'->af (G.S nb f) H' d v->Q v H')->te σ H Q
def aC(G:Gx)(ρ:Rh)(te:TE)(Φ:Bool->List PyData->Prop):Prop:=∀nb σ H (Q:VK),Wd G nb ρ σ H->
 (∀f a xs H' ds,Φ f ds->Step G.B H H'->H a=none->H' a=some (.lst xs)->ai (fun x=>G.S nb f x\/x=a) H' ds xs->Q (.ref a) H')->te σ H Q
def Tv(G:Gx)(ρ:Rh)(tt:TT)(Φ:Bool->Prop):Prop:=∀nb σ H (Q:Bool->Hp->Prop),Wd G nb ρ σ H->(∀b H',Φ b->Step G.B H H'->Q b H')->tt σ H Q
def Ov(G:Gx)(ρ:Rh)(to:TO)(Φ:Option Int->Prop):Prop:=∀nb σ H (Q:Option Int->Hp->Prop),Wd G nb ρ σ H->(∀o H',Φ o->Step G.B H H'->Q o H')->to σ H Q
abbrev Fd:=Bool×PyData
def iG(G:Gx)(nb:Addr->Prop)(H:Hp):List Fd->List V->Prop
 |[],vs=>vs=[]
 |e::es,vs=>∃v ws,vs=v::ws/\af (G.S nb e.1) H e.2 v/\iG G nb H es ws
def Av(G:Gx)(ρ:Rh)(ta:TA)(Φ:List Fd->Prop):Prop:=∀nb σ H (Q:List V->Hp->Prop),Wd G nb ρ σ H->(∀es vs H',Φ es->Step G.B H H'->iG G nb H' es vs->Q vs H')->ta σ H Q
def Gv(G:Gx)(ρ:Rh)(g:TG)(f:Bool)(d:PyData)(Φ:Rh->Prop):Prop:=∀nb σ H v (Q:St->Hp->Prop),Wd G nb ρ σ H->af (G.S nb f) H d v->(∀σ' ρ',Φ ρ'->Wd G nb ρ' σ' H->Q σ' H)->g v σ H Q
def jK(G:Gx)(ρ:Rh)(g:fY)(f:Bool)(ds:List PyData)(Φ:Rh->Prop):Prop:=∀nb σ H vs (Q:St->Hp->Prop),Wd G nb ρ σ H->ai (G.S nb f) H ds vs->(∀σ' ρ',Φ ρ'->Wd G nb ρ' σ' H->Q σ' H)->g vs σ H Q
structure DE where
 nx:Rh->Prop
 rt:Pd
 bk:Rh->Prop:=fun _=>False
 ct:Rh->Prop:=fun _=>False
 rw:(Addr->Prop)->Rh->V->Hp->Prop:=fun _ _ _ _=>False
structure qN(G:Gx)(E:DE)(D:Ends):Prop where
 nx:∀nb ρ σ H,E.nx ρ->Wd G nb ρ σ H->D.nx σ H
 bk:∀nb ρ σ H,E.bk ρ->Wd G nb ρ σ H->D.bk σ H
 ct:∀nb ρ σ H,E.ct ρ->Wd G nb ρ σ H->D.ct σ H
 rt:∀nb ρ σ f v H d,E.rt f d->Wd G nb ρ σ H->af (G.S (fun _=>False) f) H d v->D.rt v H
 rw:∀nb ρ σ v H,E.rw nb ρ v H->Wd G nb ρ σ H->D.rt v H
def Sv(G:Gx)(ρ:Rh)(ts:TS)(E:DE):Prop:=∀nb σ H D,Wd G nb ρ σ H->qN G E D->ts D σ H
def gp:PyData->Bool
 | .none=>true| .bool _=>true| .int _=>true| .str _=>true|_=>false
def toV:PyData->V
 | .bool b=> .bl b| .int i=> .int i| .str x=> .str x|_=> .aN
section
variable{nb bE:Addr->Prop}{H H':Hp}{d e:PyData}{v:V}
theorem af.sc(h:gp d=true):af nb H d (toV d):=by
 cases d<;>first|(cases h;done)|(unfold af;rfl)
theorem af.TR(h:gp d=true)(q:af nb H d v):v=toV d:=by
 cases d<;>first|(cases h;done)|(unfold af at q;exact q)
theorem af.gu(h:gp d=true)(q:af nb H d v):af bE H' d v:=by
 rw[q.TR h];exact .sc h
theorem ai.gu:∀{ds:List PyData} {xs:List V},ds.all gp=true->ai nb H ds xs->ai bE H' ds xs
  |[],_,_,q=>by unfold ai at q⊢;exact q
  | d :: ds, _, h, q => by
    rw[List.all_cons,Bool.and_eq_true] at h
    unfold ai at q⊢
    obtain⟨y,ys,e,h1,h2⟩:=q
    exact⟨y,ys,e,h1.gu h.1,ai.gu h.2 h2⟩
end
section
variable{G:Gx}{ρ:Rh}{Φ Ψ:Pd}{ta tb te:TE}{t:TA}{i:Nat}{f g:Bool}{d e:PyData}{ds es:List PyData}{K:PySem.W.Frag}
theorem Ev.mono(h:Ev G ρ te Ψ)(q:∀f d,Ψ f d->Φ f d):Ev G ρ te Φ:=fun nb σ H Q W z=>h nb σ H Q W fun f v H' d p=>z f v H' d (q f d p)
theorem aC.ev(h:aC G ρ te fun f ds=>Φ f (.list ds)):Ev G ρ te Φ:=fun nb σ H Q W z=>h nb σ H Q W fun f a xs H' ds p st n e hd=>
 z f _ H' _ p st (.lst (W.fresh n) e (hd.av fun _ x=> .inl x))
namespace Ev
theorem var(e:ρ[i]?=some (.d f d))(h:Φ f d):Ev G ρ (dM i) Φ:=fun nb σ H Q W z=>by
 obtain⟨x,e1,v,rfl,hd⟩:=W.ok i _ e
 exact⟨v,e1,z f v H d h (.refl W.au) hd⟩
theorem int{n:Int}(h:Φ true (.int n)):Ev G ρ (tC (.int n)) Φ:=fun nb σ H Q W z=>z true _ H _ h (.refl W.au) (.int n)
theorem bl{b:Bool}(h:Φ true (.bool b)):Ev G ρ (tC (.bl b)) Φ:=fun nb σ H Q W z=>z true _ H _ h (.refl W.au) (.bl b)
theorem aN(h:Φ true .none):Ev G ρ (tC .aN) Φ:=fun nb σ H Q W z=>z true _ H _ h (.refl W.au) .aN
theorem gP{r:R2}(h:Ev G ρ ta fun f x=>Ev G ρ tb fun g y=>∀nb σ H u v (Q:VK),Wd G nb ρ σ H->af (G.S nb f) H x u->af (G.S nb g) H y v->(∀f w H' d,Φ f d->Step G.B H H'->af (G.S nb f) H' d w->Q w H')->r u v H Q):Ev G ρ (bV r ta tb) Φ:=fun nb σ H Q W z=>
 h nb σ H _ W fun f v1 H1 d1 p1 s1 q1=>p1 nb σ H1 _ (W.step s1) fun g v2 H2 d2 p2 s2 q2=>p2 nb σ H2 _ _ _ ((W.step s1).step s2) (q1.keep s2.cU) q2 fun f w H' d p st q=>z f w H' d p (s1.trans (s2.trans st)) q
theorem rI{C:Int->Int->Prop}{k:Int->Int->Int}(h:Ev G ρ ta fun _ x=>∃i,x= .int i/\Ev G ρ tb fun _ y=>∃j,y= .int j/\C i j/\Φ true (.int (k i j))):Ev G ρ (bV (L2.rI C fun i j=> .int (k i j)) ta tb) Φ:=
 gP (h.mono fun f x ⟨i,ex,q⟩=>q.mono fun g y ⟨j,ey,hc,p⟩ nb σ H u v Q W hu hv z=>by
  subst ex ey;exact⟨i,j,hu.bP,hv.bP,hc,z true _ H _ p (.refl W.au) (.int _)⟩)
theorem gm{k:Int->Int->Int}(h:Ev G ρ ta fun _ x=>∃i,x= .int i/\Ev G ρ tb fun _ y=>∃j,y= .int j/\Φ true (.int (k i j))):Ev G ρ (bV (L2.gm fun i j=> .int (k i j)) ta tb) Φ:=
 gP (h.mono fun f x ⟨i,ex,q⟩=>q.mono fun g y ⟨j,ey,p⟩ nb σ H u v Q W hu hv z=>by
  subst ex ey;exact⟨i,j,hu.bP,hv.bP,z true _ H _ p (.refl W.au) (.int _)⟩)
theorem UN{k:Int->Int->Bool}(h:Ev G ρ ta fun _ x=>∃i,x= .int i/\Ev G ρ tb fun _ y=>∃j,y= .int j/\Φ true (.bool (k i j))):Ev G ρ (bV (L2.gm fun i j=> .bl (k i j)) ta tb) Φ:=
 gP (h.mono fun f x ⟨i,ex,q⟩=>q.mono fun g y ⟨j,ey,p⟩ nb σ H u v Q W hu hv z=>by
  subst ex ey;exact⟨i,j,hu.bP,hv.bP,z true _ H _ p (.refl W.au) (.bl _)⟩)
theorem un{r:V->Hp->VK->Prop}(h:Ev G ρ ta fun f x=>∀nb σ H u (Q:VK),Wd G nb ρ σ H->af (G.S nb f) H x u->(∀f w H' d,Φ f d->Step G.B H H'->af (G.S nb f) H' d w->Q w H')->r u H Q):Ev G ρ (vX r ta) Φ:=fun nb σ H Q W z=>
 h nb σ H _ W fun f v1 H1 d1 p1 s1 q1=>p1 nb σ H1 _ _ (W.step s1) q1 fun f w H' d p st q=>z f w H' d p (s1.trans st) q
theorem rU{k:Int->Int}(h:Ev G ρ ta fun _ x=>∃i,x= .int i/\Φ true (.int (k i))):Ev G ρ (vX (L2.rU fun i=> .int (k i)) ta) Φ:=
 un (h.mono fun f x ⟨i,ex,p⟩ nb σ H u Q W hu z=>by subst ex;exact⟨i,hu.bP,z true _ H _ p (.refl W.au) (.int _)⟩)
end Ev
inductive fB:PyData->PyData->Bool->Prop
 |ii (i j:Int):fB (.int i) (.int j) (decide (i=j))
 |ni (i:Int):fB .none (.int i) false
 |W8 (i:Int):fB (.int i) .none false
 |nn:fB .none .none true
 |bb (a b:Bool):fB (.bool a) (.bool b) (a==b)
 |ss (x:Str):fB (.str x) (.str x) true
 |sd (x y:Str):fB (.str x) (.str y) (decide (x=y))
theorem fB.v{nb bE:Addr->Prop}{H:Hp}{x y:PyData}{b:Bool}{u v:V}(h:fB x y b)(hu:af nb H x u)(hv:af bE H y v):zF u v=true/\decide (u=v)=b:=by
 cases h<;>(unfold af at hu hv;subst hu hv;refine⟨rfl,?_⟩)
 ·exact R.vo
 ·rfl
 ·rfl
 ·rfl
 ·rename_i a b;cases a<;>cases b<;>rfl
 ·exact decide_eq_true rfl
 ·rename_i x y
  by_cases c:x=y
  ·subst c;rw[decide_eq_true rfl,decide_eq_true rfl]
  ·rw[decide_eq_false c,decide_eq_false (fun z=>c (V.str.inj z))]
namespace Ev
theorem eq(h:Ev G ρ ta fun _ x=>Ev G ρ tb fun _ y=>∃b,fB x y b/\Φ true (.bool b)):Ev G ρ (bV vq ta tb) Φ:=
 gP (h.mono fun f x q=>q.mono fun g y ⟨b,e,p⟩ nb σ H u v Q W hu hv z=>by
  obtain⟨h1,h2⟩:=e.v hu hv
  exact⟨h1,by rw[h2];exact z true _ H _ p (.refl W.au) (.bl _)⟩)
theorem ne(h:Ev G ρ ta fun _ x=>Ev G ρ tb fun _ y=>∃b,fB x y b/\Φ true (.bool !b)):Ev G ρ (bV zS ta tb) Φ:=
 gP (h.mono fun f x q=>q.mono fun g y ⟨b,e,p⟩ nb σ H u v Q W hu hv z=>by
  obtain⟨h1,h2⟩:=e.v hu hv
  exact⟨h1,by rw[h2];exact z true _ H _ p (.refl W.au) (.bl _)⟩)
theorem QX{ng:Bool}(h:Ev G ρ ta fun _ x=>Ev G ρ tb fun _ y=>SeqAt.shaped x=true/\SeqAt.shaped y=true/\Φ true (.bool (PyData.eqv x y !=ng))):Ev G ρ (bV (yf ng) ta tb) Φ:=
 gP (h.mono fun f x q=>q.mono fun g y ⟨h1,h2,p⟩ nb σ H u v Q W hu hv z=>
  ⟨G.S nb false,x,y,hu.av (cE (fun z=>by cases z) fun _ z=>z),hv.av (cE (fun z=>by cases z) fun _ z=>z),h1,h2,z true _ H _ p (.refl W.au) (.bl _)⟩)
end Ev
def pA:PyData->Bool
 | .none=>true
 |_=>false
theorem ES{nb:Addr->Prop}{H:Hp}{d:PyData}{v:V}(h:af nb H d v):decide (v= .aN)=pA d:=by
 cases d<;>unfold af at h
 all_goals first
  |(subst h;rfl)
  |(obtain⟨a,xs,rfl,_⟩:=h;rfl)
  |exact h.elim
namespace Ev
theorem is(h:Ev G ρ ta fun _ x=>Φ true (.bool (pA x))):Ev G ρ (bV BH ta (tC .aN)) Φ:=
 gP (h.mono fun f x p=>Ev.aN fun nb σ H u v Q W hu hv z=>⟨hv.tF,by rw[ES hu];exact z true _ H _ p (.refl W.au) (.bl _)⟩)
theorem Rw(h:Ev G ρ ta fun _ x=>Φ true (.bool !pA x)):Ev G ρ (bV qz ta (tC .aN)) Φ:=
 gP (h.mono fun f x p=>Ev.aN fun nb σ H u v Q W hu hv z=>⟨hv.tF,by rw[ES hu];exact z true _ H _ p (.refl W.au) (.bl _)⟩)
end Ev
theorem ai.aU{nb:Addr->Prop}{H:Hp}{ds:List PyData}{xs:List V}{k:Int}{e:PyData}(h:ai nb H ds xs)(q:L2.aU ds k=some e):∃v,L2.aU xs k=some v/\af nb H e v:=by
 unfold L2.aU at q⊢
 rw[h.length]
 cases z:cH ds.length k with
 |none=>rw[z] at q;cases q
 |some j=>rw[z] at q;exact h.get q
namespace Ev
theorem K8(h:Ev G ρ ta fun f x=>∃ds,x= .list ds/\Ev G ρ tb fun _ y=>∃k,y= .int k/\∃e,aU ds k=some e/\Φ f e):Ev G ρ (bV (bh K) ta tb) Φ:=
 gP (h.mono fun f x ⟨ds,ex,q⟩=>q.mono fun g y ⟨k,ey,e,he,p⟩ nb σ H u v Q W hu hv z=>by
  subst ex ey
  obtain⟨a,xs,rfl,n,hx,hd⟩:=hu.cO
  obtain⟨w,hw,hD⟩:=hd.aU he
  exact⟨a,xs,k,w,rfl,hv.bP, .of hx,hw,z f _ H _ p (.refl W.au) hD⟩)
theorem QA(h:Ev G ρ ta fun f x=>∃ds,x= .tuple ds/\Ev G ρ tb fun _ y=>∃k,y= .int k/\∃e,aU ds k=some e/\Φ f e):Ev G ρ (bV (aY K) ta tb) Φ:=
 gP (h.mono fun f x ⟨ds,ex,q⟩=>q.mono fun g y ⟨k,ey,e,he,p⟩ nb σ H u v Q W hu hv z=>by
  subst ex ey
  obtain⟨a,xs,rfl,n,hx,hd⟩:=hu.ofT
  obtain⟨w,hw,hD⟩:=hd.aU he
  exact⟨a,xs,k,w,rfl,hv.bP, .of hx,hw,z f _ H _ p (.refl W.au) hD⟩)
theorem SM{a:Addr}(e:ρ[i]?=some (.own a f ds))(h:Ev G ρ tb fun _ y=>∃k,y= .int k/\∃e,aU ds k=some e/\Φ f e):Ev G ρ (bV (bh K) (dM i) tb) Φ:=fun nb σ H Q W z=>by
 obtain⟨x,e1,h1,h2,h3,xs,hx,hd⟩:=W.ok i _ e
 subst h1
 refine⟨.ref a,e1,h nb σ H _ W fun g w H1 y ⟨k,ey,e',he,p⟩ s1 hv=>?_⟩
 subst ey
 obtain⟨u,hu,hD⟩:=(hd.keep s1.cU).aU he
 exact⟨a,xs,k,u,rfl,hv.bP, .of (s1.1 _ _ h3 hx),hu,z f _ H1 _ p s1 hD⟩
theorem vN(h:Ev G ρ ta fun _ x=>∃b,x= .bool b/\if b=true then Ev G ρ tb Φ else Φ true (.bool false)):Ev G ρ (zE ta tb) Φ:=fun nb σ H Q W z=>
 h nb σ H _ W fun f v H1 d ⟨b,e,q⟩ s1 hv=>by
  subst e
  refine⟨b,by unfold af at hv;exact hv,?_⟩
  cases b with
  |true=>rw[if_pos rfl] at q⊢;exact q nb σ H1 _ (W.step s1) fun f v H' d p st=>z f v H' d p (s1.trans st)
  |false=>rw[if_neg Bool.false_ne_true] at q⊢;exact z true _ H1 _ q s1 (.bl false)
theorem QW(h:Ev G ρ ta fun _ x=>∃b,x= .bool b/\if b=true then Φ true (.bool true) else Ev G ρ tb Φ):Ev G ρ (AZ ta tb) Φ:=fun nb σ H Q W z=>
 h nb σ H _ W fun f v H1 d ⟨b,e,q⟩ s1 hv=>by
  subst e
  refine⟨b,by unfold af at hv;exact hv,?_⟩
  cases b with
  |false=>rw[if_neg Bool.false_ne_true] at q⊢;exact q nb σ H1 _ (W.step s1) fun f v H' d p st=>z f v H' d p (s1.trans st)
  |true=>rw[if_pos rfl] at q⊢;exact z true _ H1 _ q s1 (.bl true)
theorem Gm{c:TT}(h:Tv G ρ c fun b=>if b=true then Ev G ρ ta Φ else Ev G ρ tb Φ):Ev G ρ (CJ c ta tb) Φ:=fun nb σ H Q W z=>
 h nb σ H _ W fun b H1 q s1=>by
  cases b with
  |true=>rw[if_pos rfl] at q⊢;exact q nb σ H1 _ (W.step s1) fun f v H' d p st=>z f v H' d p (s1.trans st)
  |false=>rw[if_neg Bool.false_ne_true] at q⊢;exact q nb σ H1 _ (W.step s1) fun f v H' d p st=>z f v H' d p (s1.trans st)
end Ev
namespace Tv
variable{Θ:Bool->Prop}{t u:TT}
theorem test(h:Ev G ρ te fun _ x=>∃b,x= .bool b/\Θ b):Tv G ρ (uA te) Θ:=fun nb σ H Q W z=>
 h nb σ H _ W fun f v H1 d ⟨b,e,q⟩ s1 hv=>by subst e;exact⟨b,by unfold af at hv;exact hv,z b H1 q s1⟩
theorem and(h:Tv G ρ t fun b=>if b=true then Tv G ρ u Θ else Θ false):Tv G ρ (sQ t u) Θ:=fun nb σ H Q W z=>
 h nb σ H _ W fun b H1 q s1=>by
  cases b with
  |true=>rw[if_pos rfl] at q⊢;exact q nb σ H1 _ (W.step s1) fun b H' p st=>z b H' p (s1.trans st)
  |false=>rw[if_neg Bool.false_ne_true] at q⊢;exact z false H1 q s1
theorem or(h:Tv G ρ t fun b=>if b=true then Θ true else Tv G ρ u Θ):Tv G ρ (Gf t u) Θ:=fun nb σ H Q W z=>
 h nb σ H _ W fun b H1 q s1=>by
  cases b with
  |false=>rw[if_neg Bool.false_ne_true] at q⊢;exact q nb σ H1 _ (W.step s1) fun b H' p st=>z b H' p (s1.trans st)
  |true=>rw[if_pos rfl] at q⊢;exact z true H1 q s1
theorem not(h:Tv G ρ t fun b=>Θ (!b)):Tv G ρ (EH t) Θ:=fun nb σ H Q W z=>h nb σ H _ W fun b H1 q s1=>z _ H1 q s1
theorem o9(h:Θ true):Tv G ρ pK Θ:=fun nb σ H Q W z=>z true H h (.refl W.au)
end Tv
def Ct(K:PySem.W.Frag)(ta:TE):TT:=fun σ H Q=>ta σ H fun x H1=>∃k,tD K x H1 k/\Q k H1
theorem Tv.Ma{Θ:Bool->Prop}(h:Ev G ρ te fun _ x=>∃b,x= .bool b/\Θ b):Tv G ρ (Ct K te) Θ:=fun nb σ H Q W z=>
 h nb σ H _ W fun f v H1 d ⟨b,e,q⟩ s1 hv=>by subst e;exact⟨b,by unfold af at hv;subst hv;rfl,z b H1 q s1⟩
namespace Av
variable{Θ:List Fd->Prop}
theorem nil(h:Θ []):Av G ρ cT Θ:=fun nb σ H Q W z=>z [] [] H h (.refl W.au) rfl
theorem cons(h:Ev G ρ te fun f d=>Av G ρ t fun es=>Θ ((f,d)::es)):Av G ρ (ck te t) Θ:=fun nb σ H Q W z=>
 h nb σ H _ W fun f v H1 d p1 s1 q1=>p1 nb σ H1 _ (W.step s1) fun es vs H2 p2 s2 q2=>z _ _ H2 p2 (s1.trans s2) ⟨v,vs,rfl,q1.keep s2.cU,q2⟩
theorem Ih{is:List Int}(h:Θ (is.map fun i=>(true, .int i))):Av G ρ (rF is) Θ:=fun nb σ H Q W z=>z _ _ H h (.refl W.au) (by
 clear h
 induction is with
 |nil=>rfl
 |cons i r ih=>exact⟨_,_,rfl, .int i,ih⟩)
end Av
def gY(es:List Fd):Bool:=es.all (·.1)
theorem iG.all{nb:Addr->Prop}{H:Hp}:∀{es:List Fd} {vs:List V} {f:Bool},iG G nb H es vs->(f=true->gY es=true)->ai (G.S nb f) H (es.map (·.2)) vs
  |[],_,_,h,_=>by unfold iG at h;subst h;exact .nil
  | e :: es, _, f, h, hf => by
    obtain⟨v,ws,rfl,h1,h2⟩:=h
    refine .cons (h1.av (cE (fun z=>?_) fun _ z=>z)) (h2.all fun z=>?_)
    · have:=hf z;simp only[gY,List.all_cons,Bool.and_eq_true] at this;exact this.1
    · have:=hf z;simp only[gY,List.all_cons,Bool.and_eq_true] at this;exact this.2
theorem iG.len{nb:Addr->Prop}{H:Hp}{es:List Fd}{vs:List V}(h:iG G nb H es vs):vs.length=es.length:=by
 have:=(h.all (f:=false) (fun z=>by cases z)).length
 simpa using this
theorem aC.lst{Φ:Bool->List PyData->Prop}(h:Av G ρ t fun es=>es.length<=10000/\Φ (gY es) (es.map (·.2))):aC G ρ (lG t) Φ:=fun nb σ H Q W z=>
  h nb σ H _ W fun es vs H1 ⟨hl,p⟩ s1 q1=>⟨Nat.le_trans (by rw[q1.len];exact hl) (by decide),fun a ha=>by
    have W1:=W.step s1
    refine z _ a vs _ _ p (s1.trans (.same W1.au (cV ha))) ?_ bq (((q1.all fun z=>z).fresh ha).keep (aW.of (cV ha)))
    cases e:H a with
    |none=>rfl
    | some o =>
      by_cases n:NB G.B a
      · rw[s1.1 a o n e] at ha;cases ha
      · exact absurd ha (NB.kg s1.2 n)⟩
theorem Ev.lst(h:Av G ρ t fun es=>es.length<=10000/\Φ (gY es) (.list (es.map (·.2)))):Ev G ρ (lG t) Φ:=(aC.lst (Φ:=fun f ds=>Φ f (.list ds)) h).ev
end
end L2
set_option maxRecDepth 100000
set_option maxHeartbeats 1000000
namespace L2
open PySem PySem.Spec PyProof.Rows
def fk(K:PySem.W.Frag):List V->Hp->VK->Prop:=fun xs H Q=>∃p ys,xs=[.ref p]/\(aL K H p ys\/fJ K H p ys)/\Q (.int ys.length) H
theorem gx{X:Cx}:fH X (.builtin "len") (fk X.K):=Gg
def D5:List V->Hp->VK->Prop:=fun xs H Q=>∃i j,xs=[.int i, .int j]/\Q (.int (if j<i then j else i)) H
def Cr:List V->Hp->VK->Prop:=fun xs H Q=>(∃i,xs=[.int i]/\Q (.int i) H)\/∃k,xs=[.bl k]/\Q (.int (if k then 1 else 0)) H
theorem Qt{X:Cx}(hc:X.calm=true):fH X (.builtin "min") D5:=KH hc
theorem C2{X:Cx}:fH X (.type "int") Cr:=Kv
def dH{α:Type}(xs:List α)(lo hi:Option Int):List α:=(xs.drop (HT.dh xs.length 0 lo)).take (HT.dh xs.length xs.length hi-HT.dh xs.length 0 lo)
theorem ai.cut{nb:Addr->Prop}{H:Hp}{ds:List PyData}{xs:List V}{lo hi:Option Int}(h:ai nb H ds xs):ai nb H (dH ds lo hi) (j3 xs lo hi):=by
 unfold dH j3
 rw[h.length]
 exact(h.drop _).take _
def cN(ds:List PyData):Bool:=ds.all gp
section
variable{G:Gx}{ρ:Rh}{Φ Ψ:Pd}{ta tb te:TE}{t:TA}{i:Nat}{f g:Bool}{d e:PyData}{ds es:List PyData}{K:PySem.W.Frag}
theorem Wd.none_of{nb:Addr->Prop}{σ:St}{H H1:Hp}{a:Addr}(W:Wd G nb ρ σ H)(s1:Step G.B H H1)(ha:H1 a=none):H a=none:=by
  cases e:H a with
  |none=>rfl
  | some o =>
    by_cases n:NB G.B a
    · rw[s1.1 a o n e] at ha;cases ha
    · exact absurd ha (NB.kg s1.2 n)
theorem aC.fin{nb:Addr->Prop}{σ:St}{H H1:Hp}{Q:VK}{Φ:Bool->List PyData->Prop}{a:Addr}{xs:List V}(W:Wd G nb ρ σ H)(s1:Step G.B H H1)(ha:H1 a=none)(hd:ai (G.S nb f) H1 ds xs)(p:Φ (f||cN ds) ds)
  (z:∀f a xs H' ds,Φ f ds->Step G.B H H'->H a=none->H' a=some (.lst xs)->ai (fun x=>G.S nb f x\/x=a) H' ds xs->Q (.ref a) H'):Q (.ref a) (upd H1 a (.lst xs)):=by
 refine z _ a xs _ ds p (s1.trans (.same s1.2 (cV ha))) (W.none_of s1 ha) bq ?_
 cases hs:cN ds with
 |true=>exact ai.gu hs hd
 |false=>rw[Bool.or_false];exact(hd.fresh ha).keep (aW.of (cV ha))
namespace Ov
variable{Θ:Option Int->Prop}
theorem none(h:Θ none):Ov G ρ uc Θ:=fun nb σ H Q W z=>z _ H h (.refl W.au)
theorem some(h:Ev G ρ te fun _ x=>∃k,x= .int k/\Θ (some k)):Ov G ρ (uD te) Θ:=fun nb σ H Q W z=>
 h nb σ H _ W fun f v H1 d ⟨k,e,q⟩ s1 hv=>by subst e;exact⟨k,hv.bP,z _ H1 q s1⟩
end Ov
namespace aC
variable{Θ:Bool->List PyData->Prop}
theorem sl{tl th:TO}(h:Ev G ρ te fun f x=>∃ds,x= .list ds/\Ov G ρ tl fun lo=>Ov G ρ th fun hi=>Θ (f||cN (dH ds lo hi)) (dH ds lo hi)):aC G ρ (rZ (g7 K) te tl th) Θ:=fun nb σ H Q W z=>
 h nb σ H _ W fun f v H1 d ⟨ds,e,q⟩ s1 hv=>q nb σ H1 _ (W.step s1) fun lo H2 q2 s2=>q2 nb σ H2 _ ((W.step s1).step s2) fun hi H3 q3 s3=>by
  subst e
  obtain⟨a,xs,rfl,n,hx,hd⟩:=((hv.keep s2.cU).keep s3.cU).cO
  exact⟨a,xs,rfl, .of hx,fun p hp=>aC.fin W (s1.trans (s2.trans s3)) hp hd.cut q3 z⟩
theorem listOf(h:Ev G ρ te fun f x=>∃ds,(x= .list ds\/x= .tuple ds)/\Θ (f||cN ds) ds):aC G ρ (gf (lB K) (ck te cT)) Θ:=fun nb σ H Q W z=>
 h nb σ H _ W fun f v H1 d ⟨ds,e,q⟩ s1 hv=>by
  rcases e with e|e
  ·subst e
   obtain⟨a,xs,rfl,n,hx,hd⟩:=hv.cO
   exact⟨a,xs,rfl, .inl (.of hx),fun p hp=>aC.fin W s1 hp hd q z⟩
  ·subst e
   obtain⟨a,xs,rfl,n,hx,hd⟩:=hv.ofT
   exact⟨a,xs,rfl, .inr (.of hx),fun p hp=>aC.fin W s1 hp hd q z⟩
theorem cat(h:Ev G ρ ta fun f x=>∃ds,x= .list ds/\Ev G ρ tb fun g y=>∃es,y= .list es/\ds.length+es.length<=10000/\Θ ((f && g)||cN (ds++es)) (ds++es)):aC G ρ (bV sX ta tb) Θ:=fun nb σ H Q W z=>
 h nb σ H _ W fun f v H1 d ⟨ds,e,q⟩ s1 hv=>q nb σ H1 _ (W.step s1) fun g u H2 d2 ⟨es,e2,hl,p⟩ s2 hu=>by
  subst e e2
  obtain⟨a,xs,rfl,n,hx,hd⟩:=(hv.keep s2.cU).cO
  obtain⟨c,ys,rfl,m,hy,hc⟩:=hu.cO
  refine⟨a,c,xs,ys,rfl,rfl,hx,hy,Nat.le_trans (by rw[hd.length,hc.length];exact hl) (by decide),fun p' hp=>aC.fin (f:=f && g) W (s1.trans s2) hp ?_ p z⟩
  exact ai.append (hd.av (cE (fun z=>(Bool.and_eq_true _ _▸z).1) fun _ z=>z)) (hc.av (cE (fun z=>(Bool.and_eq_true _ _▸z).2) fun _ z=>z))
end aC
namespace Ev
theorem sl{tl th:TO}(h:Ev G ρ te fun f x=>∃ds,x= .list ds/\Ov G ρ tl fun lo=>Ov G ρ th fun hi=>Φ (f||cN (dH ds lo hi)) (.list (dH ds lo hi))):Ev G ρ (rZ (g7 K) te tl th) Φ:=(aC.sl (Θ:=fun f ds=>Φ f (.list ds)) h).ev
theorem listOf(h:Ev G ρ te fun f x=>∃ds,(x= .list ds\/x= .tuple ds)/\Φ (f||cN ds) (.list ds)):Ev G ρ (gf (lB K) (ck te cT)) Φ:=(aC.listOf (Θ:=fun f ds=>Φ f (.list ds)) h).ev
theorem cat(h:Ev G ρ ta fun f x=>∃ds,x= .list ds/\Ev G ρ tb fun g y=>∃es,y= .list es/\ds.length+es.length<=10000/\Φ ((f && g)||cN (ds++es)) (.list (ds++es))):Ev G ρ (bV sX ta tb) Φ:=(aC.cat (Θ:=fun f ds=>Φ f (.list ds)) h).ev
theorem min2(h:Ev G ρ ta fun _ x=>∃i,x= .int i/\Ev G ρ tb fun _ y=>∃j,y= .int j/\Φ true (.int (if j<i then j else i))):Ev G ρ (gf D5 (ck ta (ck tb cT))) Φ:=fun nb σ H Q W z=>
 h nb σ H _ W fun f v H1 d ⟨i,e,q⟩ s1 hv=>q nb σ H1 _ (W.step s1) fun g u H2 d2 ⟨j,e2,p⟩ s2 hu=>by
  subst e e2
  exact⟨i,j,by rw[hv.bP,hu.bP],z true _ H2 _ p (s1.trans s2) (.int _)⟩
theorem T3(h:Ev G ρ ta fun _ x=>∃b,x= .bool b/\Φ true (.int (if b then 1 else 0))):Ev G ρ (gf Cr (ck ta cT)) Φ:=fun nb σ H Q W z=>
 h nb σ H _ W fun f v H1 d ⟨b,e,q⟩ s1 hv=>by subst e;unfold af at hv;subst hv;exact .inr ⟨b,rfl,z true _ H1 _ q s1 (.int _)⟩
end Ev
abbrev DF:=List PyData->Pd->Prop
def aZ(n:Nat)(F:DF):Sp:=fun vs H Q _=>vs.length=n/\∃(nb:Addr->Prop) (ds:List PyData),jn nb H/\ai nb H ds vs/\F ds fun f d=>∀v H',bf H H'->af (fun a=>nb a\/(f=true/\H a≠none)) H' d v->Q v H'
def er(n:Nat)(F:DF):Sp:=fun vs H Q _=>vs.length=n/\∃(b l:Addr) (ws:List V) (nb:Addr->Prop) (ds:List PyData),vs= .ref b::ws/\bR H b l/\jn nb H/\nb b/\ai nb H ds ws/\
 F ds fun f d=>∀v H',aW (Nb b) H H'->bR H' b l->af (fun a=>nb a\/(f=true/\H a≠none)) H' d v->Q v H'
def cF(F:DF):Prop:=∀ds (Φ Ψ:Pd),F ds Φ->(∀f d,Φ f d->Ψ f d)->F ds Ψ
theorem Ev.bI{n:Nat}{F:DF}(hm:cF F)(h:Av G ρ t fun es=>es.length=n/\F (es.map (·.2)) fun f d=>Φ (f||gY es) d):Ev G ρ (fW (aZ n F) [] E0 t) Φ:=fun nb σ H Q W z=>
 h nb σ H _ W fun es vs H1 ⟨hl,p⟩ s1 q1=>by
  have W1:=W.step s1
  rw[List.append_nil]
  refine⟨by rw[q1.len,hl],G.S nb (gY es),es.map (·.2),W1.gC,q1.all fun z=>z,hm _ _ _ p fun f d hp v H' sm hd=>z _ v H' d hp (s1.trans (.same W1.au sm)) (hd.av fun a q=>?_)⟩
  cases f with
  |false=>rw[Bool.false_or] at q;exact .inl q
  |true=>exact .inr ⟨rfl,W1.gC a q⟩
theorem Step.rM{b l:Addr}{H H':Hp}(hB:G.B=some (b,l))(bt:aW (Nb b) H H')(B':bR H' b l):Step G.B H H':=
 ⟨fun a o n e=>bt a o (n b l hB) e,fun b' l' e=>by rw[hB] at e;cases e;exact B'⟩
theorem Wd.qi{nb:Addr->Prop}{σ:St}{H:Hp}(W:Wd G nb ρ σ H)(e:ρ[i]?=some .au):∃b l,G.B=some (b,l)/\σ[i]?=some (some (.ref b))/\bR H b l:=by
 obtain⟨x,e1,b,l,hB,rfl⟩:=W.ok i _ e
 exact⟨b,l,hB,e1,W.au b l hB⟩
theorem Ev.ju{n:Nat}{F:DF}(hm:cF F)(e:ρ[i]?=some .au)(h:Av G ρ t fun es=>es.length+1=n/\F (es.map (·.2)) fun f d=>Φ (f||gY es) d):Ev G ρ (fW (er n F) [] E0 (ck (dM i) t)) Φ:=fun nb σ H Q W z=>by
 obtain⟨b,l,hB,e1,B⟩:=W.qi e
 refine⟨.ref b,e1,h nb σ H _ W fun es vs H1 ⟨hl,p⟩ s1 q1=>?_⟩
 have W1:=W.step s1
 show er n F ((V.ref b::vs)++[]) H1 Q E0
 rw[List.append_nil]
 have hb:∀f,G.S nb f b:=fun f=> .inr (.inr (.inl fun n=>n b l hB rfl))
 refine⟨by rw[List.length_cons,q1.len,hl],b,l,vs,G.S nb (gY es),es.map (·.2),rfl,W1.au b l hB,W1.gC,hb _,q1.all fun z=>z,hm _ _ _ p fun f d hp v H' bt B' hd=>z _ v H' d hp (s1.trans (.rM hB bt B')) (hd.av fun a q=>?_)⟩
 cases f with
 |false=>rw[Bool.false_or] at q;exact .inl q
 |true=>exact .inr ⟨rfl,W1.gC a q⟩
theorem Ev.draw(e:ρ[i]?=some .au)(h:Ev G ρ te fun _ x=>∃m:Int,x= .int m/\0<m/\Sm m/\∀r:Int,0<=r->r<m->Φ true (.int r)):Ev G ρ (fW g6 [] E0 (ck (dM i) (ck te cT))) Φ:=fun nb σ H Q W z=>by
 obtain⟨b,l,hB,e1,B⟩:=W.qi e
 refine⟨.ref b,e1,h nb σ H _ W fun f v H1 d ⟨m,ed,h1,h2,p⟩ s1 hv=>?_⟩
 subst ed
 exact⟨b,l,m,by rw[hv.bP];rfl,s1.2 b l hB,h1,h2,fun r H' r1 r2 bt B'=>z true _ H' _ (p r r1 r2) (s1.trans (.rM hB bt B')) (.int r)⟩
theorem Ev.prime(e:ρ[i]?=some .au)(h:∀p:Int,Dy p->Φ true (.int p)):Ev G ρ (fW GA [] E0 (ck (dM i) cT)) Φ:=fun nb σ H Q W z=>by
 obtain⟨b,l,hB,e1,B⟩:=W.qi e
 exact⟨.ref b,e1,b,l,rfl,B,fun p H' hp bt B'=>z true _ H' _ (h p hp) (.rM hB bt B') (.int p)⟩
theorem Ev.total(h:Av G ρ t fun es=>∃(p:Int) (prs:List (Int×Int)) (wd:List (Option Int)),es.map (·.2)=[.int p, .list (prs.map pairD), .list (wd.map bw)]/\0<p/\(∀pr∈prs,0<=pr.1/\pr.1<wd.length/\Sm pr.2)/\(∀x,some x∈wd->Sm x)/\Φ true (.int (aV prs wd%p))):
  Ev G ρ (fW tX [] E0 t) Φ:=fun nb σ H Q W z=>
 h nb σ H _ W fun es vs H1 ⟨p,prs,wd,e,h1,h2,h3,q⟩ s1 q1=>by
  have hd:=q1.all (f:=false) (fun z=>by cases z)
  rw[e] at hd
  unfold ai at hd
  obtain⟨y,ys,rfl,d1,hd⟩:=hd
  unfold ai at hd
  obtain⟨y2,ys,rfl,d2,hd⟩:=hd
  unfold ai at hd
  obtain⟨y3,ys,rfl,d3,hd⟩:=hd
  unfold ai at hd
  subst hd
  exact⟨G.S nb false,p,y2,y3,prs,wd,by rw[d1.bP];rfl,d2,d3,h1,h2,h3,z true _ H1 _ q s1 (.int _)⟩
theorem Ev.whole(h:Ev G ρ te fun _ x=>∃n,x= .int n/\Φ true (.bool true)):Ev G ρ (fW ux [] E0 (ck te cT)) Φ:=fun nb σ H Q W z=>
 h nb σ H _ W fun f v H1 d ⟨n,e,q⟩ s1 hv=>by subst e;exact⟨n,by rw[hv.bP];rfl,z true _ H1 _ q s1 (.bl _)⟩
namespace Gv
variable{Θ:Rh->Prop}
theorem name(h:Θ (ρ.set i (.d f d))):Gv G ρ (dN i) f d Θ:=fun nb σ H v Q W hv z=>z _ _ h (W.jq hv)
theorem Io(h:Θ (ρ.set i (.d true d))):Gv G ρ (dN i) true d Θ:=name h
theorem Mb(h:Θ (ρ.set i (.d false d))):Gv G ρ (dN i) f d Θ:=fun nb σ H v Q W hv z=>z _ _ h (W.jq (hv.av (cE (fun z=>by cases z) fun _ z=>z)))
theorem wN(hs:gp d=true)(h:Θ (ρ.set i (.d true d))):Gv G ρ (dN i) f d Θ:=fun nb σ H v Q W hv z=>z _ _ h (W.jq (hv.gu hs))
theorem j9{n:Int}(h:Θ (ρ.set i (.d true (.int n)))):Gv G ρ (dN i) f (.int n) Θ:=wN rfl h
theorem S6{n:Bool}(h:Θ (ρ.set i (.d true (.bool n)))):Gv G ρ (dN i) f (.bool n) Θ:=wN rfl h
theorem OW(h:Θ (ρ.set i (.d true .none))):Gv G ρ (dN i) f .none Θ:=wN rfl h
theorem tup{n:Nat}{u:fY}(hl:ds.length=n)(h:jK G ρ u f ds Θ):Gv G ρ (oR K n u) f (.tuple ds) Θ:=fun nb σ H v Q W hv z=>by
 obtain⟨a,xs,rfl,m,hx,hd⟩:=hv.ofT
 exact⟨a,xs,rfl, .of hx,by rw[hd.length];exact hl,h nb σ H xs Q W hd z⟩
theorem QD(h:Θ ρ):jK G ρ rJ f [] Θ:=fun nb σ H vs Q W hv z=>by unfold ai at hv;exact⟨hv,z _ _ h W⟩
theorem Ia{u:TG}{us:fY}(h:Gv G ρ u f d fun eX=>jK G eX us f ds Θ):jK G ρ (mG u us) f (d::ds) Θ:=fun nb σ H vs Q W hv z=>by
 unfold ai at hv
 obtain⟨y,ys,rfl,h1,h2⟩:=hv
 exact⟨y,ys,rfl,h nb σ H y _ W h1 fun σ' ρ' q W'=>q nb σ' H ys Q W' h2 z⟩
end Gv
namespace Sv
variable{E:DE}{s u:TS}
theorem seq(h:Sv G ρ s {E with nx:=fun eX=>Sv G eX u E}):Sv G ρ (ji s u) E:=fun nb σ H D W K=>h nb σ H _ W ⟨fun bE ρ' σ' H' q W'=>q bE σ' H' D W' K,K.bk,K.ct,K.rt,K.rw⟩
theorem next(h:E.nx ρ):Sv G ρ wj E:=fun nb σ H D W K=>K.nx nb ρ σ H h W
theorem brk(h:E.bk ρ):Sv G ρ QG E:=fun nb σ H D W K=>K.bk nb ρ σ H h W
theorem cont(h:E.ct ρ):Sv G ρ VB E:=fun nb σ H D W K=>K.ct nb ρ σ H h W
theorem asg{g:TG}(h:Ev G ρ te fun f d=>Gv G ρ g f d E.nx):Sv G ρ (eE te g) E:=fun nb σ H D W K=>h nb σ H _ W fun f v H1 d q s1 hv=>q nb σ H1 v _ (W.step s1) hv fun σ' ρ' p W'=>K.nx nb ρ' σ' H1 p W'
theorem Nj(h:Ev G ρ te fun _ d=>E.nx (ρ.set i (.d false d))):Sv G ρ (qL i te) E:=fun nb σ H D W K=>h nb σ H _ W fun f v H1 d q s1 hv=>K.nx nb _ _ H1 q ((W.step s1).jq (hv.av (cE (fun z=>by cases z) fun _ z=>z)))
theorem drop(h:Ev G ρ te fun _ _=>E.nx ρ):Sv G ρ (pF te) E:=fun nb σ H D W K=>h nb σ H _ W fun f v H1 d q s1 hv=>K.nx nb ρ σ H1 q (W.step s1)
theorem ret(h:Ev G ρ te E.rt):Sv G ρ (zV te) E:=fun nb σ H D W K=>h nb σ H _ W fun f v H1 d q s1 hv=>K.rt nb ρ σ f v H1 d q (W.step s1) (hv.av (cE (fun z=>z) fun _ z=>z.elim))
theorem Ae{c:TT}(h:Tv G ρ c fun b=>if b=true then Sv G ρ s E else Sv G ρ u E):Sv G ρ (zP c s u) E:=fun nb σ H D W K=>h nb σ H _ W fun b H1 q s1=>by
 cases b with
 |true=>rw[if_pos rfl] at q⊢;exact q nb σ H1 D (W.step s1) K
 |false=>rw[if_neg Bool.false_ne_true] at q⊢;exact q nb σ H1 D (W.step s1) K
theorem qt{nb:Addr->Prop}{σ:St}{H H1:Hp}{a:Addr}{xs:List V}(W:Wd G nb ρ σ H)(s1:Step G.B H H1)(ha:H a=none)(e:H1 a=some (.lst xs))(hd:ai (fun x=>G.S nb f x\/x=a) H1 ds xs):
    Wd G (fun x=>nb x\/x=a) (ρ.set i (.own a f ds)) (σ.set i (some (.ref a))) H1:=by
  have hN:NB G.B a:=fun b l e z=>by
    subst z
    obtain⟨_,_,_,_,_,h1,_⟩:=W.au _ _ e
    rw[h1] at ha;cases ha
  have hA:∀f x,G.S (fun x=>nb x\/x=a) f x->(G.S nb f x\/x=a):=fun f x z=>by
    rcases z with (z|z)|z|z|z
    · exact .inl (.inl z)
    · exact .inr z
    · exact .inl (.inr (.inl z))
    · exact .inl (.inr (.inr (.inl z)))
    · exact .inl (.inr (.inr (.inr z)))
  have W1:=W.step s1
  have W2:Wd G (fun x=>nb x\/x=a) ρ σ H1:=by
    refine⟨W1.au,fun x n=>?_,W1.old,fun x n q=>?_,W.gA,W.len,W.gB,fun h m=>(((W.cL h m).fresh ha).keep (s1.but fun x z=> .inl (.inr (.inr (.inl z))))).av (hA h.1),fun j s e'=>?_,W.apart,W.dI,W.cY⟩
    · rcases n with n|n
      · exact W1.live x n
      · subst n;rw[e];exact Option.some_ne_none _
    · rcases n with n|n
      · exact W.cZ x n q
      · subst n
        cases z:G.H0 x with
        |none=>rfl
        |some o=>rw[W.old x o q z] at ha;cases ha
    · obtain⟨x,e1,h⟩:=W.ok j s e'
      refine⟨x,e1,?_⟩
      cases s with
      |no=>trivial
      |d f d=>obtain⟨v,e,h⟩:=h;exact⟨v,e,((h.fresh ha).keep (s1.but fun x z=> .inl (.inr (.inr (.inl z))))).av (hA f)⟩
      |own c f es=>obtain⟨e,n,q,xs,hx,hd⟩:=h;exact⟨e, .inl n,q,xs,s1.1 _ _ q hx,((hd.fresh ha).keep (s1.but fun x z=> .inl (.inr (.inr (.inl z))))).av (hA f)⟩
      |au=>exact h
      |raw v=>exact h
      |bU c f es=>obtain⟨e,n,q,xs,hx,hd⟩:=h;exact⟨e, .inl n,q,xs,s1.1 _ _ q hx,((hd.fresh ha).keep (s1.but fun x z=> .inl (.inr (.inr (.inl z))))).av (hA f)⟩
      | cu c =>
        obtain⟨e,n,q⟩:=h
        refine⟨e,fun a ha=>⟨.inl (n a ha).1,(n a ha).2⟩,c.av (hA c.f) (c.keep (.of fun x o hx e=>s1.1 x o ?_ e) (c.fresh ha q))⟩
        rcases hx with hx|hx
        · exact Classical.byContradiction fun z=>hx (.inl (.inr (.inr (.inl z))))
        · exact(n x hx).2
  refine W2.set ⟨rfl, .inr rfl,hN,xs,e,hd.av (hA f)⟩ ?_ (fun _ _ _ z=>by cases z) (fun x hx j t hj ht hc=>?_)
  rotate_left
  · have hx:x=a:=List.mem_singleton.mp hx
    subst hx
    rcases hc with ⟨c,z⟩|⟨c,rfl⟩
    · cases z
    · exact fun z=>W.live x ((W.ok j _ ht).choose_spec.2.2.1 x z).1 ha
  rintro a' f' ds' ⟨rfl,rfl,rfl⟩ j c g cs hj hc z
  subst z
  obtain⟨x,e1,h1,h2,h3,ys,hy,_⟩:=W.ok j _ hc
  rw[hy] at ha;cases ha
theorem oK(h:aC G ρ te fun f ds=>∀a,E.nx (ρ.set i (.own a f ds))):Sv G ρ (eE te (dN i)) E:=fun nb σ H D W K=>h nb σ H _ W fun f a xs H1 ds q s1 ha e hd=>K.nx _ _ _ H1 (q a) (qt W s1 ha e hd)
theorem AS(h:aC G ρ te fun f ds=>∀a,E.nx (ρ.set i (.own a f ds))):Sv G ρ (qL i te) E:=fun nb σ H D W K=>h nb σ H _ W fun f a xs H1 ds q s1 ha e hd=>K.nx _ _ _ H1 (q a) (qt W s1 ha e hd)
theorem p5{nb:Addr->Prop}{σ:St}{H:Hp}{a:Addr}{xs:List V}(W:Wd G nb ρ σ H)(e:ρ[i]?=some (.own a f ds))(hd:ai (G.S nb g) H es xs):Wd G nb (ρ.set i (.own a g es)) σ (upd H a (.lst xs)):=by
  obtain⟨x,e1,h1,h2,h3,ys,hy,_⟩:=W.ok i _ e
  subst h1
  have hil:i<ρ.length:=(List.getElem?_eq_some_iff.mp e).1
  have W0:Wd G nb (ρ.set i .no) (σ.set i (some (.ref a))) H:=W.set trivial fun _ _ _ z=>by cases z
  have W1:Wd G nb (ρ.set i .no) (σ.set i (some (.ref a))) (upd H a (.lst xs)):=W0.write h2 h3 (fun j c f' cs hc=>by
    by_cases hij:i=j
    · subst hij;rw[List.getElem?_set_self hil] at hc;cases hc
    · rw[List.getElem?_set_ne hij] at hc
      exact(W.apart i j _ _ _ _ _ _ hij e hc).symm
   ) (fun j c f' cs hc z => by
      subst z
      have hij:i≠j:=fun z=>by subst z;rw[List.getElem?_set_self hil] at hc;cases hc
      rw[List.getElem?_set_ne hij] at hc
      obtain⟨_,_,_,_,_,ps,hp,_⟩:=W.ok j _ hc
      rw[hy] at hp;cases hp) (fun j c hc z=>by
      have hij:i≠j:=fun z=>by subst z;rw[List.getElem?_set_self hil] at hc;cases hc
      rw[List.getElem?_set_ne hij] at hc
      exact W.cY j i c _ (Ne.symm hij) hc e a z (List.mem_singleton.mpr rfl))
  have W2:=W1.set (i:=i) (s:= .own a g es) (x:=some (.ref a)) ⟨rfl,h2,h3,xs,bq,hd.keep (aW.set (.inl h2))⟩ (by
    rintro a' f' ds' ⟨rfl,rfl,rfl⟩ j c g' cs hj hc
    rw[List.getElem?_set_ne (Ne.symm hj)] at hc
    exact W.apart i j _ _ _ _ _ _ (Ne.symm hj) e hc) (fun _ _ _ z=>by cases z) (fun x hx j t hj ht hc z=>by
    rw[List.getElem?_set_ne (Ne.symm hj)] at ht
    have hx:x=a:=List.mem_singleton.mp hx
    subst hx
    rcases hc with ⟨c,q⟩|⟨c,rfl⟩
    · cases q
    · exact W.cY j i c _ hj ht e x z (List.mem_singleton.mpr rfl))
  rw[List.set_set,List.set_set] at W2
  have:σ.set i (some (.ref a))=σ:=by
    apply List.ext_getElem?
    intro j
    by_cases hij:i=j
    · subst hij;rw[List.getElem?_set_self (by rw[W.len];exact hil),e1]
    · rw[List.getElem?_set_ne hij]
  rwa[this] at W2
theorem append{a:Addr}(e:ρ[i]?=some (.own a f ds))(h:Ev G ρ te fun g d=>ds.length<10000/\E.nx (ρ.set i (.own a (f && g) (ds++[d])))):Sv G ρ (pF (zJ K "list" Bp (dM i) (ck te cT))) E:=fun nb σ H D W KK=>by
 obtain⟨x,e1,h1,h2,h3,xs,hx,hd⟩:=W.ok i _ e
 subst h1
 refine⟨.ref a,e1, .inl ⟨rfl,_,aL.of hx⟩,h nb σ H _ W fun g v H1 d ⟨hl,q⟩ s1 hv=>?_⟩
 have W1:=W.step s1
 have P7:=s1.1 _ _ h3 hx
 refine⟨a,xs,v,rfl,rfl,P7,Nat.lt_of_lt_of_le (by rw[hd.length];exact hl) (by decide),KK.nx nb _ _ _ q (p5 W1 e ?_)⟩
 exact ai.snoc (hv.av (cE (fun z=>(Bool.and_eq_true _ _▸z).2) fun _ z=>z)) ((hd.keep s1.cU).av (cE (fun z=>(Bool.and_eq_true _ _▸z).1) fun _ z=>z))
theorem ai.set'{nb:Addr->Prop}{H:Hp}{x:V}(hd:af nb H d x):∀{ds:List PyData} {xs:List V} (j:Nat),ai nb H ds xs->ai nb H (ds.set j d) (xs.set j x)
 |[],_,j,h=>by unfold ai at h;subst h;exact .nil
 |e::ds,_,0,h=>by unfold ai at h;obtain⟨y,ys,rfl,h1,h2⟩:=h;exact .cons hd h2
 |e::ds,_,j+1,h=>by unfold ai at h;obtain⟨y,ys,rfl,h1,h2⟩:=h;exact .cons h1 (ai.set' hd j h2)
theorem lq{a:Addr}(e:ρ[i]?=some (.own a f ds))(h:Ev G ρ te fun g d=>Ev G ρ tb fun _ y=>∃k j,y= .int k/\cH ds.length k=some j/\E.nx (ρ.set i (.own a (f && g) (ds.set j d)))):Sv G ρ (eE te (kL (dM i) tb nv)) E:=fun nb σ H D W KK=>
 h nb σ H _ W fun g v H1 d q s1 hv=>by
  obtain⟨x,e1,h1,h2,h3,xs,hx,hd⟩:=(W.step s1).ok i _ e
  subst h1
  refine⟨.ref a,e1,q nb σ H1 _ (W.step s1) fun g' u H2 y ⟨k,j,ey,hj,p⟩ s2 hu=>?_⟩
  subst ey
  have W2:=(W.step s1).step s2
  refine⟨a,xs,k,j,rfl,hu.bP,s2.1 _ _ h3 hx,by rw[hd.length];exact hj,KK.nx nb _ _ _ p (p5 W2 e ?_)⟩
  exact ai.set' ((hv.keep s2.cU).av (cE (fun z=>(Bool.and_eq_true _ _▸z).2) fun _ z=>z)) j ((hd.keep s2.cU).av (cE (fun z=>(Bool.and_eq_true _ _▸z).1) fun _ z=>z))
theorem share{nb:Addr->Prop}{σ:St}{H:Hp}{a:Addr}(W:Wd G nb ρ σ H)(e:ρ[i]?=some (.own a f ds)):Wd G (fun x=>nb x/\x≠a) (ρ.set i (.d f (.list ds))) σ H:=by
  obtain⟨x,e1,h1,h2,h3,xs,hx,hd⟩:=W.ok i _ e
  subst h1
  have hil:i<ρ.length:=(List.getElem?_eq_some_iff.mp e).1
  have W0:Wd G nb (ρ.set i .no) (σ.set i (some (.ref a))) H:=W.set trivial fun _ _ _ z=>by cases z
  have W1:Wd G (fun x=>nb x/\x≠a) (ρ.set i .no) (σ.set i (some (.ref a))) H:=by
    refine⟨W0.au,fun x n=>W0.live x n.1,W0.old,fun x n=>W0.cZ x n.1,W0.gA,W0.len,W0.gB,fun h m=>(W0.cL h m).av (cE (fun z=>z) fun _ z=>z.1),fun j s e'=>?_,W0.apart,W0.dI,W0.cY⟩
    obtain⟨x,jA,h⟩:=W0.ok j s e'
    refine⟨x,jA,?_⟩
    have hij:s≠ .no->i≠j:=fun n z=>by subst z;rw[List.getElem?_set_self hil] at e';cases e';exact n rfl
    cases s with
    |no=>trivial
    |d f d=>obtain⟨v,e,h⟩:=h;exact⟨v,e,h.av (cE (fun z=>z) fun _ z=>z.1)⟩
    | own c f es =>
      obtain⟨e2,n,q,xs,hx,hd⟩:=h
      have hij:=hij (by intro z;cases z)
      rw[List.getElem?_set_ne hij] at e'
      exact⟨e2,⟨n,(W.apart i j _ _ _ _ _ _ hij e e').symm⟩,q,xs,hx,hd.av (cE (fun z=>z) fun _ z=>z.1)⟩
    |au=>exact h
    |raw v=>exact h
    | bU c f es =>
      obtain⟨e2,n,q,ps,hp,hd⟩:=h
      have hca:c≠a:=fun z=>by subst z;rw[hx] at hp;cases hp
      exact⟨e2,⟨n,hca⟩,q,ps,hp,hd.av (cE (fun z=>z) fun _ z=>z.1)⟩
    | cu c =>
      obtain⟨e2,n,q⟩:=h
      have hij:=hij (by intro z;cases z)
      rw[List.getElem?_set_ne hij] at e'
      exact⟨e2,fun x hx=>⟨⟨(n x hx).1,fun z=>W.cY j i c _ (Ne.symm hij) e' e x hx (by rw[z];exact List.mem_singleton.mpr rfl)⟩,(n x hx).2⟩,c.av (cE (fun z=>z) fun _ z=>z.1) q⟩
  have W2:=W1.jq (i:=i) (f:=f) (d:= .list ds) (v:= .ref a) (.lst (fun z=>by
    rcases z with z|z|z|z
    · exact z.2 rfl
    · exact W.gA a z (W.cZ a h2 h3)
    · exact z h3
    · exact z.2 (W.cZ a h2 h3)) hx (hd.av (cE (fun z=>z) fun _ z=>z.1)))
  rw[List.set_set,List.set_set] at W2
  have:σ.set i (some (.ref a))=σ:=by
    apply List.ext_getElem?
    intro j
    by_cases hij:i=j
    · subst hij;rw[List.getElem?_set_self (by rw[W.len];exact hil),e1]
    · rw[List.getElem?_set_ne hij]
  rwa[this] at W2
theorem jB{a:Addr}(i:Nat)(e:ρ[i]?=some (.own a f ds))(h:Sv G (ρ.set i (.d f (.list ds))) s E):Sv G ρ s E:=fun nb σ H D W K=>h _ σ H D (share W e) K
theorem wk{ρ':Rh}(w:Wk ρ' ρ)(h:Sv G ρ' s E):Sv G ρ s E:=fun nb σ H D W K=>h nb σ H D (W.wk w) K
end Sv
end
end L2
set_option maxRecDepth 100000
set_option maxHeartbeats 1000000
namespace L2
open PySem PySem.Spec PyProof.Rows
abbrev Gx.hd(G:Gx)(f:Bool)(d:PyData)(v:V):Gx:={G with hold:=(f, .d d,v)::G.hold}
section
variable{G:Gx}{ρ bM:Rh}{Φ Ψ:Pd}{ta tb te:TE}{t:TA}{i:Nat}{f g:Bool}{d e:PyData}{ds es:List PyData}{K:PySem.W.Frag}
theorem Wd.hd{nb:Addr->Prop}{σ:St}{H:Hp}{v:V}(W:Wd G nb ρ σ H)(h:af (G.S nb f) H d v):Wd (G.hd f d v) nb ρ σ H:=
 ⟨W.au,W.live,W.old,W.cZ,W.gA,W.len,W.gB,fun x m=>by
  rcases List.mem_cons.mp m with e|m
  ·subst e;exact h
  ·exact W.cL x m,fun i s e=>by
   obtain⟨x,e1,h⟩:=W.ok i s e
   refine⟨x,e1,?_⟩
   cases s<;>exact h,W.apart,W.dI,W.cY⟩
theorem Wd.eU{nb:Addr->Prop}{σ:St}{H:Hp}{v:V}(W:Wd (G.hd f d v) nb ρ σ H):Wd G nb ρ σ H/\af (G.S nb f) H d v:=
 ⟨⟨W.au,W.live,W.old,W.cZ,W.gA,W.len,W.gB,fun x m=>W.cL x (List.mem_cons_of_mem _ m),fun i s e=>by
   obtain⟨x,e1,h⟩:=W.ok i s e
   refine⟨x,e1,?_⟩
   cases s<;>exact h,W.apart,W.dI,W.cY⟩,W.cL _ (List.mem_cons_self ..)⟩
namespace Sv
variable{E:DE}{s:TS}{gt:TG}
def nh(G:Gx)(ρ:Rh)(n:Nat)(it:Nat->PyData->Prop)(fi:Bool)(gt:TG)(s:TS)(E:DE):Prop:=
 ∃I:Nat->Rh->Prop,I 0 ρ/\(∀i d ρ',it i d->I i ρ'->Gv G ρ' gt fi d fun eK=>Sv G eK s {nx:=I (i+1),rt:=E.rt,bk:=E.nx,ct:=I (i+1),rw:=E.rw})/\∀ρ',I n ρ'->E.nx ρ'
theorem Wq{lo:Int}{n:Nat}{nb:Addr->Prop}{σ:St}{H:Hp}{D:Ends}(W:Wd G nb ρ σ H)(KK:qN G E D)(h:nh G ρ n (fun i d=>i<n/\d= .int (lo+i)) true gt s E):
  ∃W:Nat->Nat->St->Hp->Prop,(∃m,W 0 m σ H)/\∀i m σ H,W i m σ H->
   ((gy lo n).stop i H/\D.nx σ H)\/((gy lo n).go i H/\∃N:St->Hp->Prop,(∀σ' H',N σ' H'->∃m',m'<m/\W (i+1) m' σ' H')/\∀x H',(gy lo n).jT i H x H'->gt x σ H' fun σ2 H2=>s {D with nx:=N,ct:=N,bk:=D.nx} σ2 H2):=by
 obtain⟨I,h0,ht,he⟩:=h
 refine uv (fun i σ H=>∃nb ρ',I i ρ'/\Wd G nb ρ' σ H) ⟨nb,ρ,h0,W⟩ ?_ ?_
 ·rintro i σ H hi ⟨nb,ρ',hI,W⟩
  refine ht i _ ρ' ⟨hi,rfl⟩ hI nb σ H _ _ W (.int _) fun σ2 eK q W2=>q nb σ2 H _ W2 ?_
  exact⟨fun nb ρ σ H q W=>⟨nb,ρ,q,W⟩,KK.nx,fun nb ρ σ H q W=>⟨nb,ρ,q,W⟩,KK.rt,KK.rw⟩
 ·rintro σ H ⟨nb,ρ',hI,W⟩
  exact KK.nx nb ρ' σ H (he ρ' hI) W
theorem wM(h:Ev G ρ te fun _ x=>∃n:Int,x= .int n/\ -(2^62)<=n/\n<2^62/\nh G ρ n.toNat (fun i d=>i<n.toNat/\d= .int (0+i)) true gt s E):Sv G ρ (mK (qa (ck te cT)) gt s) E:=fun nb σ H D W KK=>
 h nb σ H _ W fun f v H1 x ⟨n,ex,h1,h2,q⟩ s1 hv=>by
  subst ex
  rw[hv.bP]
  exact⟨n,rfl,h1,h2,Wq (W.step s1) KK q⟩
theorem forL(h:Ev G ρ te fun f x=>∃ds,x= .list ds/\∀v,nh (G.hd f (.list ds) v) ρ ds.length (fun i d=>ds[i]?=some d) f gt s E):Sv G ρ (mK (rL K te) gt s) E:=fun nb σ H D W KK=>
 h nb σ H _ W fun f v H1 x ⟨ds,ex,q⟩ s1 hv=>by
  subst ex
  obtain⟨I,h0,ht,he⟩:=q v
  have W1:=(W.step s1).hd hv
  obtain⟨a,xs,rfl,n,hx,hd⟩:=hv.cO
  have key:∀{nb ρ' σ H},Wd (G.hd f (.list ds) (.ref a)) nb ρ' σ H->∃xs,H a=some (.lst xs)/\ai (G.S nb f) H ds xs:=fun W=>by
   obtain⟨a',xs',e',_,h',d'⟩:=W.eU.2.cO
   cases e'
   exact⟨xs',h',d'⟩
  refine⟨a,rfl,⟨xs, .of hx⟩,?_⟩
  refine⟨fun i m σ H=>m=ds.length-i/\i<=ds.length/\∃nb ρ',I i ρ'/\Wd (G.hd f (.list ds) (.ref a)) nb ρ' σ H,⟨ds.length,by simp,Nat.zero_le _,nb,ρ,h0,W1⟩,?_⟩
  rintro i m σ H ⟨rfl,hi,nb,ρ',hI,W⟩
  obtain⟨ys,hy,hD⟩:=key W
  have hl:=hD.length
  by_cases hlt:i<ds.length
  ·refine .inr ⟨⟨ys,ys[i]'(by omega), .of hy,List.getElem?_eq_getElem _⟩,fun σ H=>∃nb ρ',I (i+1) ρ'/\Wd (G.hd f (.list ds) (.ref a)) nb ρ' σ H,fun σ' H' q=>⟨ds.length-(i+1),by omega,rfl,hlt,q⟩,fun x H' y=>?_⟩
   obtain⟨e,y⟩:=y
   subst e
   have hx:=y ys (.of hy)
   obtain⟨x',hx',dx⟩:=hD.get (List.getElem?_eq_getElem hlt)
   rw[hx] at hx';cases hx'
   refine ht i _ ρ' (List.getElem?_eq_getElem hlt) hI nb σ _ _ _ W dx fun σ2 eK q W2=>q nb σ2 _ _ W2 ?_
   exact⟨fun nb ρ σ H q W=>⟨nb,ρ,q,W⟩,fun nb ρ σ H q W=>KK.nx nb ρ σ H q W.eU.1,fun nb ρ σ H q W=>⟨nb,ρ,q,W⟩,fun nb ρ σ f v H d q W hv=>KK.rt nb ρ σ f v H d q W.eU.1 hv,fun nb ρ σ v H q W=>KK.rw nb ρ σ v H q W.eU.1⟩
  ·have e:i=ds.length:=by omega
   subst e
   exact .inl ⟨⟨ys, .of hy,by omega⟩,KK.nx nb ρ' σ H (he ρ' hI) W.eU.1⟩
theorem KS{c:TT}(I:Rh->Prop)(μ:Rh->Nat)(h0:I ρ)(h:∀ρ',I ρ'->Tv G ρ' c fun b=>if b=true then Sv G ρ' s {nx:=fun eK=>I eK/\μ eK<μ ρ',rt:=E.rt,bk:=E.nx,ct:=fun eK=>I eK/\μ eK<μ ρ',rw:=E.rw} else E.nx ρ'):Sv G ρ (yy c s) E:=fun nb σ H D W KK=>by
  refine⟨fun m σ H=>∃nb ρ',I ρ'/\Wd G nb ρ' σ H/\m=μ ρ',⟨_,nb,ρ,h0,W,rfl⟩,?_⟩
  rintro m σ H ⟨nb,ρ',hI,W,rfl⟩
  refine h ρ' hI nb σ H _ W fun b H1 q s1=>?_
  cases b with
  | true =>
    rw[if_pos rfl] at q⊢
    refine⟨fun σ' H'=>∃nb eK,(I eK/\μ eK<μ ρ')/\Wd G nb eK σ' H',fun σ' H' ⟨nb,eK,⟨q1,q2⟩,W2⟩=>⟨μ eK,q2,nb,eK,q1,W2,rfl⟩,q nb σ H1 _ (W.step s1) ?_⟩
    exact⟨fun nb ρ σ H q W=>⟨nb,ρ,q,W⟩,KK.nx,fun nb ρ σ H q W=>⟨nb,ρ,q,W⟩,KK.rt,KK.rw⟩
  |false=>rw[if_neg Bool.false_ne_true] at q⊢;exact KK.nx nb ρ' σ H1 q (W.step s1)
end Sv
def iW(mp:List (Option Nat))(ρ:Rh):Rh:=mp.map fun o=>match o with|none=> .no|some j=>match ρ[j]? with|some s=>s|none=> .no
theorem xC{mp:List (Option Nat)}(h:(mp.filterMap id).Nodup):∀{i j k:Nat},mp[i]?=some (some k)->mp[j]?=some (some k)->i=j:=by
  induction mp with
  |nil=>intro i j k e;simp at e
  | cons o r ih =>
    intro i j k e1 e2
    have hr:(r.filterMap id).Nodup:=by
      cases o with
      |none=>simpa using h
      |some x=>rw[List.filterMap_cons_some (by rfl)] at h;exact(List.nodup_cons.mp h).2
    have hn:∀{m:Nat},r[m]?=some (some k)->o≠some k:=fun{m} hm e=>by
      subst e
      rw[List.filterMap_cons_some (by rfl)] at h
      exact(List.nodup_cons.mp h).1 (List.mem_filterMap.mpr ⟨some k,List.mem_of_getElem? hm,rfl⟩)
    cases i with
    | zero =>
      cases j with
      |zero=>rfl
      |succ j=>simp at e1 e2;exact absurd e1 (hn e2)
    | succ i =>
      cases j with
      |zero=>simp at e1 e2;exact absurd e2 (hn e1)
      |succ j=>simp at e1 e2;rw[ih hr e1 e2]
theorem Wd.dZ{nb:Addr->Prop}{σ:St}{H:Hp}{mp:List (Option Nat)}(W:Wd G nb ρ σ H)(hm:(mp.filterMap id).Nodup):Wd G nb (iW mp ρ) (dZ mp σ) H:=by
  have hat:∀{i:Nat} {s:Sl},(iW mp ρ)[i]?=some s->s= .no\/∃k,mp[i]?=some (some k)/\ρ[k]?=some s:=fun{i s} e=>by
    unfold iW at e
    rw[List.getElem?_map] at e
    obtain⟨o,ho,e⟩:=Option.map_eq_some_iff.mp e
    cases o with
    |none=>exact .inl e.symm
    | some k =>
      cases hk:ρ[k]? with
      |none=>simp only[hk] at e;exact .inl e.symm
      |some s'=>simp only[hk] at e;subst e;exact .inr ⟨k,ho,hk⟩
  refine⟨W.au,W.live,W.old,W.cZ,W.gA,by unfold L2.dZ iW;rw[List.length_map,List.length_map],W.gB,W.cL,fun i s e=>?_,fun i j a f as c g cs hij e1 e2=>?_,fun i j a f as c g cs hij e1 e2=>?_,fun i j c t hij e1 e2 a ha=>?_⟩
  · have hi:i<mp.length:=by have:=(List.getElem?_eq_some_iff.mp e).1;unfold iW at this;rwa[List.length_map] at this
    rcases hat e with rfl|⟨k,hk,hs⟩
    · exact⟨_,by unfold L2.dZ;rw[List.getElem?_map,List.getElem?_eq_getElem hi];rfl,trivial⟩
    · obtain⟨x,e1,h⟩:=W.ok k s hs
      refine⟨x,?_,h⟩
      unfold L2.dZ
      rw[List.getElem?_map,hk]
      simp only[Option.map_some,e1]
  · rcases hat e1 with z|⟨k,hk,hs⟩
    · cases z
    rcases hat e2 with z|⟨k',hk',hs'⟩
    · cases z
    exact W.apart k k' a f as c g cs (fun z=>by subst z;exact hij (xC hm hk hk')) hs hs'
  · rcases hat e1 with z|⟨k,hk,hs⟩
    · cases z
    rcases hat e2 with z|⟨k',hk',hs'⟩
    · cases z
    exact W.dI k k' a f as c g cs (fun z=>by subst z;exact hij (xC hm hk hk')) hs hs'
  · rcases hat e1 with z|⟨k,hk,hs⟩
    · cases z
    rcases hat e2 with z|⟨k',hk',hs'⟩
    · subst z;exact fun z=>by cases z
    exact W.cY k k' c t (fun z=>by subst z;exact hij (xC hm hk hk')) hs hs' a ha
def BU(ρ:Rh)(acc:Addr):Prop:=(∀(j:Nat) a f ds,ρ[j]?=some (.own a f ds)->a≠acc)/\∀(j:Nat) c,ρ[j]?=some (.cu c)->acc∉c.F
def fF(G:Gx)(bM:Rh)(n:Nat)(it:Nat->PyData->Prop)(fi:Bool)(gt:TG)(tc:TT)(te:TE)(Θ:Bool->List PyData->Prop):Prop:=
 ∃(fl:Bool) (I:Nat->List PyData->Prop),I 0 []/\(∀i d ds,it i d->ds.length<=i->I i ds->Gv G bM gt fi d fun eX=>Wk bM eX/\Tv G eX tc fun b=>if b=true then Ev G eX te fun f e=>(fl=true->f=true)/\I (i+1) (ds++[e]) else I (i+1) ds)/\
  ∀ds,ds.length<=n->I n ds->Θ (fl||cN ds) ds
theorem sE{gt:TG}{tc:TT}{nb:Addr->Prop}{acc:Addr}{σ:St}{H H1:Hp}{x:V}{fi fl:Bool}{I:Nat->List PyData->Prop}{xs:List V}{N:St->Hp->Prop}{ds:List PyData}{n:Nat}(hn:n<=10000)(hi:i<n)
    (W:Wd G nb bM σ H) (ha:nb acc) (hN:NB G.B acc) (hno:BU bM acc) (st:Step G.B H1 H) (hacc:H1 acc=none) (hx:H acc=some (.lst xs)) (hd:ai (G.S nb fl) H ds xs) (hl:ds.length<=i) (hxd:af (G.S nb fi) H d x)
    (h:Gv G bM gt fi d fun eX=>Wk bM eX/\Tv G eX tc fun b=>if b=true then Ev G eX te fun f e=>(fl=true->f=true)/\I (i+1) (ds++[e]) else I (i+1) ds)
    (z:∀σ' H' ds' xs',Wd G nb bM σ' H'->Step G.B H1 H'->H' acc=some (.lst xs')->ai (G.S nb fl) H' ds' xs'->ds'.length<=i+1->I (i+1) ds'->N σ' H'):
    gt x σ H fun σ2 H2=>tc σ2 H2 fun b H3=>if b=true then te σ2 H3 fun v H4=>∃ys,H4 acc=some (.lst ys)/\ys.length<sizeLine/\N σ2 (upd H4 acc (.lst (ys++[v]))) else N σ2 H3:=by
  refine h nb σ H x _ W hxd fun σ2 eX ⟨wk,q⟩ W2=>q nb σ2 H _ W2 fun b H3 q3 s3=>?_
  have Bs:=s3.1 _ _ hN hx
  have Cd:=hd.keep (s3.cU (nb:=nb) (f:=fl))
  cases b with
  | false =>
    rw[if_neg Bool.false_ne_true] at q3⊢
    exact z σ2 H3 ds xs ((W2.step s3).wk wk) (st.trans s3) Bs Cd (by omega) q3
  | true =>
    rw[if_pos rfl] at q3⊢
    refine q3 nb σ2 H3 _ (W2.step s3) fun f v H4 e ⟨hf,hI⟩ s4 hv=>?_
    have CV:=s4.1 _ _ hN Bs
    have Qd:=Cd.keep (s4.cU (nb:=nb) (f:=fl))
    have hlen:=hd.length
    refine⟨xs,CV,Nat.lt_of_lt_of_le (show xs.length<10001 by omega) (by decide),?_⟩
    have W4:Wd G nb bM σ2 H4:=((W2.step s3).step s4).wk wk
    have bt:aW (G.S nb fl) H4 (upd H4 acc (.lst (xs++[v]))):=aW.set (.inl ha)
    have W5:Wd G nb bM σ2 (upd H4 acc (.lst (xs++[v]))):=W4.write ha hN hno.1 (fun j a f ds e z=>by
      subst z
      obtain⟨_,_,_,_,_,ps,hp,_⟩:=W4.ok j _ e
      rw[CV] at hp;cases hp) hno.2
    refine z σ2 _ (ds++[e]) (xs++[v]) W5 ⟨fun a o n q=>?_,W5.au⟩ bq (ai.snoc ((hv.av (cE hf fun _ z=>z)).keep bt) (Qd.keep bt)) (by rw[List.length_append,List.length_singleton];omega) hI
    have hne:a≠acc:=fun z=>by subst z;rw[hacc] at q;cases q
    rw[aF hne]
    exact(st.trans (s3.trans s4)).1 a o n q
theorem qK{nb:Addr->Prop}{σ:St}{H:Hp}{a:Addr}(W:Wd G nb ρ σ H)(ha:H a=none):BU ρ a:=by
 refine⟨fun j c f ds e z=>?_,fun j c e z=>?_⟩
 ·subst z
  obtain⟨x,e1,h1,h2,h3,ys,hy,_⟩:=W.ok j _ e
  rw[hy] at ha;cases ha
 ·obtain⟨x,e1,h1,h2,h3⟩:=W.ok j _ e
  exact W.live a (h2 a z).1 ha
theorem UR{nb:Addr->Prop}{a:Addr}{f:Bool}:∀x,(G.S nb f x\/x=a)->G.S (fun x=>nb x\/x=a) f x:=fun x z=>by
 rcases z with (z|z|z|z)|z
 ·exact .inl (.inl z)
 ·exact .inr (.inl z)
 ·exact .inr (.inr (.inl z))
 ·exact .inr (.inr (.inr z))
 ·exact .inl (.inr z)
theorem rA{nb:Addr->Prop}{acc:Addr}{H H1 H':Hp}{σ:St}{Q:VK}{Θ:Bool->List PyData->Prop}{xs:List V}{ds:List PyData}{fl:Bool}(W:Wd G nb ρ σ H)(s1:Step G.B H H1)(hacc:H1 acc=none)(s2:Step G.B H1 H')(hx:H' acc=some (.lst xs))(hd:ai (G.S (fun x=>nb x\/x=acc) fl) H' ds xs)(p:Θ (fl||cN ds) ds)
  (z:∀f a xs H' ds,Θ f ds->Step G.B H H'->H a=none->H' a=some (.lst xs)->ai (fun x=>G.S nb f x\/x=a) H' ds xs->Q (.ref a) H'):Q (.ref acc) H':=by
 refine z _ acc xs H' ds p (s1.trans s2) (W.none_of s1 hacc) hx ?_
 cases hs:cN ds with
 |true=>exact ai.gu hs hd
 |false=>rw[Bool.or_false];exact hd.av UR
theorem NB.new{B:Bg}{H:Hp}{a:Addr}(h:ir B H)(ha:H a=none):NB B a:=Classical.byContradiction fun z=>NB.kg h z ha
namespace aC
variable{Θ:Bool->List PyData->Prop}{gt:TG}{tc:TT}{mp:List (Option Nat)}
theorem GZ{lo:Int}{n:Nat}{nb:Addr->Prop}{σ:St}{H H1:Hp}{Q:VK}(W:Wd G nb ρ σ H)(s1:Step G.B H H1)(hm:(mp.filterMap id).Nodup)(dz:iW mp ρ=bM)(hn:n<=10000)(h:fF G bM n (fun i d=>i<n/\d= .int (lo+i)) true gt tc te Θ)
  (z:∀f a xs H' ds,Θ f ds->Step G.B H H'->H a=none->H' a=some (.lst xs)->ai (fun x=>G.S nb f x\/x=a) H' ds xs->Q (.ref a) H') (acc:Addr) (hacc:H1 acc=none):kN (gy lo n) gt tc te acc (fun H'=>Q (.ref acc) H') (dZ mp σ) (upd H1 acc (.lst [])):=by
 obtain⟨fl,I,h0,ht,he⟩:=h
 have W0:Wd G nb bM (L2.dZ mp σ) H1:=by rw[<-dz];exact(W.step s1).dZ hm
 have W1:=W0.more hacc (o:= .lst [])
 have hN:=NB.new s1.2 hacc
 have hno:=qK W0 hacc
 have iS:Step G.B H1 (upd H1 acc (.lst [])):= .same s1.2 (cV hacc)
 refine R.DW (fun i σ H=>∃ds xs,Wd G (fun x=>nb x\/x=acc) bM σ H/\Step G.B H1 H/\H acc=some (.lst xs)/\ai (G.S (fun x=>nb x\/x=acc) fl) H ds xs/\ds.length<=i/\I i ds) ⟨[],[],W1,iS,bq, .nil,Nat.le_refl _,h0⟩ ?_ ?_
 ·rintro i σ H hi ⟨ds,xs,W,st,hx,hd,hl,hI⟩
  exact sE hn hi W (.inr rfl) hN hno st hacc hx hd hl (.int _) (ht i _ ds ⟨hi,rfl⟩ hl hI) fun σ' H' ds' xs' W' st' hx' hd' hl' hI'=>⟨ds',xs',W',st',hx',hd',hl',hI'⟩
 ·rintro σ H' ⟨ds,xs,W',st,hx,hd,hl,hI⟩
  exact rA W s1 hacc st hx hd (he ds hl hI) z
theorem ia{t0:TE}(hm:(mp.filterMap id).Nodup)(dz:iW mp ρ=bM)(h:Ev G ρ t0 fun _ x=>∃n:Int,x= .int n/\ -10000<=n/\n<=10000/\fF G bM n.toNat (fun i d=>i<n.toNat/\d= .int (0+i)) true gt tc te Θ):aC G ρ (jN (qa (ck t0 cT)) gt tc te mp) Θ:=fun nb σ H Q W z=>
 h nb σ H _ W fun f v H1 x ⟨n,ex,h1,h2,q⟩ s1 hv=>by
  subst ex
  rw[hv.bP]
  exact⟨n,rfl,by omega,by omega,GZ W s1 hm dz (by omega) q z⟩
theorem iE{t0:TE}(hm:(mp.filterMap id).Nodup)(dz:iW mp ρ=bM)(h:Ev G ρ t0 fun fi x=>∃es,x= .list es/\es.length<=10000/\∀v,fF (G.hd fi (.list es) v) bM es.length (fun i d=>es[i]?=some d) fi gt tc te Θ):aC G ρ (jN (rL K t0) gt tc te mp) Θ:=fun nb σ H Q W z=>
 h nb σ H _ W fun fi v H1 x ⟨es,ex,hn,q⟩ s1 hv=>by
  subst ex
  obtain⟨fl,I,h0,ht,he⟩:=q v
  have W0:=(W.step s1).hd hv
  obtain⟨a,xs,rfl,n,hx,hd⟩:=hv.cO
  refine⟨a,rfl,⟨xs, .of hx⟩,fun acc hacc=>?_⟩
  have jO:Wd (G.hd fi (.list es) (.ref a)) nb bM (L2.dZ mp σ) H1:=by rw[<-dz];exact W0.dZ hm
  have W1:=jO.more hacc (o:= .lst [])
  have hN:=NB.new s1.2 hacc
  have hno:=qK jO hacc
  have iS:Step G.B H1 (upd H1 acc (.lst [])):= .same s1.2 (cV hacc)
  have jG:NB G.B a:=Classical.byContradiction fun z=>n (.inr (.inr (.inl z)))
  refine R.BN (xs:=xs) (fun i σ H=>∃ds ys,Wd (G.hd fi (.list es) (.ref a)) (fun x=>nb x\/x=acc) bM σ H/\Step G.B H1 H/\H acc=some (.lst ys)/\ai (G.S (fun x=>nb x\/x=acc) fl) H ds ys/\ds.length<=i/\I i ds) ⟨[],[],W1,iS,bq, .nil,Nat.le_refl _,h0⟩ ?_ ?_ ?_
  ·rintro i σ H hi ⟨ds,ys,W,st,_⟩
   exact .of (st.1 _ _ jG hx)
  ·rintro i x σ H hi ⟨ds,ys,W,st,hy,hd',hl,hI⟩
   obtain⟨a',xs',e',_,h',d'⟩:=W.eU.2.cO
   cases e'
   rw[st.1 _ _ jG hx] at h';cases h'
   have hil:i<es.length:=by have:=(List.getElem?_eq_some_iff.mp hi).1;have:=d'.length;omega
   obtain⟨x',hx',dx⟩:=d'.get (List.getElem?_eq_getElem hil)
   rw[hi] at hx';cases hx'
   exact sE (G:=G.hd fi (.list es) (.ref a)) hn hil W (.inr rfl) hN hno st hacc hy hd' hl dx (ht i _ ds (List.getElem?_eq_getElem hil) hl hI) fun σ' H' ds' xs' W' st' hx' hd' hl' hI'=>⟨ds',xs',W',st',hx',hd',hl',hI'⟩
  ·rintro σ H' ⟨ds,ys,W',st,hy,hd',hl,hI⟩
   rw[hd.length] at hl hI
   exact rA W s1 hacc st hy hd' (he ds hl hI) z
end aC
end
end L2
set_option maxRecDepth 100000
set_option maxHeartbeats 1000000
namespace L2
open PySem PySem.Spec PyProof.Rows
section
variable{ρ:Rh}{t:TS}{N:List Str}{vs:List V}{ds:List PyData}{nb:Addr->Prop}{H:Hp}{Q:VK}{Φ:Pd}{b l:Addr}
theorem jD{xs:List V}(h:ai nb H ds xs){i:Nat}{s:Sl}(e:(ds.map (Sl.d false))[i]?=some s):∃v d,xs[i]?=some v/\s= .d false d/\af nb H d v:=by
 rw[List.getElem?_map] at e
 obtain⟨d,hd,e⟩:=Option.map_eq_some_iff.mp e
 obtain⟨v,hv,q⟩:=h.get hd
 exact⟨v,d,hv,e.symm,q⟩
theorem Sv.dY(hl:jn nb H)(hd:ai nb H ds vs)(aG:∀f d v H',Φ f d->bf H H'->af (fun a=>nb a\/(f=true/\H a≠none)) H' d v->Q v H')
  (dz:ρ=ds.map (Sl.d false)++List.replicate (N.length-ds.length) .no) (h:Sv ⟨none,H,nb,[]⟩ ρ t {nx:=fun _=>Φ true .none,rt:=Φ}):t {nx:=fun _ H'=>Q .aN H',rt:=Q} (start N vs) H:=by
 have hlen:=hd.length
 have sm:∀{bE ρ' σ' H'},Wd ⟨none,H,nb,[]⟩ bE ρ' σ' H'->bf H H':=fun W a o e=>W.old a o (fun _ _ z=>(by cases z)) e
 refine h (fun _=>False) _ H _ ⟨fun _ _ z=>(by cases z),fun _ z=>z.elim,fun _ _ _ e=>e,fun _ z=>z.elim,hl,?_,fun _ _ z=>(by cases z),fun _ m=>(by cases m),fun i s e=>?_,?_,?_,?_⟩ ⟨fun bE ρ' σ' H' q W=>aG _ _ _ _ q (sm W) .aN,fun _ _ _ _ q _=>q.elim,fun _ _ _ _ q _=>q.elim,fun bE ρ' σ' f v H' d q W hv=>aG f d v H' q (sm W) (hv.av fun a z=>?_),fun _ _ _ _ _ q _=>q.elim⟩
 ·rw[dz];unfold start;simp[hlen]
 ·rw[dz] at e
  unfold start
  by_cases hi:i<ds.length
  ·rw[List.getElem?_append_left (by rw[List.length_map];exact hi)] at e
   obtain⟨v,d,hv,rfl,q⟩:=jD hd e
   refine⟨some v,?_,v,rfl,q.av fun a z=>?_⟩
   ·rw[List.getElem?_append_left (by rw[List.length_map,hlen];exact hi),List.getElem?_map,hv];rfl
   ·rcases z with z|z|z|z
    ·exact z.elim
    ·exact z
    ·exact absurd (fun _ _ z=>(by cases z)) z
    ·cases z.1
  ·rw[List.getElem?_append_right (by rw[List.length_map];omega),List.getElem?_replicate] at e
   split at e
   ·rename_i h'
    cases e
    refine⟨none,?_,trivial⟩
    rw[List.length_map] at h'
    rw[List.getElem?_append_right (by rw[List.length_map];omega),List.getElem?_replicate,if_pos (by rw[List.length_map,hlen];exact h')]
   ·cases e
 ·intro i j a f as c g cs hij e1
  rw[dz] at e1
  by_cases hi:i<ds.length
  ·rw[List.getElem?_append_left (by rw[List.length_map];exact hi)] at e1
   obtain⟨_,_,_,z,_⟩:=jD hd e1
   cases z
  ·rw[List.getElem?_append_right (by rw[List.length_map];omega),List.getElem?_replicate] at e1
   split at e1<;>cases e1
 ·intro i j a f as c g cs hij e1
  rw[dz] at e1
  by_cases hi:i<ds.length
  ·rw[List.getElem?_append_left (by rw[List.length_map];exact hi)] at e1
   obtain⟨_,_,_,z,_⟩:=jD hd e1
   cases z
  ·rw[List.getElem?_append_right (by rw[List.length_map];omega),List.getElem?_replicate] at e1
   split at e1<;>cases e1
 ·intro i j c t hij e1
  rw[dz] at e1
  by_cases hi:i<ds.length
  ·rw[List.getElem?_append_left (by rw[List.length_map];exact hi)] at e1
   obtain⟨_,_,_,z,_⟩:=jD hd e1
   cases z
  ·rw[List.getElem?_append_right (by rw[List.length_map];omega),List.getElem?_replicate] at e1
   split at e1<;>cases e1
 ·rcases z with z|z
  ·exact .inr (.inl z)
  ·exact .inr (.inr (.inr z))
theorem Sv.j7(hB:bR H b l)(hl:jn nb H)(hb:nb b)(hd:ai nb H ds vs)(aG:∀f d v H',Φ f d->aW (Nb b) H H'->bR H' b l->af (fun a=>nb a\/(f=true/\H a≠none)) H' d v->Q v H')
    (dz:ρ= .au::ds.map (Sl.d false)++List.replicate (N.length-(ds.length+1)) .no) (h:Sv ⟨some (b,l),H,nb,[]⟩ ρ t {nx:=fun _=>Φ true .none,rt:=Φ}):t {nx:=fun _ H'=>Q .aN H',rt:=Q} (start N (.ref b::vs)) H:=by
  have hlen:=hd.length
  have B5:∀a,a≠b->NB (some (b,l)) a:=fun a n b' l' e=>by cases e;exact n
  have N6:∀a,¬NB (some (b,l)) a->a=b:=fun a n=>Classical.byContradiction fun z=>n (B5 a z)
  have bt:∀{bE ρ' σ' H'},Wd ⟨some (b,l),H,nb,[]⟩ bE ρ' σ' H'->aW (Nb b) H H':=fun W a o n e=>W.old a o (B5 a n) e
  have bg:∀{bE ρ' σ' H'},Wd ⟨some (b,l),H,nb,[]⟩ bE ρ' σ' H'->bR H' b l:=fun W=>W.au b l rfl
  refine h (fun _=>False) _ H _ ⟨fun b' l' e=>(by cases e;exact hB),fun _ z=>z.elim,fun _ _ _ e=>e,fun _ z=>z.elim,hl,?_,fun b' l' e=>(by cases e;exact hB),fun _ m=>(by cases m),fun i s e=>?_,?_,?_,?_⟩ ⟨fun bE ρ' σ' H' q W=>aG _ _ _ _ q (bt W) (bg W) .aN,fun _ _ _ _ q _=>q.elim,fun _ _ _ _ q _=>q.elim,fun bE ρ' σ' f v H' d q W hv=>aG f d v H' q (bt W) (bg W) (hv.av fun a z=>?_),fun _ _ _ _ _ q _=>q.elim⟩
  · rw[dz];unfold start;simp[hlen]
  · rw[dz] at e
    unfold start
    cases i with
    |zero=>simp at e;subst e;exact⟨some (.ref b),by simp,b,l,rfl,rfl⟩
    | succ i =>
      simp only[List.cons_append,List.getElem?_cons_succ,List.map_cons,List.length_cons] at e⊢
      by_cases hi:i<ds.length
      · rw[List.getElem?_append_left (by rw[List.length_map];exact hi)] at e
        obtain⟨v,d,hv,rfl,q⟩:=jD hd e
        refine⟨some v,?_,v,rfl,q.av fun a z=>?_⟩
        · rw[List.getElem?_append_left (by rw[List.length_map,hlen];exact hi),List.getElem?_map,hv];rfl
        · rcases z with z|z|z|z
          · exact z.elim
          · exact z
          · rw[N6 a z];exact hb
          · cases z.1
      · rw[List.getElem?_append_right (by rw[List.length_map];omega),List.getElem?_replicate] at e
        split at e
        · rename_i h'
          cases e
          refine⟨none,?_,trivial⟩
          rw[List.length_map] at h'
          rw[List.getElem?_append_right (by rw[List.length_map];omega),List.getElem?_replicate,if_pos (by rw[List.length_map,hlen];exact h')]
        · cases e
  · intro i j a f as c g cs hij e1
    rw[dz] at e1
    cases i with
    |zero=>simp at e1
    | succ i =>
      simp only[List.cons_append,List.getElem?_cons_succ] at e1
      by_cases hi:i<ds.length
      · rw[List.getElem?_append_left (by rw[List.length_map];exact hi)] at e1
        obtain⟨_,_,_,z,_⟩:=jD hd e1
        cases z
      · rw[List.getElem?_append_right (by rw[List.length_map];omega),List.getElem?_replicate] at e1
        split at e1<;>cases e1
  · intro i j a f as c g cs hij e1
    rw[dz] at e1
    cases i with
    |zero=>simp at e1
    | succ i =>
      simp only[List.cons_append,List.getElem?_cons_succ] at e1
      by_cases hi:i<ds.length
      · rw[List.getElem?_append_left (by rw[List.length_map];exact hi)] at e1
        obtain⟨_,_,_,z,_⟩:=jD hd e1
        cases z
      · rw[List.getElem?_append_right (by rw[List.length_map];omega),List.getElem?_replicate] at e1
        split at e1<;>cases e1
  · intro i j c t hij e1
    rw[dz] at e1
    cases i with
    |zero=>simp at e1
    | succ i =>
      simp only[List.cons_append,List.getElem?_cons_succ] at e1
      by_cases hi:i<ds.length
      · rw[List.getElem?_append_left (by rw[List.length_map];exact hi)] at e1
        obtain⟨_,_,_,z,_⟩:=jD hd e1
        cases z
      · rw[List.getElem?_append_right (by rw[List.length_map];omega),List.getElem?_replicate] at e1
        split at e1<;>cases e1
  · rcases z with z|z
    · exact .inr (.inl z)
    · exact .inr (.inr (.inr z))
def zx(b l:Addr)(H:Hp):Gx:=⟨some (b,l),H,fun _=>False,[]⟩
theorem SW{a:Addr}{m:Nat}(hB:bR H b l):Wd (zx b l H) (fun _=>False) (.raw (.ref a):: .au::List.replicate m .no) (some (.ref a)::some (.ref b)::List.replicate m none) H:=by
  refine⟨fun b' l' e=>(by cases e;exact hB),fun _ z=>z.elim,fun _ _ _ e=>e,fun _ z=>z.elim,fun _ z=>z.elim,by simp,fun b' l' e=>(by cases e;exact hB),fun _ m=>(by cases m),fun i s e=>?_,?_,?_,?_⟩
  · match i with
    |0=>simp at e;subst e;exact⟨_,rfl,rfl⟩
    |1=>simp at e;subst e;exact⟨some (.ref b),rfl,b,l,rfl,rfl⟩
    | i + 2 =>
      simp only[List.getElem?_cons_succ,List.getElem?_replicate] at e⊢
      split at e
      · rename_i h;cases e;exact⟨none,if_pos h,trivial⟩
      · cases e
  · intro i j a f as c g cs hij e1
    match i with
    |0=>simp at e1
    |1=>simp at e1
    | i + 2 =>
      simp only[List.getElem?_cons_succ,List.getElem?_replicate] at e1
      split at e1<;>cases e1
  · intro i j a f as c g cs hij e1
    match i with
    |0=>simp at e1
    |1=>simp at e1
    | i + 2 =>
      simp only[List.getElem?_cons_succ,List.getElem?_replicate] at e1
      split at e1<;>cases e1
  · intro i j c t hij e1
    match i with
    |0=>simp at e1
    |1=>simp at e1
    | i + 2 =>
      simp only[List.getElem?_cons_succ,List.getElem?_replicate] at e1
      split at e1<;>cases e1
theorem Ev.Xa{G:Gx}{i:Nat}{a:Addr}{ns:List Int}{K:PySem.W.Frag}(e:ρ[i]?=some (.raw (.ref a)))(hS:aL K G.H0 a (ns.map V.int))(h:Φ true (.int ns.length)):Ev G ρ (gf (fk K) (ck (dM i) cT)) Φ:=fun nb σ H Q W z=>by
 obtain⟨x,e1,h1⟩:=W.ok i _ e
 have h1:x=some (.ref a):=h1
 subst h1
 have hS':aL K H a (ns.map V.int):=by
  rcases hS with hr|hk
  ·have hn:NB G.B a:=fun b l hb z=>by
    subst z
    obtain⟨_,_,_,_,_,g1,_⟩:=W.gB _ _ hb
    rcases hr with hr|⟨o,hr⟩
    ·rw[g1] at hr
     have:=HO.lst.inj (Option.some.inj hr)
     cases ns with
     |nil=>cases this
     |cons n r=>rw[List.map_cons] at this;cases (List.cons.inj this).1
    ·rw[g1] at hr;cases hr
   rcases hr with hr|⟨o,hr⟩
   ·exact .inl (.inl (W.old _ _ hn hr))
   ·exact .inl (.inr ⟨o,W.old _ _ hn hr⟩)
  ·exact .inr hk
 refine⟨.ref a,e1,a,_,rfl, .inl hS',?_⟩
 rw[List.length_map]
 exact z true _ H _ h (.refl W.au) (.int _)
theorem R5{D:Ends}(h2:∀H,D.rt (.bl true) H):qN (zx b l H) {nx:=fun _=>False,rt:=fun _ d=>d= .bool true} D:=
 ⟨fun _ _ _ _ q _=>q.elim,fun _ _ _ _ q _=>q.elim,fun _ _ _ _ q _=>q.elim,fun _ _ _ f v H d q _ hv=>by subst q;unfold af at hv;subst hv;exact h2 H,fun _ _ _ _ _ q _=>q.elim⟩
end
namespace R
theorem di{P:Int->Prop}{i:Int}(h:P i):∃j,PyData.int i= .int j/\P j:=⟨i,rfl,h⟩
theorem db{P:Bool->Prop}{i:Bool}(h:P i):∃j,PyData.bool i= .bool j/\P j:=⟨i,rfl,h⟩
theorem dl{P:List PyData->Prop}{i:List PyData}(h:P i):∃j,PyData.list i= .list j/\P j:=⟨i,rfl,h⟩
theorem dt{P:List PyData->Prop}{i:List PyData}(h:P i):∃j,PyData.tuple i= .tuple j/\P j:=⟨i,rfl,h⟩
theorem Ji{P:List PyData->Prop}{i:List PyData}(h:P i):∃j,(PyData.list i= .list j\/PyData.list i= .tuple j)/\P j:=⟨i, .inl rfl,h⟩
theorem VG{P:List PyData->Prop}{i:List PyData}(h:P i):∃j,(PyData.tuple i= .list j\/PyData.tuple i= .tuple j)/\P j:=⟨i, .inr rfl,h⟩
theorem Qp{P:Bool->Prop}{i j:Int}(h:P (decide (i=j))):∃b,fB (.int i) (.int j) b/\P b:=⟨_, .ii i j,h⟩
theorem Qs{P:Bool->Prop}{x y:Bool}(h:P (x==y)):∃b,fB (.bool x) (.bool y) b/\P b:=⟨_, .bb x y,h⟩
theorem at_{ds:List PyData}{k:Int}{e:PyData}{P:PyData->Prop}(h:aU ds k=some e)(q:P e):∃e,aU ds k=some e/\P e:=⟨e,h,q⟩
theorem MB{A:Prop}(q:A):([]:List Fd).length<=10000/\A:=⟨by decide,q⟩
theorem Rc{C A:Prop}(c:C)(q:A):C/\A:=⟨c,q⟩
end R
end L2
set_option maxRecDepth 100000
set_option maxHeartbeats 1000000
namespace L2
open PySem PySem.Spec PyProof.Rows
abbrev aH:=List (Int×Int)
abbrev Wo:=List (Option Int)
abbrev bH(prs:aH):PyData:= .list (prs.map pairD)
abbrev cX(wd:Wo):PyData:= .list (wd.map bw)
abbrev bz(p n:Int)(cs:List aH):PyData:= .tuple [.int p, .int n, .list (cs.map bH)]
def BP(prs:aH)(m:Nat):Prop:=∀pr∈prs,0<=pr.1/\pr.1<m/\Sm pr.2
def CA(wd:Wo):Prop:=∀x,some x∈wd->Sm x
theorem jj{α β:Type}{xs:List α}(φ:α->β){k:Int}{m:Nat}(h0:0<=k)(h1:k<m)(hm:m=xs.length):∃x,xs[k.toNat]?=some x/\aU (xs.map φ) k=some (φ x):=by
 have hk:k.toNat<xs.length:=by omega
 exact⟨xs[k.toNat],List.getElem?_eq_getElem hk,cW h0 (by rw[List.getElem?_map,List.getElem?_eq_getElem hk];rfl)⟩
theorem eF{α β:Type}{xs:List α}{φ:α->β}{i:Nat}{d:β}(h:(xs.map φ)[i]?=some d):∃x,xs[i]?=some x/\d=φ x:=by
 rw[List.getElem?_map] at h
 obtain⟨x,hx,e⟩:=Option.map_eq_some_iff.mp h
 exact⟨x,hx,e.symm⟩
theorem take_snoc{α:Type}{xs:List α}{i:Nat}{x:α}(h:xs[i]?=some x):xs.take (i+1)=xs.take i++[x]:=by
 rw[List.take_add_one,h];rfl
theorem iz(o:Option Int):pA (bw o)=o.isNone:=by cases o<;>rfl
end L2
set_option maxRecDepth 100000
set_option maxHeartbeats 4000000
namespace L2
open PySem PySem.Spec PyProof.Rows
structure Eu(p b L lt r t:Int):Prop where
 l0:0<L
 r0:0<=r
 lp:L<=p
 rp:r<=p
 lc:∃k,L=lt*b+p*k
 rc:∃k,r=t*b+p*k
 dv:∀d,d∣L->d∣r->d∣p/\d∣b%p
 sz:(t.natAbs:Int)*L+(lt.natAbs:Int)*r<=p
theorem Eu.start{p b:Int}(hp:2<=p):Eu p b p 0 (b%p) 1:=by
 have m1:=Int.emod_nonneg b (show p≠0 by omega)
 have m2:=Int.emod_lt_of_pos b (show 0<p by omega)
 refine⟨by omega,m1,Int.le_refl _,by omega,⟨1,by rw[Int.zero_mul,Int.zero_add,Int.mul_one]⟩,⟨-(b/p),?_⟩,fun d h1 h2=>⟨h1,h2⟩,?_⟩
 ·have:=Int.mul_ediv_add_emod b p
  rw[Int.one_mul,Int.mul_neg]
  omega
 ·show(1:Int)*p+0*(b%p)<=p
  rw[Int.one_mul,Int.zero_mul]
  omega
theorem Eu.tb{p b L lt r t:Int}(h:Eu p b L lt r t): -p<=t/\t<=p:=by
 have h1:(t.natAbs:Int)*1<=(t.natAbs:Int)*L:=Int.mul_le_mul_of_nonneg_left (by have:=h.l0;omega) (by omega)
 have h2:0<=(lt.natAbs:Int)*r:=Int.mul_nonneg (by omega) h.r0
 have:=h.sz
 omega
theorem Eu.next{p b L lt r t:Int}(h:Eu p b L lt r t)(hr:0<r):Eu p b r t (L-L/r*r) (lt-L/r*t)/\L-L/r*r<r:=by
 have e:=Int.mul_ediv_add_emod L r
 have m1:=Int.emod_nonneg L (show r≠0 by omega)
 have m2:=Int.emod_lt_of_pos L hr
 have e':L-L/r*r=L%r:=by rw[Int.mul_comm (L/r) r];omega
 have q0:0<=L/r:=Int.ediv_nonneg (by have:=h.l0;omega) (by omega)
 obtain⟨k1,c1⟩:=h.lc
 obtain⟨k2,c2⟩:=h.rc
 refine⟨⟨hr,by omega,h.rp,by have:=h.rp;omega,h.rc,⟨k1-L/r*k2,?_⟩,fun d d1 d2=>?_,?_⟩,by omega⟩
 ·rw[Int.sub_mul,Int.mul_sub]
  generalize L/r=q at*
  have z:q*r=q*(t*b)+q*(p*k2):=by rw[<-Int.mul_add,<-c2]
  have z1:q*(t*b)=q*t*b:=(Int.mul_assoc q t b).symm
  have z2:q*(p*k2)=p*(q*k2):=by rw[<-Int.mul_assoc,Int.mul_comm q p,Int.mul_assoc]
  omega
 ·have dL:d∣L:=by
   have z:d∣(L-L/r*r)+L/r*r:=Int.dvd_add d2 (Int.dvd_mul_of_dvd_right d1)
   have z2:(L-L/r*r)+L/r*r=L:=by omega
   rwa[z2] at z
  exact h.dv d dL d1
 ·generalize L/r=q at*
  have a1:((lt-q*t).natAbs:Int)<=(lt.natAbs:Int)+q*(t.natAbs:Int):=by
   have b1:(lt-q*t).natAbs<=lt.natAbs+(q*t).natAbs:=by omega
   have b2:((q*t).natAbs:Int)=q*(t.natAbs:Int):=by
    rw[Int.natAbs_mul]
    have:(q.natAbs:Int)=q:=by omega
    rw[Int.natCast_mul,this]
   omega
  have a2:((lt-q*t).natAbs:Int)*r<=((lt.natAbs:Int)+q*(t.natAbs:Int))*r:=Int.mul_le_mul_of_nonneg_right a1 (by omega)
  have a3:((lt.natAbs:Int)+q*(t.natAbs:Int))*r=(lt.natAbs:Int)*r+q*(t.natAbs:Int)*r:=Int.add_mul _ _ _
  have a4:(t.natAbs:Int)*(L-q*r)=(t.natAbs:Int)*L-q*(t.natAbs:Int)*r:=by
   rw[Int.mul_sub,<-Int.mul_assoc,Int.mul_comm (t.natAbs:Int) q]
  have:=h.sz
  omega
theorem jM{α:Type}{us:List α}(h:us.length=1):∃a,us=[a]:=by
  cases us with
  |nil=>cases h
  | cons a us =>
    cases us with
    |nil=>exact⟨a,rfl⟩
    |cons _ _=>cases h
theorem ln2{α:Type}{us:List α}(h:us.length=2):∃a b,us=[a,b]:=by
  cases us with
  |nil=>cases h
  | cons a us =>
    obtain⟨b,rfl⟩:=jM (us:=us) (Nat.succ.inj h)
    exact⟨a,b,rfl⟩
theorem gv{α:Type}{us:List α}(h:us.length=3):∃a b c,us=[a,b,c]:=by
  cases us with
  |nil=>cases h
  | cons a us =>
    obtain⟨b,c,rfl⟩:=ln2 (us:=us) (Nat.succ.inj h)
    exact⟨a,b,c,rfl⟩
theorem lK{α:Type}{us:List α}(h:us.length=4):∃a b c d,us=[a,b,c,d]:=by
  cases us with
  |nil=>cases h
  | cons a us =>
    obtain⟨b,c,d,rfl⟩:=gv (us:=us) (Nat.succ.inj h)
    exact⟨a,b,c,d,rfl⟩
theorem DY{α:Type}{us:List α}(h:us.length=5):∃a b c d e,us=[a,b,c,d,e]:=by
  cases us with
  |nil=>cases h
  | cons a us =>
    obtain⟨b,c,d,e,rfl⟩:=lK (us:=us) (Nat.succ.inj h)
    exact⟨a,b,c,d,e,rfl⟩
end L2
set_option maxRecDepth 100000
set_option maxHeartbeats 1000000
namespace L2
open PySem PySem.Spec PyProof.Rows
def ig(xs:Array Nat):Prop:=∀(i j x y:Nat),i<j->xs[i]?=some x->xs[j]?=some y->x<y
theorem Ku{xs:Array Nat}{q:Nat}(hr:ig xs):∀(f lo hi:Nat),hi<=xs.size->lo<=hi->hi-lo<=f->(∀i x,i<lo->xs[i]?=some x->x<q)->(∀i x,hi<=i->xs[i]?=some x->q<=x)->
    lo<=SetTable.below.go xs q f lo hi/\SetTable.below.go xs q f lo hi<=hi/\(∀i x,i<SetTable.below.go xs q f lo hi->xs[i]?=some x->x<q)/\(∀i x,SetTable.below.go xs q f lo hi<=i->xs[i]?=some x->q<=x):=by
  intro f
  induction f with
  | zero =>
    intro lo hi h1 h2 h3 h4 h5
    have e:lo=hi:=by omega
    subst e
    exact⟨Nat.le_refl _,Nat.le_refl _,h4,h5⟩
  | succ f ih =>
    intro lo hi h1 h2 h3 h4 h5
    unfold SetTable.below.go
    by_cases hlt:lo<hi
    · rw[if_pos hlt]
      have hm:(lo+hi)/2<xs.size:=by omega
      have hg:xs[(lo+hi)/2]?=some xs[(lo+hi)/2]:=Array.getElem?_eq_getElem hm
      have hgd:xs.getD ((lo+hi)/2) q=xs[(lo+hi)/2]:=by rw[Array.getD_eq_getD_getElem?,hg];rfl
      dsimp only
      rw[hgd]
      by_cases hc:xs[(lo+hi)/2]<q
      · rw[if_pos hc]
        obtain⟨a1,a2,a3,a4⟩:=ih ((lo+hi)/2+1) hi h1 (by omega) (by omega) (fun i x hi' e=>by
          rcases Nat.lt_or_ge i ((lo+hi)/2) with z|z
          · exact Nat.lt_trans (hr i _ x _ z e hg) hc
          · have:i=(lo+hi)/2:=by omega
            subst this;rw[hg] at e;cases e;exact hc) h5
        exact⟨by omega,a2,a3,a4⟩
      · rw[if_neg hc]
        obtain⟨a1,a2,a3,a4⟩:=ih lo ((lo+hi)/2) (by omega) (by omega) (by omega) h4 (fun i x hi' e=>by
          rcases Nat.lt_or_ge ((lo+hi)/2) i with z|z
          · exact Nat.le_of_lt (Nat.lt_of_le_of_lt (Nat.le_of_not_lt hc) (hr _ i _ x z hg e))
          · have:i=(lo+hi)/2:=by omega
            subst this;rw[hg] at e;cases e;exact Nat.le_of_not_lt hc)
        exact⟨a1,by omega,a3,a4⟩
    · rw[if_neg hlt]
      have e:lo=hi:=by omega
      subst e
      exact⟨Nat.le_refl _,Nat.le_refl _,h4,h5⟩
theorem below_at{xs:Array Nat}{q:Nat}(hr:ig xs):SetTable.below xs q<=xs.size/\(∀i x,i<SetTable.below xs q->xs[i]?=some x->x<q)/\(∀i x,SetTable.below xs q<=i->xs[i]?=some x->q<=x):=by
 obtain⟨_,h2,h3,h4⟩:=Ku (q:=q) hr xs.size 0 xs.size (Nat.le_refl _) (Nat.zero_le _) (by omega) (fun i x h=>absurd h (Nat.not_lt_zero _)) (fun i x h e=>by
  have:=(Array.getElem?_eq_some_iff.mp e).1;omega)
 exact⟨h2,h3,h4⟩
theorem K5{α:Type}{xs:Array α}{p:Nat}{x:α}(hp:p<=xs.size)(i:Nat):(SetTable.insertAt xs p x)[i]?=if i<p then xs[i]? else if i=p then some x else xs[i-1]?:=by
 unfold SetTable.insertAt
 rw[Array.getElem?_append]
 have e1:((xs.extract 0 p).push x).size=p+1:=by rw[Array.size_push,Array.size_extract];omega
 rw[e1]
 by_cases h1:i<p
 ·rw[if_pos (show i<p+1 by omega),if_pos h1,Array.getElem?_push,if_neg (by rw[Array.size_extract];omega),Array.getElem?_extract_of_lt (by omega)]
  simp
 ·rw[if_neg h1]
  by_cases h2:i=p
  ·rw[if_pos (show i<p+1 by omega),if_pos h2,Array.getElem?_push,if_pos (by rw[Array.size_extract];omega)]
  ·rw[if_neg (show¬i<p+1 by omega),if_neg h2]
   by_cases h3:i-(p+1)<xs.size-p
   ·rw[Array.getElem?_extract_of_lt (by omega),<-Array.getElem?_eq_getElem,show p+(i-(p+1))=i-1 by omega]
   ·rw[Array.getElem?_eq_none (by rw[Array.size_extract];omega),Array.getElem?_eq_none (by omega)]
theorem ig.insert{xs:Array Nat}{q:Nat}(hr:ig xs)(hq:xs[SetTable.below xs q]?≠some q):ig (SetTable.insertAt xs (SetTable.below xs q) q):=by
 obtain⟨h1,h2,h3⟩:=below_at (q:=q) hr
 have h3':∀i x,SetTable.below xs q<=i->xs[i]?=some x->q<x:=fun i x hi e=>by
  rcases Nat.lt_or_eq_of_le (h3 i x hi e) with z|z
  ·exact z
  ·subst z
   rcases Nat.lt_or_eq_of_le hi with z|z
   ·have hb:SetTable.below xs q<xs.size:=Nat.lt_of_lt_of_le z (Nat.le_of_lt (Array.getElem?_eq_some_iff.mp e).1)
    have hg:xs[SetTable.below xs q]?=some xs[SetTable.below xs q]:=Array.getElem?_eq_getElem hb
    have:=hr _ i _ q z hg e
    have:=h3 _ _ (Nat.le_refl _) hg
    omega
   ·rw[<-z] at e;exact absurd e hq
 intro i j x y hij ex ey
 rw[K5 h1] at ex ey
 by_cases a:i<SetTable.below xs q
 ·rw[if_pos a] at ex
  by_cases b:j<SetTable.below xs q
  ·rw[if_pos b] at ey;exact hr i j x y hij ex ey
  ·rw[if_neg b] at ey
   by_cases c:j=SetTable.below xs q
   ·rw[if_pos c] at ey;cases ey;exact h2 i x a ex
   ·rw[if_neg c] at ey;exact hr i (j-1) x y (by omega) ex ey
 ·rw[if_neg a] at ex
  by_cases c:i=SetTable.below xs q
  ·rw[if_pos c] at ex;cases ex
   rw[if_neg (by omega),if_neg (by omega)] at ey
   exact h3' (j-1) y (by omega) ey
  ·rw[if_neg c] at ex
   rw[if_neg (by omega),if_neg (by omega)] at ey
   exact hr (i-1) (j-1) x y (by omega) ex ey
theorem Jm{t:SetTable}{ha:Nat->Int}{h:Int}:∀(f:Nat) (p:SetTable.Probe) (j:Nat) (dm:Option Nat),(∀d,p.dummy=some d->t.slot d= .dummy)->SetTable.probe.go t ha h f p=some (.empty j dm)->t.slot j= .empty/\∀d,dm=some d->t.slot d= .dummy:=by
  intro f
  induction f with
  |zero=>intro p j dm _ e;unfold SetTable.probe.go at e;cases e
  | succ f ih =>
    intro p j dm hd e
    have Dj:∀p:SetTable.Probe,(t.advance p).dummy=p.dummy:=fun p=>by unfold SetTable.advance;split<;>rfl
    unfold SetTable.probe.go at e
    cases hs:t.slot p.j with
    |empty=>rw[hs] at e;cases e;exact⟨hs,hd⟩
    |dummy=>rw[hs] at e;exact ih _ j dm (fun d h'=>by rw[Dj] at h';cases h';exact hs) e
    | live i =>
      rw[hs] at e
      dsimp only at e
      split at e
      · cases e
      · exact ih _ j dm (fun d h'=>by rw[Dj] at h';exact hd d h') e
theorem FW{t:SetTable}{h:Int}{j:Nat}{wd:Bool}(e:t.freeSlot h=some (j,wd)):∀i,t.slot j≠ .live i:=by
 unfold SetTable.freeSlot SetTable.probe at e
 intro i z
 split at e
 ·rename_i j0 dm he
  obtain⟨h1,h2⟩:=Jm (10*SetTable.turns t.mask) (t.probeStart h) j0 dm (fun d h'=>by unfold SetTable.probeStart at h';cases h') he
  cases dm with
  |none=>cases e;simp at z;rw[h1] at z;cases z
  |some d=>cases e;simp at z;rw[h2 d rfl] at z;cases z
 ·cases e
structure dg(bt:Bool)(t:SetTable):Prop where
 led:bt=false->t.led=true
 vv:t.plain=true->ig t.place
theorem dg.standIn{bt:Bool}{t:SetTable}(h:dg bt t)(n:Nat):dg bt (t.standIn n):=⟨h.led,fun z=>by cases z⟩
theorem dg.off{bt:Bool}{t:SetTable}(h:dg bt t):dg bt {t with plain:=false}:=⟨h.led,fun z=>by cases z⟩
theorem dg.put{bt:Bool}{t:SetTable}{j:Nat}(h:dg bt t)(hj:∀i,t.slot j≠ .live i):dg bt (t.put j).1:=by
 refine⟨h.led,fun z=>?_⟩
 refine ig.insert (h.vv z) fun e=>hj (SetTable.below t.place j) ?_
 unfold SetTable.slot
 dsimp only
 rw[if_pos (by rw[e];exact beq_self_eq_true _)]
theorem dg.layNew{bt:Bool}{t:SetTable}{es:Array (Int×Value)}{h:Int}{x:Value}(ok:dg bt t):dg bt (layNew t es h x).2.1:=by
 unfold PySem.layNew
 split
 ·rename_i slot wd e
  dsimp only
  unfold SetTable.orStandIn
  split
  ·exact ok.put (FW e)
  ·exact(ok.put (FW e)).standIn _
 ·exact ok.standIn _
theorem Sj(n:Nat)(φ:Nat->Option Nat):ig (((List.range n).filterMap fun j=>(φ j).map (j,·)).map (·.1)).toArray:=by
  have hp:(((List.range n).filterMap fun j=>(φ j).map (j,·)).map (·.1)).Pairwise (· < ·):=by
    have hs:List.Sublist (((List.range n).filterMap fun j=>(φ j).map (j,·)).map (·.1)) (List.range n):=by
      induction List.range n with
      |nil=>simp
      | cons a r ih =>
        rw[List.filterMap_cons]
        cases φ a with
        |none=>exact ih.cons a
        |some y=>exact ih.cons₂ a
    exact List.pairwise_lt_range.sublist hs
  intro i j x y hij ex ey
  rw[List.getElem?_toArray] at ex ey
  obtain⟨hi,rfl⟩:=List.getElem?_eq_some_iff.mp ex
  obtain⟨hj,rfl⟩:=List.getElem?_eq_some_iff.mp ey
  exact List.pairwise_iff_getElem.mp hp i j hi hj hij
theorem dg.Hv{bt:Bool}{t:SetTable}{es:Array (Int×Value)}{n:Nat}(ok:dg bt t):dg bt (relayAll t es n).2.1:=by
  unfold relayAll
  split
  · rename_i t' order e
    dsimp only
    split
    · unfold SetTable.relaid SetTable.laid at e
      cases hl:SetTable.layClean (SetTable.sizeAbove n-1) (es.map (·.1)) with
      |none=>rw[hl] at e;cases e
      | some owner =>
        rw[hl] at e
        cases e
        exact⟨ok.led,fun _=>Sj _ _⟩
    · exact ok.standIn _
  · exact ok.standIn _
theorem dg.fresh{bt:Bool}:dg bt (.fresh 0 0 (!bt)):=⟨fun h=>by rw[h];rfl,fun _ i j x y _ e=>by simp[SetTable.fresh] at e⟩
end L2
set_option maxRecDepth 100000
set_option maxHeartbeats 4000000
namespace L2
open PySem PySem.Spec PyProof.Rows
def eY(bt:Bool)(h:Heap)(a:Addr):Prop:=∀o es ep t,h.get? a=some o->o.data= .set es ep t->dg bt t
theorem eY.of{bt:Bool}{h:Heap}{a:Addr}{o:Obj}{es:Array (Int×Value)}{ep:Nat}{t:SetTable}(e:h.get? a=some o)(d:o.data= .set es ep t)(k:dg bt t):eY bt h a:=fun o' es' qw t' e' d'=>by
 rw[e] at e';cases e';rw[d] at d';cases d';exact k
theorem eY.keep{bt:Bool}{h h':Heap}{a:Addr}{o:Obj}(k:eY bt h a)(e:h.get? a=some o)(e':h'.get? a=some o):eY bt h' a:=fun o1 es ep t x d=>by
 rw[e'] at x;cases x;exact k o es ep t e d
section
variable{prog:Program}{w:World}{A:Around}{E:Value->Shared->Prop}{s:Shared}{a:Addr}{bt:Bool}
abbrev IK(prog:Program)(w:World):=intKind prog w
theorem Fz{o:Obj}{es es':Array (Int×Value)}{ep:Nat}{t t':SetTable}{T:Int->Bool}{h:Heap}(g1:h.get? a=some o)(g2:o.ExactSet)(g3:o.data= .set es ep t)(l1:ElemsOf (IK prog w) es'.toList)
  (l2:∀k,T k=true↔∃e∈es'.toList,(IK prog w).is k e.2=true) (l3:es'.size<scanBound) (l4:t'.fits es'.size=true) (tk:dg bt t'):
  (∃o',(h.update a (Obj.putSet es' t')).get? a=some o'/\o'.ExactSet/\o'.data= .set es' (ep+1) t')/\(h.update a (Obj.putSet es' t')).SetOf (IK prog w) a T es'.size/\eY bt (h.update a (Obj.putSet es' t')) a:=by
 obtain⟨q1,q2⟩:=SetOf_store (knd:=IK prog w) (es':=es') (t':=t') (S':=T) g1 g2 g3 l1 l2 l3 l4
 exact⟨⟨_,q1,g2,rfl⟩,q2, .of q1 rfl tk⟩
theorem Ea{gg:Bool->Sem Unit}(T4:∀(b:Bool) (s₁:Shared) (Q₁:Unit->Shared->Prop),Q₁ () s₁->wpAny (model prog w) A (gg b) Q₁ E s₁){o:Obj}{es:Array (Int×Value)}{ep:Nat}{t:SetTable}
    (g1:s.heap.get? a=some o) (g2:o.ExactSet) (g3:o.data= .set es ep t) {es1:Array (Int×Value)} {t2:SetTable} {T:Int->Bool} (l1:ElemsOf (IK prog w) es1.toList) (l2:∀k,T k=true↔∃e∈es1.toList,(IK prog w).is k e.2=true)
    (l3:es1.size<scanBound) (l4:t2.fits es1.size=true) (tk:dg bt t2) {wd:Bool} {R:Option Bool->Shared->Prop}
    (fin:∀h',Heap.SameBut a s.heap h'->h'.SetOf (IK prog w) a T es1.size->eY bt h' a->R (some true) {s with heap:=h'}):
    wpAny (model prog w) A (do storeSet a es1 t2
                               if(!wd && t2.tooFull)=true then do
                                 gg (relayAll t2 es1 (SetTable.grown es1.size)).2.2
                                 storeSet a (relayAll t2 es1 (SetTable.grown es1.size)).1 (relayAll t2 es1 (SetTable.grown es1.size)).2.1
                                 pure (some true)
                               else pure (some true)) R E s:=by
  obtain⟨⟨o1,k1,k2,k3⟩,q1,q2⟩:=Fz (T:=T) g1 g2 g3 l1 l2 l3 l4 tk
  have sb:=Heap.SameBut.update s.heap a (Obj.putSet es1 t2)
  refine wpAny_bind (wpAny_storeSet_of g1 g3 ?_ (fits_of_scanBound l3))
  by_cases c:(!wd && t2.tooFull)=true
  · rw[if_pos c]
    have pp:=relayAll_perm t2 es1 (SetTable.grown es1.size)
    have pf:=relayAll_fits t2 es1 (SetTable.grown es1.size)
    have pt:=tk.Hv (es:=es1) (n:=SetTable.grown es1.size)
    generalize relayAll t2 es1 (SetTable.grown es1.size)=Z at pp pf pt⊢
    obtain⟨fE,t3,Mm⟩:=Z
    dsimp only at pp pf pt⊢
    have sz:fE.size=es1.size:=by have:=pp.length_eq;rwa[Array.length_toList,Array.length_toList] at this
    have Q5:∀k,T k=true↔∃e∈fE.toList,(IK prog w).is k e.2=true:=fun k=>(l2 k).trans ⟨fun⟨e,m,z⟩=>⟨e,pp.mem_iff.mpr m,z⟩,fun⟨e,m,z⟩=>⟨e,pp.mem_iff.mp m,z⟩⟩
    obtain⟨_,r1,r2⟩:=Fz (T:=T) k1 k2 k3 (l1.perm pp) Q5 (by rw[sz];exact l3) pf pt
    refine wpAny_bind (T4 _ _ _ (wpAny_bind (wpAny_storeSet_of k1 k3 ?_ (fits_of_scanBound (by rw[sz];exact l3)))))
    rw[sz] at r1
    exact wpAny_pure (fin _ (sb.trans (Heap.SameBut.update _ a _)) r1 r2)
  · rw[if_neg c]
    exact wpAny_pure (fin _ sb q1 q2)
theorem UK{S:Int->Bool}{n:Nat}{k:Int}{x:Value}{Q:Bool->Shared->Prop}(hx:(IK prog w).is k x=true)(sc:x.scannable=true)(hS:s.heap.SetOf (IK prog w) a S n)(hT:eY bt s.heap a)(room:n+1<scanBound)
    (fin:∀h',Heap.SameBut a s.heap h'->h'.SetOf (IK prog w) a (fun j=>S j||decide (j=k)) (if S k then n else n+1)->eY bt h' a->Q (!S k) {s with heap:=h'}):
    wpAny (model prog w) A (setAddHashed a x ((IK prog w).hash k)) Q E s:=by
  obtain⟨o,es,ep,t,g1,g2,g3,l1,l2,l3,l4,sz⟩:=hS
  have tk:=hT o es ep t g1 g3
  unfold setAddHashed setAddHashedIn
  refine wpAny_holding (wpAny_bind (wpAny_setState_of g1 g3 l4 ?_))
  dsimp only
  rw[if_pos (byScan_of sc l3 l1)]
  unfold setAddByScan
  refine wpAny_bind (wpAny_bind (wpAny_rule (wpAny_bind (wpAny_setScan_of hx g1 g3 l4 l1 ?_))))
  cases fr:List.findIdx? (fun e=>(IK prog w).is k e.2) es.toList with
  | some j =>
    obtain⟨hj,pj,_⟩:=List.findIdx?_eq_some_iff_getElem.mp fr
    have yes:S k=true:=(l2 k).mpr ⟨_,List.getElem_mem hj,pj⟩
    have z:=fin s.heap (.refl a s.heap) ⟨o,es,ep,t,g1,g2,g3,l1,fun j=>by
      rw[Bool.or_eq_true,decide_eq_true_eq,<-l2 j]
      exact⟨fun q=>q.elim id fun e=>e▸yes, .inl⟩,l3,l4,by rw[if_pos yes];exact sz⟩ hT
    rw[yes] at z
    exact wpAny_pure (wpAny_pure z)
  | none =>
    have no:S k=false:=by
      cases q:S k with
      |false=>rfl
      | true =>
        obtain⟨e,m,p⟩:=(l2 k).mp q
        rw[List.findIdx?_eq_none_iff.mp fr e m] at p;cases p
    have pp:=layNew_perm t es ((IK prog w).hash k) x
    have pf:=layNew_fits t es ((IK prog w).hash k) x
    have pt:=tk.layNew (es:=es) (h:=(IK prog w).hash k) (x:=x)
    dsimp only
    generalize layNew t es ((IK prog w).hash k) x=Z at pp pf pt⊢
    obtain⟨es1,t1,wd,Mm⟩:=Z
    dsimp only at pp pf pt⊢
    rw[Array.toList_push] at pp
    have jv:es1.size=n+1:=by have:=pp.length_eq;rw[List.length_append,Array.length_toList,Array.length_toList,sz] at this;exact this
    have fin':∀h',Heap.SameBut a s.heap h'->h'.SetOf (IK prog w) a (fun j=>S j||decide (j=k)) es1.size->eY bt h' a->Q true {s with heap:=h'}:=fun h' x1 x2 x3=>by
      have:=fin h' x1;rw[no,if_neg Bool.false_ne_true] at this;rw[jv] at x2;exact this x2 x3
    have gw:∀(b:Bool) (s₁:Shared) (Q₁:Unit->Shared->Prop),Q₁ () s₁->wpAny (model prog w) A (match b with|true=>rule "set.scan.the-table-gave-way" |false=>pure ()) Q₁ E s₁:=fun b s₁ Q₁ q=>by
      cases b
      · exact wpAny_pure q
      · exact wpAny_rule q
    refine wpAny_bind (gw _ _ _ ?_)
    have e1:=(l1.push hx sc).perm pp
    have e2:=mem_push_iff hx l2 pp
    have e3:es1.size<scanBound:=by rw[jv];exact room
    by_cases pl:t1.plain=true
    · rw[if_pos pl,hashByValue_scannable 8 sc]
      refine wpAny_bind (wpAny_pure ?_)
      refine Ea gw g1 g2 g3 e1 e2 e3 ?_ ?_ fun h' x1 x2 x3=>wpAny_pure (fin' h' x1 x2 x3)
      · split
        · exact pf
        · exact SetTable.fits_plain_off pf
      · split
        · exact pt
        · exact pt.off
    · rw[if_neg pl]
      refine wpAny_bind (wpAny_pure ?_)
      rw[if_pos rfl]
      exact Ea gw g1 g2 g3 e1 e2 e3 pf pt fun h' x1 x2 x3=>wpAny_pure (fin' h' x1 x2 x3)
end
end L2
set_option maxRecDepth 100000
set_option maxHeartbeats 4000000
namespace L2
open PySem PySem.Spec PyProof.Rows
section
variable{prog:Program}{w:World}{A:Around}{R:Result->Shared->Prop}{I:Addr}{fp wr:List Addr}{G:Array GenState->Array GenState->Prop}{n:Nat}{P:Nat->Value->Prop}{St:Nat->Shared->Prop}{bt:Bool}
abbrev met(val:Nat->Int)(i:Nat):Int->Bool:=fun k=>(firstMet val i).any (· ==k)
theorem Hy(W:WalksS prog w A.in1 I fp wr G n P St)(C:Addr)(nC:C∉fp)(val:Nat->Int)(hv:∀i v,P i v->∃t,v= .int (val i) t)(room:n+1<scanBound)(fuel:Nat):
    ∀(i:Nat) (s:Shared),n-i=fuel->i<=n->St i s->s.heap.SetOf (IK prog w) C (met val i) (firstMet val i).length->eY bt s.heap C->
      (∀s',Moved (C::wr) G s s'->s'.heap.SetOf (IK prog w) C (met val n) (firstMet val n).length->eY bt s'.heap C->R (.ok (.ret .none)) s')->
      codeAny (model prog w) A (.builtin "set.update.loop" ⟨[.ref C, .ref I],[]⟩) R s:=by
  have nw:C∉wr:=fun z=>nC (W.sub _ z)
  have up:∀b∈wr,b∈C::wr:=fun b z=>List.mem_cons_of_mem _ z
  have mv:∀{s s':Shared} {T:Int->Bool} {m:Nat},Moved wr G s s'->s.heap.SetOf (IK prog w) C T m->eY bt s.heap C->s'.heap.SetOf (IK prog w) C T m/\eY bt s'.heap C:=fun mo q tt=>by
    obtain⟨o,es,ep,t,ho,r⟩:=q
    exact⟨⟨o,es,ep,t,mo.heap C _ nw ho,r⟩,tt.keep ho (mo.heap C _ nw ho)⟩
  induction fuel with
  | zero =>
    intro i s e1 e2 st q tt fin
    obtain rfl:i=n:=by omega
    refine codeAny_builtin F.entry_set_update_loop ?_
    rw[Around.under_plainId F.plain_set_update_loop _]
    refine wpAny_bind (W.done s _ _ st fun s' mo=>?_)
    exact wpAny_pure (fin s' (mo.mono up) (mv mo q tt).1 (mv mo q tt).2)
  | succ fuel ih =>
    intro i s e1 e2 st q tt fin
    have lt:i<n:=by omega
    refine codeAny_builtin F.entry_set_update_loop ?_
    rw[Around.under_plainId F.plain_set_update_loop _]
    refine wpAny_bind (W.item i s _ _ lt st fun v s' hP st' mo=>?_)
    obtain⟨tok,rfl⟩:=hv i v hP
    obtain⟨q',Ur⟩:=mv mo q tt
    show wpAny _ A.in1 (holding [Value.int (val i) tok] (setAdd C (.int (val i) tok))>>=_) _ _ s'
    unfold setAdd
    refine wpAny_bind (wpAny_holding (wpAny_holding (wpAny_bind ((IK prog w).pyHash (k:=val i) (intKind_is _ _ _ _) ?_))))
    refine UK (bt:=bt) (s:={s' with toks:=s'.toks+1}) (intKind_is _ _ _ _) rfl q' Ur (by have:=firstMet_length_le val i;omega) fun h' sb q2 Qu=>?_
    have q3:h'.SetOf (IK prog w) C (met val (i+1)) (firstMet val (i+1)).length:=SetOf_congr q2 (fun j=>by unfold met;rw[firstMet_succ,step_any]) (by rw[firstMet_succ,step_length])
    refine wpAny_pure ⟨plainId_quiet F.plain_set_update_loop _,ih (i+1) _ (by omega) lt (W.frame _ s' _ _ st' (Nat.le_succ _) fun b hb o e=>?_) q3 Qu fun s2 JB q4 ND=>?_⟩
    · rw[sb.2 b fun z:b=C=>nC (z▸hb)];exact e
    · refine fin s2 (Moved.trans W.gtrans ((mo.mono up).then_heap (Nat.le_succ _) fun b o hb e=>?_) JB) q4 ND
      rw[sb.2 b fun z:b=C=>hb (z▸List.mem_cons_self)];exact e
end
section
variable{prog:Program}{w:World}{A:Around}{E:Value->Shared->Prop}{s:Shared}
abbrev dU(w:World):Bool:=w.params.followText "set-order"
abbrev iX(w:World):Obj:={cls:= .type "set",dict:=none,data:= .set #[] 0 (.fresh 0 0 (!dU w))}
theorem N7(a:Value){Q₁:Value->Shared->Prop}(fin:Q₁ (.ref s.heap.objs.size) {s with heap:=s.heap.push (iX w)}):codeAny (model prog w) A (.call (.builtin "set.__new__") ⟨[.type "set",a],[]⟩) (wants Q₁ E) s:=by
 refine codeAny_of_tree ?_
 show wpAny _ A.in1 (do checkBuiltinCall "set.__new__" ⟨[.type "set",a],[]⟩;again (.builtin "set.__new__" ⟨[.type "set",a],[]⟩)) _ _ s
 refine wpAny_bind (wpAny_of_eq (F.newCall_set_1 a) (wpAny_pure ⟨plainId_quiet F.plain_set_new _,codeAny_builtin F.entry_set_new ?_⟩))
 rw[Around.under_plainId F.plain_set_new _]
 unfold Builtin.«set.__new__» Builtin.Frozenset.newClass
 have hsub:=sub_set_self
 obtain⟨hp,g,d,tk,os⟩:=s
 dsimp only at fin⊢
 wp_walk
 refine wpAny_askSetting (wpAny_pure ?_)
 dsimp only
 simp only[newObj]
 exact wpAny_bind (wpAny_alloc (wpAny_pure (wpAny_pure fin)))
theorem M8{l:Addr}{items:Array Value}{ns:List Int}{Q:Value->Shared->Prop}(hh:A.handled=none)(hl:s.heap.IsList l items)(hi:IntsAre items.toList ns)(room:items.size+1<scanBound)
    (fin:∀(h':Heap) (tk:Nat),h'.SetOf (IK prog w) s.heap.objs.size (met (fun i=>ns.getD i 0) items.size) (firstMet (fun i=>ns.getD i 0) items.size).length->eY (dU w) h' s.heap.objs.size->
      (∀b o,b<s.heap.objs.size->s.heap.get? b=some o->h'.get? b=some o)->Q (.ref s.heap.objs.size) {s with heap:=h',toks:=tk}):wpAny (model prog w) A (call (.type "set") [.ref l]) Q E s:=by
  obtain⟨c,tl,WL⟩:=F.called_set.mro
  have hmade:=F.called_set.made
  have hsub:=F.called_set.sub
  have h1:=F.called_set.notType
  have h2:=F.called_set.canCreate
  have hct:=F.typeCall_set_1 (.ref l)
  refine wpAny_call (codeAny_of_tree ?_)
  show wpAny _ _ (callAny (.type "set") _) _ _ _
  refine wpAny_pure ⟨Code.quiet_builtin _ (by decide+kernel),codeAny_builtin F.entry_type_call ?_⟩
  rw[Around.under_plain (weight_type_call_type "set" [.ref l] []) rfl]
  repeat (any_goals (first|assumption|wp_step))
  refine codeAny_mono (N7 (.ref l) (E:=E) (Q₁:=fun obj s₁=>obj= .ref s.heap.objs.size/\s₁={s with heap:=s.heap.push (iX w)}) ⟨rfl,rfl⟩) fun r s₁ hr=>?_
  cases r with
  |error e=>exact hr
  | ok fl =>
    cases fl with
    | ret obj =>
      obtain⟨rfl,rfl⟩:=hr
      have hS:(s.heap.push (iX w)).get? s.heap.objs.size=some (iX w):=Heap.get?_push_size _ rfl
      have hT:Shared.TypeIs {s with heap:=s.heap.push (iX w)} (.ref s.heap.objs.size) "set":=⟨_,hS,rfl⟩
      have hli:=F.called_set.init.lookup
      have hbi:=F.called_set.init.bind (.ref s.heap.objs.size)
      repeat (any_goals (first|assumption|wp_step))
      refine codeAny_mono (codeAny_call_builtin (R:=wants (fun r s₂=>r= .none/\∃h' tk,s₂={s with heap:=h',toks:=tk}/\h'.SetOf (IK prog w) s.heap.objs.size (met (fun i=>ns.getD i 0) items.size) (firstMet (fun i=>ns.getD i 0) items.size).length/\eY (dU w) h' s.heap.objs.size/\
          (∀b o,b<s.heap.objs.size->s.heap.get? b=some o->h'.get? b=some o)) E) F.called_set.init.plain F.entry_set_init (check_set_init_1 hT ?_)) fun r₂ s₂ uN=>?_
      · obtain⟨ol,gc,hcl,nl,hdl⟩:=hl
        obtain⟨Xl,Xj,WJ,WW⟩:=ol
        simp only at hcl hdl
        subst hcl;subst hdl
        have Ax:=Heap.get?_push_of_some (iX w) gc
        have Xb:=F.sub_list_set
        have Xn:=F.sub_list_frozenset
        have hne:(Value.type "list"==Value.type "dict")=false:=by decide
        have hl1:(s.heap.push (iX w)).IsList l items:=⟨_,Ax,rfl,nl,rfl⟩
        unfold Builtin.«set.__init__» noKeywords Builtin.Frozenset.updateFrom
        generalize Py:pyIter=PI
        wp_walk
        subst Py
        refine wpAny_pyIter_list hl1 (wpAny_bind (wpAny_runValue ?_))
        have hlS:l<s.heap.objs.size:=Heap.lt_size gc
        have jv:(s.heap.push (iX w)).objs.size=s.heap.objs.size+1:=Heap.size_push ..
        have n1:l≠(s.heap.push (iX w)).objs.size:=by rw[jv];exact Nat.ne_of_lt (Nat.lt_succ_of_lt hlS)
        have n2:s.heap.objs.size∉[(s.heap.push (iX w)).objs.size,l]:=by
          rw[jv];intro z;rcases List.mem_cons.mp z with z|z
          · exact absurd z (Nat.ne_of_lt (Nat.lt_succ_self _))
          · exact absurd (List.mem_singleton.mp z) (Nat.ne_of_gt hlS)
        have h3:A.in1.in1.in1.handled=none:=by simp[hh]
        have hS':=Heap.get?_push_of_some ({cls:= .type "list_iterator",data:= .fields #[.ref l, .int 0 0]}:Obj) hS
        refine Hy (bt:=dU w) ((Walks.list h3 _ l n1 items).toS) s.heap.objs.size n2 (fun i=>ns.getD i 0) (fun i v e=>IntsAre.int_at hi i v (by rw[Array.getElem?_toList];exact e)) room (items.size-0) 0 _ (by omega) (Nat.zero_le _)
          ⟨⟨_,Heap.get?_push_size _ rfl,rfl,rfl⟩,(hl1.push _)⟩ (SetOf_congr ((setObjOf_fresh (knd:=IK prog w) (!dU w)).setOf hS' (by unfold scanBound;omega)) (fun _=>rfl) rfl) (.of hS' rfl .fresh) ?_
        intro s' mo q tt
        obtain⟨h',g',d',tk',os'⟩:=s'
        obtain rfl:g'=s.gens:=mo.gens
        obtain rfl:d'=s.drawn:=mo.drawn
        obtain rfl:os'=s.os:=mo.os
        refine wpAny_pure (wpAny_pure ⟨rfl,h',tk',rfl,q,tt,fun b o hb e=>?_⟩)
        refine mo.heap b o (fun z=>?_) (Heap.get?_push_of_some _ (Heap.get?_push_of_some _ e))
        rcases List.mem_cons.mp z with z|z
        · exact absurd z (Nat.ne_of_lt hb)
        · rw[jv] at z;exact absurd (List.mem_singleton.mp z) (Nat.ne_of_lt (Nat.lt_succ_of_lt hb))
      · cases r₂ with
        |error e=>exact uN
        | ok fl₂ =>
          cases fl₂ with
          | ret r =>
            obtain⟨rfl,h',tk,rfl,q1,q2,q3⟩:=uN
            repeat (any_goals (first|assumption|wp_step))
            exact fin _ _ q1 q2 q3
          |_=>exact uN.elim
    |_=>exact hr.elim
end
end L2
set_option maxRecDepth 100000
set_option maxHeartbeats 4000000
namespace L2
open PySem PySem.Spec PyProof.Rows
theorem gD:Slot "set_iterator" "__next__" "set_iterator.__next__":= .of (owner:="set_iterator") (n:="__next__") (by rw[typeLookup_type,builtinLookup_eq_fast];kernel_rfl) (by decide+kernel) (by decide+kernel) (by decide+kernel) (by first|exact .inl (by decide+kernel)|exact .inr (by decide+kernel)) (by rw[isSubtype_type];kernel_rfl)
theorem sG:entryFor table "set_iterator.__next__"=some Builtin.«set_iterator.__next__» :=entryFor_of_tree (by kernel_rfl)
theorem qp(a:Value):argsOk "set_iterator.__next__" ⟨[a],[]⟩:=by unfold argsOk;kernel_rfl
theorem Dq:Slot "set" "__iter__" "set.__iter__":= .of (owner:="set") (n:="__iter__") (by rw[typeLookup_type,builtinLookup_eq_fast];kernel_rfl) (by decide+kernel) (by decide+kernel) (by decide+kernel) (by first|exact .inl (by decide+kernel)|exact .inr (by decide+kernel)) (by rw[isSubtype_type];kernel_rfl)
theorem P5:entryFor table "set.__iter__"=some Builtin.«frozenset.__iter__» :=entryFor_alias (id':="frozenset.__iter__") (by kernel_rfl) rfl (by decide+kernel) (by kernel_rfl)
theorem MF(a:Value):argsOk "set.__iter__" ⟨[a],[]⟩:=by unfold argsOk;kernel_rfl
theorem mC:Slot "set_iterator" "__iter__" "set_iterator.__iter__":= .of (owner:="set_iterator") (n:="__iter__") (by rw[typeLookup_type,builtinLookup_eq_fast];kernel_rfl) (by decide+kernel) (by decide+kernel) (by decide+kernel) (by first|exact .inl (by decide+kernel)|exact .inr (by decide+kernel)) (by rw[isSubtype_type];kernel_rfl)
theorem xj:entryFor table "set_iterator.__iter__"=some Builtin.«dict_keyiterator.__iter__» :=entryFor_alias (id':="dict_keyiterator.__iter__") (by kernel_rfl) rfl (by decide+kernel) (by kernel_rfl)
theorem uO(a:Value):argsOk "set_iterator.__iter__" ⟨[a],[]⟩:=by unfold argsOk;kernel_rfl
end L2
set_option maxRecDepth 100000
set_option maxHeartbeats 4000000
namespace L2
open PySem PySem.Spec PyProof.Rows
section
variable{prog:Program}{w:World}{A:Around}{E:Value->Shared->Prop}{s:Shared}{a it tp:Addr}{o:Obj}{es:Array (Int×Value)}{ep:Nat}{t:SetTable}
theorem yS{α:Type}:∀{l:List α} {i:Nat} (h:i<l.length),(l[i]::l.eraseIdx i).Perm l
  |b::r,0,_=>by simp
  | b :: r, i + 1, h => by
    have:=yS (l:=r) (i:=i) (by simpa using h)
    simp only[List.getElem_cons_succ,List.eraseIdx_cons_succ]
    exact(List.Perm.swap b _ _).trans (this.cons b)
theorem vn{α:Type}(nx:Nat->Nat):∀(f k:Nat) (l:List α) (out:Array α),l.length<=f->(pickOrder.go nx f k l out).toList.Perm (out.toList++l):=by
  intro f
  induction f with
  | zero =>
    intro k l out h
    have:l=[]:=List.length_eq_zero_iff.mp (by omega)
    subst this
    unfold pickOrder.go
    simp
  | succ f ih =>
    intro k l out h
    unfold pickOrder.go
    cases l with
    |nil=>simp
    | cons b r =>
      have hlt:nx k%(b::r).length<(b::r).length:=Nat.mod_lt _ (by simp)
      rw[List.getElem?_eq_getElem hlt]
      dsimp only
      refine(ih (k+1) _ _ (by rw[List.length_eraseIdx_of_lt hlt];omega)).trans ?_
      rw[Array.toList_push,List.append_assoc]
      refine List.Perm.append_left _ ?_
      exact yS hlt
theorem C3(bt:dU w=true)(g1:s.heap.get? a=some o)(g3:o.data= .set es ep t)(g4:t.fits es.size=true){i sl:Nat}{Q:Option (Value×Nat)->Shared->Prop}
  (h:Q (((pickOrder (w.params.setOrder a ep) es)[i]?).map fun e=>(e.2,sl)) s):wpAny (model prog w) A (setNext a sl i ep) Q E s:=by
 unfold setNext
 refine wpAny_bind (wpAny_setState_of g1 g3 g4 ?_)
 dsimp only
 unfold setsByText
 refine wpAny_bind (wpAny_bind (wpAny_askSetting (wpAny_pure ?_)))
 show wpAny _ _ (if dU w=true then _ else _) _ _ _
 rw[if_pos bt]
 rw[if_neg (by simp)]
 refine wpAny_bind ?_
 unfold setWalk
 refine wpAny_bind (wpAny_setState_of g1 g3 g4 ?_)
 dsimp only
 unfold setsByText
 refine wpAny_bind (wpAny_bind (wpAny_askSetting (wpAny_pure ?_)))
 show wpAny _ _ (if dU w=true then _ else _) _ _ _
 rw[if_pos bt]
 refine wpAny_bind (wpAny_askSetting (wpAny_pure ?_))
 exact wpAny_pure h
theorem Co(bt:dU w=false)(g1:s.heap.get? a=some o)(g3:o.data= .set es ep t)(g4:t.fits es.size=true)(tk:dg (dU w) t)(pl:t.plain=true\/es.size<=1){i sl:Nat}{Q:Option (Value×Nat)->Shared->Prop}
  (h:Q (match es[SetTable.below t.place sl]?,t.place[SetTable.below t.place sl]? with|some (_,x),some j=>some (x,j+1)|_,_=>none) s):wpAny (model prog w) A (setNext a sl i ep) Q E s:=by
 unfold setNext
 refine wpAny_bind (wpAny_setState_of g1 g3 g4 ?_)
 dsimp only
 unfold setsByText
 refine wpAny_bind (wpAny_bind (wpAny_askSetting (wpAny_pure ?_)))
 show wpAny _ _ (if dU w=true then _ else _) _ _ _
 rw[bt,if_neg Bool.false_ne_true]
 show wpAny _ _ (if(!t.plain && decide (es.size>1))=true then _ else _) _ _ _
 rw[if_neg (by
  intro z
  rw[Bool.and_eq_true,Bool.not_eq_true',decide_eq_true_eq] at z
  rcases pl with p|p
  ·rw[p] at z;cases z.1
  ·omega)]
 refine wpAny_bind ?_
 show wpAny _ _ (if(!t.led && !es.isEmpty)=true then _ else _) _ _ _
 rw[if_neg (by rw[tk.led bt];simp)]
 refine wpAny_pure ?_
 exact wpAny_pure h
theorem GL(g1:s.heap.get? a=some o)(g3:o.data= .set es ep t)(g4:t.fits es.size=true){pl:Nat}{hx:Int}{x:Value}{Q:Value->Shared->Prop}(e:es[pl]?=some (hx,x))(h:Q x s):wpAny (model prog w) A (setNextDrawn a pl ep) Q E s:=by
 unfold setNextDrawn
 refine wpAny_bind (wpAny_setState_of g1 g3 g4 ?_)
 dsimp only
 rw[if_neg (by simp)]
 rw[e]
 exact wpAny_pure h
def gX(h:Heap)(it a:Addr)(first:Value)(i n ep:Nat):Prop:=∃o,h.get? it=some o/\o.cls= .type "set_iterator" /\o.data= .fields #[first, .int i 0, .ref a, .int n 0, .int ep 0]
theorem gX.ty{first:Value}{i n:Nat}(h:gX s.heap it a first i n ep):s.TypeIs (.ref it) "set_iterator":=let ⟨o,e,c,_⟩:=h;⟨o,e,c⟩
theorem qG{first:Value}{i n:Nat}{QQ:Fin->Shared->Prop}{EE:Value->Shared->Prop}(hit:gX s.heap it a first i n ep)(g1:s.heap.get? a=some o)(g3:o.data= .set es ep t)(g4:t.fits es.size=true)(hn:es.size=n)
    (h:wpAny (model prog w) A (match first with
      | .int slot _ => (do
        match<-setNext a slot.toNat i ep with
        | some (x, next) => do
          setField (.ref it) 0 (rawInt next)
          setField (.ref it) 1 (rawInt ((i:Int)+1))
          ret x
        | none => do
          setField (.ref it) 2 .none
          raiseNew (<-newExc (.type "StopIteration") []))
      | _ => (do
        let some places<-seqItems? first|unsupported "internal:set_iterator"
        match places[i]? with
        | some (.int place _) => do
          let x<-setNextDrawn a place.toNat ep
          setField (.ref it) 1 (rawInt ((i:Int)+1))
          ret x
        |some _=>unsupported "internal:set_iterator"
        | none => do
          setField (.ref it) 0 (rawInt 0)
          setField (.ref it) 2 .none
          raiseNew (<-newExc (.type "StopIteration") []))) QQ EE s):wpAny (model prog w) A (Builtin.«set_iterator.__next__» ⟨[.ref it],[]⟩) QQ EE s:=by
  obtain⟨oi,ho,hc,hd⟩:=hit
  unfold Builtin.«set_iterator.__next__»
  refine wpAny_bind (wpAny_pure ?_)
  refine wpAny_bind (wpAny_fieldsOf ho hd ?_)
  dsimp only
  refine wpAny_bind (wpAny_setEntries_of g1 g3 g4 ?_)
  rw[if_neg (by rw[hn];simp)]
  cases first<;>exact h
theorem pY{h:Heap}{first:Value}{i n k:Nat}{x:Value}{oi:Obj}{vs:Array Value}(ho:h.get? it=some oi)(hc:oi.cls= .type "set_iterator")(hd:oi.data= .fields vs):
  (h.update it (Obj.mapFields (·.setIfInBounds k x))).get? it=some (Obj.mapFields (·.setIfInBounds k x) oi)/\(Obj.mapFields (·.setIfInBounds k x) oi).cls= .type "set_iterator" /\(Obj.mapFields (·.setIfInBounds k x) oi).data= .fields (vs.setIfInBounds k x):=by
 refine⟨Heap.get?_update_self _ ho (Obj.isFreed_of_fields (Obj.data_mapFields hd _)),(Obj.cls_mapFields ..).trans hc,Obj.data_mapFields hd _⟩
theorem En{sl i n nx:Nat}{x:Value}{Q:Option Value->Shared->Prop}(hit:gX s.heap it a (.int sl 0) i n ep)(g1:s.heap.get? a=some o)(g3:o.data= .set es ep t)(g4:t.fits es.size=true)(hn:es.size=n)
  (hN:∀(Q:Option (Value×Nat)->Shared->Prop) (E:Value->Shared->Prop),Q (some (x,nx)) s->wpAny (model prog w) A.in1 (setNext a sl i ep) Q E s)
  (hQ:∀h',gX h' it a (.int nx 0) (i+1) n ep->(∀b,b≠it->h'.get? b=s.heap.get? b)->Q (some x) {s with heap:=h'}):wpAny (model prog w) A (pyNext (.ref it)) Q E s:=by
 obtain⟨oi,ho,hc,hd⟩:=id hit
 unfold pyNext
 refine wpAny_bind (wpAny_attempt (wpAny_callSpecial?_slot (name:=Str.ofString "__next__") hit.ty gD (wpAny_call_entry gD hit.ty sG ?_ (qp _))))
 refine qG hit g1 g3 g4 hn ?_
 dsimp only
 refine wpAny_bind (hN _ _ ?_)
 dsimp only
 obtain⟨u1,u2,u3⟩:=pY (first:= .none) (i:=0) (n:=0) (k:=0) (x:=rawInt nx) ho hc hd
 obtain⟨w1,w2,w3⟩:=pY (first:= .none) (i:=0) (n:=0) (k:=1) (x:=rawInt ((i:Int)+1)) u1 u2 u3
 refine wpAny_bind (wpAny_setField ho hd (by simp) ?_)
 refine wpAny_bind (wpAny_setField u1 u3 (by simp) ?_)
 refine wpAny_pure ⟨x,rfl,wpAny_pure (hQ _ ⟨_,w1,w2,?_⟩ fun b hb=>?_)⟩
 ·rw[w3];simp[rawInt]
 ·exact((Heap.get?_update_other _ _ (Ne.symm hb))).trans (Heap.get?_update_other _ _ (Ne.symm hb))
theorem De{QQ:Fin->Shared->Prop}{B:Around}{Q:Option Value->Shared->Prop}(hh:B.handled=none)(hQ:∀o1 o2,Q none {s with heap:=(s.heap.push o1).push o2}):wpAny (model prog w) B (do raiseNew (<-newExc (.type "StopIteration") [])) QQ
  (fun e s'=>wpAny (model prog w) A (do if<-isInstance e (.type "StopIteration") then pure none else throw e) Q E s') s:=by
 refine wpAny_bind ?_
 simp only[newExc,newTuple]
 refine wpAny_bind (wpAny_newObj_type ?_ (by size_fits))
 refine wpAny_bind (m:=firstArgMember _ _) (wpAny_of_eq (a:=Value.none) (by first|rfl|(simp only[firstArgMember];rfl)) (wpAny_newObj_type ?_ (by size_fits)))
 simp only[raiseNew]
 refine wpAny_bind (wpAny_handled ?_)
 rw[hh]
 refine wpAny_bind (wpAny_pure (wpAny_throw ?_))
 refine wpAny_bind (wpAny_isInstance (b:=true) (T:="StopIteration") ⟨_,Heap.get?_push_size _ rfl,rfl⟩ isSubtype_stop ?_)
 exact wpAny_pure (hQ _ _)
theorem CO{sl i n:Nat}{Q:Option Value->Shared->Prop}(hh:A.handled=none)(hit:gX s.heap it a (.int sl 0) i n ep)(g1:s.heap.get? a=some o)(g3:o.data= .set es ep t)(g4:t.fits es.size=true)(hn:es.size=n)
  (hN:∀(Q:Option (Value×Nat)->Shared->Prop) (E:Value->Shared->Prop),Q none s->wpAny (model prog w) A.in1 (setNext a sl i ep) Q E s)
  (hQ:∀h',(∀b o,b≠it->s.heap.get? b=some o->h'.get? b=some o)->Q none {s with heap:=h'}):wpAny (model prog w) A (pyNext (.ref it)) Q E s:=by
 obtain⟨oi,ho,hc,hd⟩:=id hit
 unfold pyNext
 refine wpAny_bind (wpAny_attempt (wpAny_callSpecial?_slot (name:=Str.ofString "__next__") hit.ty gD (wpAny_call_entry gD hit.ty sG ?_ (qp _))))
 refine qG hit g1 g3 g4 hn ?_
 dsimp only
 refine wpAny_bind (hN _ _ ?_)
 dsimp only
 refine wpAny_bind (wpAny_setField ho hd (by simp) ?_)
 exact De (B:=A.in1) hh fun o1 o2=>hQ _ fun b o hb e=>Heap.get?_push_of_some _ (Heap.get?_push_of_some _ ((Heap.get?_update_other _ _ (Ne.symm hb)).trans e))
theorem Qz{i n pl:Nat}{hx:Int}{x:Value}{pL:Array Value}{Q:Option Value->Shared->Prop}(hit:gX s.heap it a (.ref tp) i n ep)(g1:s.heap.get? a=some o)(g3:o.data= .set es ep t)(g4:t.fits es.size=true)(hn:es.size=n)
  (htp:∃ot m,s.heap.get? tp=some ot/\ot.data= .seq pL m) (hp:pL[i]?=some (.int pl 0)) (he:es[pl]?=some (hx,x))
  (hQ:∀h',gX h' it a (.ref tp) (i+1) n ep->(∀b,b≠it->h'.get? b=s.heap.get? b)->Q (some x) {s with heap:=h'}):wpAny (model prog w) A (pyNext (.ref it)) Q E s:=by
 obtain⟨oi,ho,hc,hd⟩:=id hit
 obtain⟨ot,m,t1,t2⟩:=htp
 unfold pyNext
 refine wpAny_bind (wpAny_attempt (wpAny_callSpecial?_slot (name:=Str.ofString "__next__") hit.ty gD (wpAny_call_entry gD hit.ty sG ?_ (qp _))))
 refine qG hit g1 g3 g4 hn ?_
 dsimp only
 refine wpAny_bind (wpAny_seqItems t1 t2 ?_)
 dsimp only
 rw[hp]
 dsimp only
 refine wpAny_bind (GL g1 g3 g4 (by simpa using he) ?_)
 obtain⟨w1,w2,w3⟩:=pY (first:= .none) (i:=0) (n:=0) (k:=1) (x:=rawInt ((i:Int)+1)) ho hc hd
 refine wpAny_bind (wpAny_setField ho hd (by simp) (wpAny_pure ⟨x,rfl,wpAny_pure (hQ _ ⟨_,w1,w2,?_⟩ fun b hb=>Heap.get?_update_other _ _ (Ne.symm hb))⟩))
 rw[w3];simp[rawInt]
theorem Qm{i n:Nat}{pL:Array Value}{Q:Option Value->Shared->Prop}(hh:A.handled=none)(hit:gX s.heap it a (.ref tp) i n ep)(g1:s.heap.get? a=some o)(g3:o.data= .set es ep t)(g4:t.fits es.size=true)(hn:es.size=n)
  (htp:∃ot m,s.heap.get? tp=some ot/\ot.data= .seq pL m) (hp:pL[i]?=none)
  (hQ:∀h',(∀b o,b≠it->s.heap.get? b=some o->h'.get? b=some o)->Q none {s with heap:=h'}):wpAny (model prog w) A (pyNext (.ref it)) Q E s:=by
 obtain⟨oi,ho,hc,hd⟩:=id hit
 obtain⟨ot,m,t1,t2⟩:=htp
 unfold pyNext
 refine wpAny_bind (wpAny_attempt (wpAny_callSpecial?_slot (name:=Str.ofString "__next__") hit.ty gD (wpAny_call_entry gD hit.ty sG ?_ (qp _))))
 refine qG hit g1 g3 g4 hn ?_
 dsimp only
 refine wpAny_bind (wpAny_seqItems t1 t2 ?_)
 dsimp only
 rw[hp]
 dsimp only
 obtain⟨u1,u2,u3⟩:=pY (first:= .none) (i:=0) (n:=0) (k:=0) (x:=rawInt 0) ho hc hd
 refine wpAny_bind (wpAny_setField ho hd (by simp) (wpAny_bind (wpAny_setField u1 u3 (by simp) ?_)))
 exact De (B:=A.in1) hh fun o1 o2=>hQ _ fun b o hb e=>Heap.get?_push_of_some _ (Heap.get?_push_of_some _ ((Heap.get?_update_other _ _ (Ne.symm hb)).trans ((Heap.get?_update_other _ _ (Ne.symm hb)).trans e)))
end
end L2
set_option maxRecDepth 100000
set_option maxHeartbeats 4000000
namespace L2
open PySem PySem.Spec PyProof.Rows
def slotAt(xs:Array Nat):Nat->Nat
 |0=>0
 |i+1=>xs.getD i 0+1
theorem O4(xs:Array Nat):slotAt xs 0=0:=rfl
theorem DT(xs:Array Nat)(i:Nat):slotAt xs (i+1)=xs.getD i 0+1:=rfl
theorem Dl{xs:Array Nat}(hr:ig xs){i:Nat}(hi:i<=xs.size):SetTable.below xs (slotAt xs i)=i:=by
  obtain⟨h1,h2,h3⟩:=below_at (q:=slotAt xs i) hr
  have g:∀{j:Nat},j<xs.size->∃y,xs[j]?=some y/\xs.getD j 0=y:=fun{j} hj=>⟨xs[j],Array.getElem?_eq_getElem hj,by rw[Array.getD_eq_getD_getElem?,Array.getElem?_eq_getElem hj];rfl⟩
  rcases Nat.lt_trichotomy (SetTable.below xs (slotAt xs i)) i with z|z|z
  · obtain⟨y,e,_⟩:=g (Nat.lt_of_lt_of_le z hi)
    have:=h3 _ y (Nat.le_refl _) e
    cases i with
    |zero=>omega
    | succ i =>
      obtain⟨y',e',d'⟩:=g (j:=i) (by omega)
      have es:=DT xs i
      rw[d'] at es
      rcases Nat.lt_or_eq_of_le (Nat.le_of_lt_succ z) with z|z
      · have:=hr _ _ _ _ z e e';omega
      · rw[z,e'] at e;cases e;omega
  · exact z
  · obtain⟨y,e,d⟩:=g (j:=i) (by omega)
    have:=h2 i y z e
    cases i with
    |zero=>rw[O4] at this;omega
    | succ i =>
      obtain⟨y',e',d'⟩:=g (j:=i) (by omega)
      rw[DT,d'] at this
      have:=hr i (i+1) _ _ (by omega) e' e
      omega
section
variable{prog:Program}{w:World}{a I tp:Addr}{o:Obj}{es:Array (Int×Value)}{ep:Nat}{t:SetTable}
theorem Ez(h:t.fits es.size=true):t.place.size=es.size:=by
 unfold SetTable.fits at h
 rw[Bool.and_eq_true] at h
 exact eq_of_beq h.1
theorem RA{A:Around}(hh:A.handled=none)(bt:dU w=true)(g3:o.data= .set es ep t)(g4:t.fits es.size=true)(hne:a≠I):
  Walks prog w A I [I,a] [I] es.size (fun i v=>((pickOrder (w.params.setOrder a ep) es).toList.map (·.2))[i]?=some v) (fun i h=>gX h I a (.int (0:Nat) 0) i es.size ep/\h.get? a=some o) where
 sub:=fun b hb=>by simp at hb;simp[hb]
 frame:=fun i h h' st hk=>by
  obtain⟨⟨oi,h1,h2,h3⟩,h4⟩:=st
  exact⟨⟨oi,hk I (by simp) _ h1,h2,h3⟩,hk a (by simp) _ h4⟩
 item:=fun i s Q E hi st hQ=>by
  have hsz:(pickOrder (w.params.setOrder a ep) es).toList.length=es.size:=by
   have:=(vn (w.params.setOrder a ep) es.size 0 es.toList #[] (by simp)).length_eq
   simpa[pickOrder] using this
  have hlt:i<(pickOrder (w.params.setOrder a ep) es).toList.length:=by omega
  have e1:(pickOrder (w.params.setOrder a ep) es)[i]?=some (pickOrder (w.params.setOrder a ep) es).toList[i]:=by rw[<-Array.getElem?_toList];exact List.getElem?_eq_getElem hlt
  refine En st.1 st.2 g3 g4 rfl (x:=(pickOrder (w.params.setOrder a ep) es).toList[i].2) (nx:=0) (fun Q E q=>C3 bt st.2 g3 g4 (by rw[e1];exact q)) fun h' x1 x2=>?_
  refine hQ _ h' s.toks (by rw[List.getElem?_map,List.getElem?_eq_getElem hlt];rfl) ⟨x1,(x2 a hne).trans st.2⟩ fun b o' hb e=>(x2 b (fun z=>hb (by simp[z]))).trans e
 done:=fun s Q E st hQ=>by
  have hsz:(pickOrder (w.params.setOrder a ep) es).toList.length=es.size:=by
   have:=(vn (w.params.setOrder a ep) es.size 0 es.toList #[] (by simp)).length_eq
   simpa[pickOrder] using this
  refine CO hh st.1 st.2 g3 g4 rfl (fun Q E q=>C3 bt st.2 g3 g4 (by rw[<-Array.getElem?_toList,List.getElem?_eq_none (by omega)];exact q)) fun h' x1=>hQ h' s.toks fun b o' hb e=>x1 b o' (fun z=>hb (by simp[z])) e
 self:=fun i s Q E st hQ=>by
  refine wpAny_pyIter_slot st.1.ty mC (wpAny_call_entry mC st.1.ty xj ?_ (uO _))
  exact wpAny_pure ⟨_,rfl,"set_iterator",_,st.1.ty,gD.lookup,hQ⟩
theorem Om{A:Around}(hh:A.handled=none)(bt:dU w=false)(g3:o.data= .set es ep t)(g4:t.fits es.size=true)(tk:dg (dU w) t)(pl:t.plain=true\/es.size<=1)(hne:a≠I):
  Walks prog w A I [I,a] [I] es.size (fun i v=>(es.toList.map (·.2))[i]?=some v) (fun i h=>gX h I a (.int (slotAt t.place i) 0) i es.size ep/\h.get? a=some o) where
 sub:=fun b hb=>by simp at hb;simp[hb]
 frame:=fun i h h' st hk=>by
  obtain⟨⟨oi,h1,h2,h3⟩,h4⟩:=st
  exact⟨⟨oi,hk I (by simp) _ h1,h2,h3⟩,hk a (by simp) _ h4⟩
 item:=fun i s Q E hi st hQ=>by
  have hps:=Ez g4
  have hr:ig t.place:=by
   rcases pl with p|p
   ·exact tk.vv p
   ·intro i j x y hij ex ey
    have:=(Array.getElem?_eq_some_iff.mp ey).1;omega
  have hlt:i<es.toList.length:=by simpa using hi
  have e1:es[i]?=some es.toList[i]:=by rw[<-Array.getElem?_toList];exact List.getElem?_eq_getElem hlt
  have e2:t.place[i]?=some (t.place.getD i 0):=by rw[Array.getD_eq_getD_getElem?,Array.getElem?_eq_getElem (by omega)];rfl
  refine En st.1 st.2 g3 g4 rfl (x:=es.toList[i].2) (nx:=slotAt t.place (i+1)) (fun Q E q=>Co bt st.2 g3 g4 tk pl (by rw[Dl hr (by omega),e1,e2];exact q)) fun h' x1 x2=>?_
  refine hQ _ h' s.toks (by rw[List.getElem?_map,List.getElem?_eq_getElem hlt];rfl) ⟨x1,(x2 a hne).trans st.2⟩ fun b o' hb e=>(x2 b (fun z=>hb (by simp[z]))).trans e
 done:=fun s Q E st hQ=>by
  have hps:=Ez g4
  have hr:ig t.place:=by
   rcases pl with p|p
   ·exact tk.vv p
   ·intro i j x y hij ex ey
    have:=(Array.getElem?_eq_some_iff.mp ey).1;omega
  refine CO hh st.1 st.2 g3 g4 rfl (fun Q E q=>Co bt st.2 g3 g4 tk pl (by rw[Dl hr (by omega),Array.getElem?_eq_none (Nat.le_refl _)];exact q)) fun h' x1=>hQ h' s.toks fun b o' hb e=>x1 b o' (fun z=>hb (by simp[z])) e
 self:=fun i s Q E st hQ=>by
  refine wpAny_pyIter_slot st.1.ty mC (wpAny_call_entry mC st.1.ty xj ?_ (uO _))
  exact wpAny_pure ⟨_,rfl,"set_iterator",_,st.1.ty,gD.lookup,hQ⟩
theorem Vx{A:Around}{ks:List Nat}(hh:A.handled=none)(g3:o.data= .set es ep t)(g4:t.fits es.size=true)(hk:ks.Perm (List.range es.size))(hne:a≠I)(hnt:tp≠I):
    Walks prog w A I [I,a,tp] [I] es.size (fun i v=>((ks.filterMap (es[·]?)).map (·.2))[i]?=some v) (fun i h=>gX h I a (.ref tp) i es.size ep/\h.get? a=some o/\∃ot m,h.get? tp=some ot/\ot.data= .seq (ks.map fun(k:Nat)=>rawInt k).toArray m) where
  sub:=fun b hb=>by simp at hb;simp[hb]
  frame:=fun i h h' st hk=>by
    obtain⟨⟨oi,h1,h2,h3⟩,h4,ot,m,h5,h6⟩:=st
    exact⟨⟨oi,hk I (by simp) _ h1,h2,h3⟩,hk a (by simp) _ h4,ot,m,hk tp (by simp) _ h5,h6⟩
  item:=fun i s Q E hi st hQ=>by
    have hlen:ks.length=es.size:=by rw[hk.length_eq];simp
    have hin:∀k∈ks,k<es.size:=fun k m=>by simpa using hk.mem_iff.mp m
    have hi':i<ks.length:=by omega
    have hki:=hin ks[i] (List.getElem_mem hi')
    have e1:es[ks[i]]?=some es[ks[i]]:=Array.getElem?_eq_getElem hki
    have fm:∀(l:List Nat),(∀k∈l,k<es.size)->∀j (hj:j<l.length),(l.filterMap (es[·]?))[j]?=es[l[j]]?:=by
      intro l
      induction l with
      |nil=>intro _ j hj;simp at hj
      | cons b r ih =>
        intro hl j hj
        have hb:=hl b (List.mem_cons_self ..)
        rw[List.filterMap_cons,Array.getElem?_eq_getElem hb]
        cases j with
        |zero=>simp[Array.getElem?_eq_getElem hb]
        |succ j=>simpa using ih (fun k m=>hl k (List.mem_cons_of_mem _ m)) j (by simpa using hj)
    refine Qz st.1 st.2.1 g3 g4 rfl st.2.2 (pl:=ks[i]) (hx:=es[ks[i]].1) (x:=es[ks[i]].2) (by simp[List.getElem?_eq_getElem hi',rawInt]) e1 fun h' x1 x2=>?_
    obtain⟨ot,m,t1,t2⟩:=st.2.2
    refine hQ _ h' s.toks ?_ ⟨x1,(x2 a hne).trans st.2.1,ot,m,(x2 tp hnt).trans t1,t2⟩ fun b o' hb e=>(x2 b (fun z=>hb (by simp[z]))).trans e
    rw[List.getElem?_map,fm ks hin i hi',e1];rfl
  done:=fun s Q E st hQ=>by
    have hlen:ks.length=es.size:=by rw[hk.length_eq];simp
    exact Qm hh st.1 st.2.1 g3 g4 rfl st.2.2 (by simp;omega) fun h' x1=>hQ h' s.toks fun b o' hb e=>x1 b o' (fun z=>hb (by simp[z])) e
  self:=fun i s Q E st hQ=>by
    refine wpAny_pyIter_slot st.1.ty mC (wpAny_call_entry mC st.1.ty xj ?_ (uO _))
    exact wpAny_pure ⟨_,rfl,"set_iterator",_,st.1.ty,gD.lookup,hQ⟩
end
section
variable{prog:Program}{w:World}{A:Around}{E:Value->Shared->Prop}{s:Shared}{a:Addr}{o:Obj}{es:Array (Int×Value)}{ep:Nat}{t:SetTable}
theorem BS{α:Type}:∀l:List α,(List.range l.length).filterMap (fun i=>l[i]?)=l
  |[]=>rfl
  | x :: l => by
    have:=BS l
    rw[List.length_cons,List.range_succ_eq_map,List.filterMap_cons,List.filterMap_map]
    simpa[Function.comp_def] using this
theorem LU{src:Source}{n:Nat}{Q:Nat->Shared->Prop}(hn:n≠0)(h:∀i d',i<n->Q i {s with drawn:=d'}):wpAny (model prog w) A (choose src n) Q E s:=fun Γ p _=>⟨hn,h _ _ (Nat.mod_lt _ (Nat.pos_of_ne_zero hn))⟩
theorem FG{α:Type}:∀(n:Nat) (xs:List α) (s:Shared) (Q:List α->Shared->Prop),xs.length<=n->(∀ks d',ks.Perm xs->Q ks {s with drawn:=d'})->wpAny (model prog w) A (drawOrder n xs) Q E s
  | 0, xs, s, Q, hl, h => by
    have:xs=[]:=List.length_eq_zero_iff.mp (by omega)
    subst this
    unfold drawOrder
    exact wpAny_pure (h [] s.drawn .nil)
  | n + 1, [], s, Q, hl, h => by
    unfold drawOrder
    exact wpAny_pure (h [] s.drawn .nil)
  | n + 1, x :: xs, s, Q, hl, h => by
    unfold drawOrder
    refine wpAny_bind (LU (by simp) fun i d' hi=>?_)
    rw[List.getElem?_eq_getElem hi]
    dsimp only
    refine wpAny_bind (FG n _ _ _ (by rw[List.length_eraseIdx_of_lt hi];simp at hl⊢;omega) fun ks d2 hk=>?_)
    exact wpAny_pure (h _ d2 ((hk.cons _).trans (yS hi)))
theorem GC(g1:s.heap.get? a=some o)(g3:o.data= .set es ep t)(g4:t.fits es.size=true){Q:Bool->Shared->Prop}(h:Q (!dU w &&(!t.plain && decide (es.size>1))) s):wpAny (model prog w) A (setDrawn a) Q E s:=by
 unfold setDrawn
 refine wpAny_bind (wpAny_setState_of g1 g3 g4 ?_)
 dsimp only
 unfold setsByText
 refine wpAny_bind (wpAny_bind (wpAny_askSetting (wpAny_pure ?_)))
 exact wpAny_pure h
theorem DN(g1:s.heap.get? a=some o)(g3:o.data= .set es ep t)(g4:t.fits es.size=true){Q:Nat->Shared->Prop}(h:Q ep s):wpAny (model prog w) A (setEpoch a) Q E s:=by
 unfold setEpoch
 exact wpAny_bind (wpAny_setState_of g1 g3 g4 (wpAny_pure h))
theorem Gz{Q:Value->Shared->Prop}(hb:es.size<scanBound)(g1:s.heap.get? a=some o)(g2:o.ExactSet)(g3:o.data= .set es ep t)(g4:t.fits es.size=true)(tk:dg (dU w) t)
    (hQ:∀(I:Addr) (h':Heap) d' (items:List Value) (fp:List Addr) (St:Nat->Heap->Prop),(∀b o,s.heap.get? b=some o->h'.get? b=some o)->s.heap.objs.size<=I->(∀b∈fp,b=a\/s.heap.objs.size<=b)->I∈fp->(∀b∈fp,b<h'.objs.size)->items.Perm (es.toList.map (·.2))->
      (∀B:Around,B.handled=none->Walks prog w B I fp [I] items.length (fun i v=>items[i]?=some v) St)->St 0 h'->Q (.ref I) {s with heap:=h',drawn:=d'}):wpAny (model prog w) A (pyIter (.ref a)) Q E s:=by
  have hT:s.TypeIs (.ref a) "set":=⟨o,g1,g2.1⟩
  have hlt:=Heap.lt_size g1
  refine wpAny_pyIter_slot hT Dq (wpAny_call_entry Dq hT P5 ?_ (MF _))
  unfold Builtin.«frozenset.__iter__»
  unfold Builtin.Frozenset.slot0 slotArgs
  simp only[List.isEmpty_nil,Bool.not_true,Bool.false_eq_true,↓reduceIte,bind_assoc,List.length_nil,bne_self_eq_false]
  unfold Builtin.Frozenset.addrOf Builtin.Frozenset.sizeOf
  refine wpAny_bind (wpAny_pure ?_)
  try dsimp only
  refine wpAny_bind (wpAny_pure ?_)
  refine wpAny_bind (wpAny_bind (wpAny_setEntries_of g1 g3 g4 (wpAny_pure ?_)))
  refine wpAny_bind (GC g1 g3 g4 ?_)
  by_cases c:(!dU w &&(!t.plain && decide (es.size>1)))=true
  · rw[if_pos c]
    refine wpAny_bind (FG es.size (List.range es.size) s _ (by simp) fun ks d' hk=>?_)
    unfold newTuple
    refine wpAny_bind (wpAny_newObj_type ?_ ?_)
    rotate_left
    · have hk0:ks.length=es.size:=by rw[hk.length_eq];simp
      show(List.map (fun(i:Nat)=>rawInt i) ks).toArray.size<=sizeLine
      rw[List.size_toArray,List.length_map,hk0]
      exact fits_of_scanBound hb
    have n9:=Heap.get?_push_of_some ({cls:= .type "tuple",data:= .seq (ks.map fun(i:Nat)=>rawInt i).toArray}:Obj) g1
    refine wpAny_bind (DN (s:={s with heap:=_,drawn:=d'}) n9 g3 g4 ?_)
    unfold newFields
    refine wpAny_bind (wpAny_newObj_type ?_)
    have hk0:ks.length=es.size:=by rw[hk.length_eq];simp
    have fin:=hQ
    clear hQ
    have jv:(s.heap.push ({cls:= .type "tuple",data:= .seq (ks.map fun(i:Nat)=>rawInt i).toArray}:Obj)).objs.size=s.heap.objs.size+1:=Heap.size_push ..
    have gT:(s.heap.push ({cls:= .type "tuple",data:= .seq (ks.map fun(i:Nat)=>rawInt i).toArray}:Obj)).get? s.heap.objs.size=some {cls:= .type "tuple",data:= .seq (ks.map fun(i:Nat)=>rawInt i).toArray}:=Heap.get?_push_size _ rfl
    have gO:∀b o,s.heap.get? b=some o->(s.heap.push ({cls:= .type "tuple",data:= .seq (ks.map fun(i:Nat)=>rawInt i).toArray}:Obj)).get? b=some o:=fun b o e=>Heap.get?_push_of_some _ e
    generalize Pu:s.heap.push ({cls:= .type "tuple",data:= .seq (ks.map fun(i:Nat)=>rawInt i).toArray}:Obj)=h1 at n9 jv gT gO⊢
    have gI:(h1.push ({cls:= .type "set_iterator",data:= .fields #[.ref s.heap.objs.size,rawInt 0, .ref a,rawInt es.size,rawInt ep]}:Obj)).get? h1.objs.size=some {cls:= .type "set_iterator",data:= .fields #[.ref s.heap.objs.size,rawInt 0, .ref a,rawInt es.size,rawInt ep]}:=Heap.get?_push_size _ rfl
    have gS:=Heap.get?_push_of_some ({cls:= .type "set_iterator",data:= .fields #[.ref s.heap.objs.size,rawInt 0, .ref a,rawInt es.size,rawInt ep]}:Obj) n9
    have SG:=Heap.get?_push_of_some ({cls:= .type "set_iterator",data:= .fields #[.ref s.heap.objs.size,rawInt 0, .ref a,rawInt es.size,rawInt ep]}:Obj) gT
    have VR:(h1.push ({cls:= .type "set_iterator",data:= .fields #[.ref s.heap.objs.size,rawInt 0, .ref a,rawInt es.size,rawInt ep]}:Obj)).objs.size=h1.objs.size+1:=Heap.size_push ..
    subst Pu
    refine wpAny_pure ⟨_,rfl,"set_iterator",_,⟨_,gI,rfl⟩,gD.lookup,?_⟩
    have pp:(ks.filterMap (es[·]?)).Perm es.toList:=by
      have:=hk.filterMap (es[·]?)
      have e:(List.range es.size).filterMap (es[·]?)=es.toList:=by
        have:=BS es.toList
        simpa using this
      rwa[e] at this
    have hn:((ks.filterMap (es[·]?)).map (·.2)).length=es.size:=by rw[List.length_map,pp.length_eq];simp
    have lQ:=Nat.lt_of_lt_of_eq (Nat.lt_succ_self s.heap.objs.size) jv.symm
    refine fin _ _ d' ((ks.filterMap (es[·]?)).map (·.2)) [_,a,s.heap.objs.size] _ (fun b o e=>Heap.get?_push_of_some _ (gO b o e)) (Nat.le_of_lt lQ) (fun b m=>?_) (List.mem_cons_self ..) (fun b m=>?_) (pp.map _) (fun B hB=>by rw[hn];exact Vx hB g3 g4 hk (Nat.ne_of_lt (Nat.lt_trans hlt lQ)) (Nat.ne_of_lt lQ)) ?_
    · rcases List.mem_cons.mp m with e|m
      · exact .inr (by rw[e];exact Nat.le_of_lt lQ)
      · rcases List.mem_cons.mp m with e|m
        · exact .inl e
        · exact .inr (Nat.le_of_eq (List.mem_singleton.mp m).symm)
    · refine Nat.lt_of_lt_of_eq ?_ VR.symm
      rcases List.mem_cons.mp m with e|m
      · rw[e];exact Nat.lt_succ_self _
      · rcases List.mem_cons.mp m with e|m
        · rw[e];exact Nat.lt_succ_of_lt (Nat.lt_trans hlt lQ)
        · rw[List.mem_singleton.mp m];exact Nat.lt_succ_of_lt lQ
    · exact⟨⟨_,gI,rfl,rfl⟩,gS,_,_,SG,rfl⟩
  · rw[if_neg c]
    refine wpAny_bind (wpAny_pure ?_)
    refine wpAny_bind (DN g1 g3 g4 ?_)
    unfold newFields
    refine wpAny_bind (wpAny_newObj_type ?_)
    have gI:(s.heap.push ({cls:= .type "set_iterator",data:= .fields #[rawInt 0,rawInt 0, .ref a,rawInt es.size,rawInt ep]}:Obj)).get? s.heap.objs.size=some {cls:= .type "set_iterator",data:= .fields #[rawInt 0,rawInt 0, .ref a,rawInt es.size,rawInt ep]}:=Heap.get?_push_size _ rfl
    have gS:=Heap.get?_push_of_some ({cls:= .type "set_iterator",data:= .fields #[rawInt 0,rawInt 0, .ref a,rawInt es.size,rawInt ep]}:Obj) g1
    have hfp:∀b∈[s.heap.objs.size,a],b=a\/s.heap.objs.size<=b:=fun b m=>by
      rcases List.mem_cons.mp m with e|m
      · exact .inr (Nat.le_of_eq e.symm)
      · exact .inl (List.mem_singleton.mp m)
    have hsz:(s.heap.push ({cls:= .type "set_iterator",data:= .fields #[rawInt 0,rawInt 0, .ref a,rawInt es.size,rawInt ep]}:Obj)).objs.size=s.heap.objs.size+1:=Heap.size_push ..
    have Ej:∀b∈[s.heap.objs.size,a],b<(s.heap.push ({cls:= .type "set_iterator",data:= .fields #[rawInt 0,rawInt 0, .ref a,rawInt es.size,rawInt ep]}:Obj)).objs.size:=fun b m=>by
      rw[hsz]
      rcases List.mem_cons.mp m with e|m
      · rw[e];exact Nat.lt_succ_self _
      · rw[List.mem_singleton.mp m];exact Nat.lt_succ_of_lt hlt
    refine wpAny_pure ⟨_,rfl,"set_iterator",_,⟨_,gI,rfl⟩,gD.lookup,?_⟩
    cases bt:dU w with
    | true =>
      have pp:(pickOrder (w.params.setOrder a ep) es).toList.Perm es.toList:=by simpa[pickOrder] using vn (w.params.setOrder a ep) es.size 0 es.toList #[] (by simp)
      have hn:((pickOrder (w.params.setOrder a ep) es).toList.map (·.2)).length=es.size:=by rw[List.length_map,pp.length_eq];simp
      refine hQ _ _ s.drawn ((pickOrder (w.params.setOrder a ep) es).toList.map (·.2)) [s.heap.objs.size,a] _ (fun b o e=>Heap.get?_push_of_some _ e) (Nat.le_refl _) hfp (by simp) Ej (pp.map _) (fun B hB=>by rw[hn];exact RA hB bt g3 g4 (Nat.ne_of_lt hlt)) ?_
      exact⟨⟨_,gI,rfl,rfl⟩,gS⟩
    | false =>
      have pl:t.plain=true\/es.size<=1:=by
        rw[bt,Bool.not_false,Bool.true_and] at c
        cases hp:t.plain with
        |true=>exact .inl rfl
        | false =>
          rw[hp,Bool.not_false,Bool.true_and,decide_eq_true_eq] at c
          exact .inr (by omega)
      have hn:(es.toList.map (·.2)).length=es.size:=by simp
      refine hQ _ _ s.drawn (es.toList.map (·.2)) [s.heap.objs.size,a] _ (fun b o e=>Heap.get?_push_of_some _ e) (Nat.le_refl _) hfp (by simp) Ej (.refl _) (fun B hB=>by rw[hn];exact Om hB bt g3 g4 tk pl (Nat.ne_of_lt hlt)) ?_
      exact⟨⟨_,gI,rfl,rfl⟩,gS⟩
end
end L2
set_option maxRecDepth 100000
set_option maxHeartbeats 4000000
namespace L2
open PySem PySem.Spec PyProof.Rows
section
variable{prog:Program}{w:World}{A:Around}{E:Value->Shared->Prop}{s:Shared}{a:Addr}{o:Obj}{es:Array (Int×Value)}{ep:Nat}{t:SetTable}
theorem QI{Q:Bool->Shared->Prop}(hT:s.TypeIs (.ref a) "set")(h:Q false s):wpAny (model prog w) A (Builtin.List.listLengthHint (.ref a)) Q E s:=by
 unfold Builtin.List.listLengthHint
 refine wpAny_bind (wpAny_specialOf hT PySem.F.slot_set_len.lookup ?_)
 generalize hid:("set.__len__":String)=id0
 wp_delta
 rw[show splitId id0=some ("set","__len__") from by subst hid;decide+kernel]
 subst hid
 refine wpAny_bind (wpAny_isInstance (b:=true) (T:="set") hT (by rw[isSubtype_type];kernel_rfl) ?_)
 refine wpAny_ite_split (fun z=>absurd z (by decide)) fun _=>wpAny_ite_split (fun _=>?_) fun z=>absurd (by decide+kernel) z
 exact wpAny_bind (wpAny_typeOf hT (wpAny_pure h))
theorem Ui{items:List Value}{acc:Array Value}(h:ItemsOf (fun i v=>items[i]?=some v) acc items.length):acc.toList=items:=by
 apply List.ext_getElem?
 intro i
 by_cases hi:i<acc.size
 ·have e:acc[i]?=some acc[i]:=Array.getElem?_eq_getElem hi
  rw[Array.getElem?_toList,e,h.2 i _ e]
 ·have:=h.1
  rw[List.getElem?_eq_none (by simp;omega),List.getElem?_eq_none (by omega)]
theorem Mi{Q:List Value->Shared->Prop}(hh:A.handled=none)(hb:es.size<scanBound)(g1:s.heap.get? a=some o)(g2:o.ExactSet)(g3:o.data= .set es ep t)(g4:t.fits es.size=true)(tk:dg (dU w) t)
  (hQ:∀h' d' tk' items,(∀b o,s.heap.get? b=some o->h'.get? b=some o)->s.heap.objs.size<=h'.objs.size->items.Perm (es.toList.map (·.2))->Q items {s with heap:=h',drawn:=d',toks:=tk'}):wpAny (model prog w) A (collect (.ref a)) Q E s:=by
 have hlt:=Heap.lt_size g1
 unfold collect
 refine wpAny_bind (wpAny_runValue (codeAny_builtin PySem.F.entry_proto_collect ?_))
 rw[Around.under_plainId PySem.F.plain_proto_collect _]
 show wpAny _ A.in1 (newList []>>=fun l=>again (.builtin "list.__iadd__" ⟨[l, .ref a],[]⟩)) _ _ s
 refine wpAny_bind (wpAny_newObj_type ?_)
 refine wpAny_pure ⟨plainId_quiet PySem.F.plain_list_iadd _,codeAny_builtin PySem.F.entry_list_iadd ?_⟩
 rw[Around.under_plainId PySem.F.plain_list_iadd _]
 have gL:(s.heap.push ({cls:= .type "list",data:= .seq ([]:List Value).toArray}:Obj)).get? s.heap.objs.size=some {cls:= .type "list",data:= .seq ([]:List Value).toArray}:=Heap.get?_push_size _ rfl
 have gA:=Heap.get?_push_of_some ({cls:= .type "list",data:= .seq ([]:List Value).toArray}:Obj) g1
 have Cp:(s.heap.push ({cls:= .type "list",data:= .seq ([]:List Value).toArray}:Obj)).objs.size=s.heap.objs.size+1:=Heap.size_push ..
 show wpAny _ A.in1 (Builtin.List.listExtendWith (.ref s.heap.objs.size) (.ref a) (.ref s.heap.objs.size)) _ _ {s with heap:=s.heap.push ({cls:= .type "list",data:= .seq ([]:List Value).toArray}:Obj)}
 have hkeep:∀b o,s.heap.get? b=some o->(s.heap.push ({cls:= .type "list",data:= .seq ([]:List Value).toArray}:Obj)).get? b=some o:=fun b o e=>Heap.get?_push_of_some _ e
 generalize s.heap.push ({cls:= .type "list",data:= .seq ([]:List Value).toArray}:Obj)=h1 at gL gA Cp hkeep⊢
 unfold Builtin.List.listExtendWith
 refine wpAny_bind (wpAny_typeOf (T:="set") ⟨o,gA,g2.1⟩ ?_)
 have n1:Builtin.List.listSameRef (.ref s.heap.objs.size) (.ref a)=false:=by
  show(s.heap.objs.size==a)=false
  exact beq_eq_false_iff_ne.mpr (Nat.ne_of_gt hlt)
 have n2:(Value.type "set"==Value.type "list")=false:=by decide
 have n3:(Value.type "set"==Value.type "tuple")=false:=by decide
 simp only[n1,n2,n3,Bool.or_false,Bool.false_eq_true,if_false]
 refine wpAny_bind (Gz (s:={s with heap:=h1}) hb gA g2 g3 g4 tk fun I h2 d' items fp St k1 k2 k3 k4 k5 pp W st=>?_)
 have Gn:=k1 _ _ gA
 have tQ:=k1 _ _ gL
 refine wpAny_bind (wpAny_holding (QI (s:={s with heap:=h2,drawn:=d'}) ⟨o,Gn,g2.1⟩ ?_))
 have lS:s.heap.objs.size<h1.objs.size:=Nat.lt_of_lt_of_eq (Nat.lt_succ_self _) Cp.symm
 have nS:s.heap.objs.size∉fp:=fun m=>by
  rcases k3 _ m with e|e
  ·exact absurd e (Nat.ne_of_gt hlt)
  ·exact absurd (Nat.lt_of_lt_of_le lS e) (Nat.lt_irrefl _)
 have hil:items.length<=sizeLine:=by
  rw[pp.length_eq,List.length_map,Array.length_toList];exact fits_of_scanBound hb
 have key:∀(h3:Heap) (c:Nat),St 0 h3->(∀b o,b≠s.heap.objs.size->h2.get? b=some o->h3.get? b=some o)->h3.get? s.heap.objs.size=some {cls:= .type "list",data:= .seq #[] c}->
   codeAny (model prog w) A (.builtin "list.extend.loop" ⟨[.ref s.heap.objs.size, .ref I, .ref s.heap.objs.size],[]⟩) (fun r s'=>match r with
    | .ok (.ret v)=>wpAny (model prog w) A (match v with| .ref x=>(do match(<-load x).data with| .seq xs _=>pure xs.toList|_=>unsupported "internal:collect")|_=>unsupported "internal:collect") Q E s'
    | .ok _=>False
    | .error e=>E e s') {s with heap:=h3,drawn:=d'}:=by
  intro h3 c st3 q1 q2
  refine codeAny_extend_loopS ((W A.in1 hh).toS) hil _ nS _ items.length 0 _ #[] c rfl (Nat.zero_le _) st3 q2 (ItemsOf.nil _) fun s' acc c' mo q3 q4=>?_
  refine wpAny_bind (wpAny_load q3 (wpAny_pure ?_))
  rw[Ui q4,Moved.eq_with mo]
  refine hQ s'.heap d' s'.toks items (fun b o e=>?_) ?_ pp
  ·have nb:b≠s.heap.objs.size:=Nat.ne_of_lt (Heap.lt_size e)
   refine mo.heap b o (fun m=>?_) (q1 b o nb (k1 b o (hkeep b o e)))
   rcases List.mem_cons.mp m with z|z
   ·exact nb z
   ·have z:=List.mem_singleton.mp z
    rw[z] at e
    exact absurd (Nat.lt_of_lt_of_le (Nat.lt_trans (Heap.lt_size e) lS) k2) (Nat.lt_irrefl _)
  ·exact Nat.le_of_lt (Heap.lt_size q3)
 refine wpAny_ite_split (fun _=>?_) fun _=>wpAny_pure ⟨plainId_quiet PySem.F.plain_extend_loop _,key h2 _ st (fun _ _ _ e=>e) tQ⟩
 refine wpAny_bind (wpAny_rule (wpAny_bind ?_))
 show wpAny _ A.in1 (updateSeq s.heap.objs.size (·.push .none)>>=fun _=>updateSeq s.heap.objs.size (·.pop)) _ _ _
 have u1:=Heap.get?_update_self (Obj.mapSeq (·.push Value.none)) tQ rfl
 have u2:=Heap.get?_update_self (Obj.mapSeq (·.pop)) u1 rfl
 refine wpAny_bind (wpAny_updateSeq tQ rfl (wpAny_updateSeq (hz:=by seq_fits) u1 rfl ?_))
 have iy:∀b o,b≠s.heap.objs.size->h2.get? b=some o->((h2.update s.heap.objs.size (Obj.mapSeq (·.push Value.none))).update s.heap.objs.size (Obj.mapSeq (·.pop))).get? b=some o:=fun b o nb e=>(Heap.get?_update_other _ _ (Ne.symm nb)).trans ((Heap.get?_update_other _ _ (Ne.symm nb)).trans e)
 exact wpAny_pure ⟨plainId_quiet PySem.F.plain_extend_loop _,key _ _ ((W A.in1 hh).frame 0 _ _ st fun b m o e=>iy b o (fun z=>nS (z▸m)) e) iy u2⟩
theorem Ed{ks:List Int->Prop}:∀{vs:List Value},(∀v∈vs,∃k t,v= .int k t)->∃ns,IntsAre vs ns
  |[],_=>⟨[], .nil⟩
  | v :: vs, h => by
    obtain⟨k,t,rfl⟩:=h v (List.mem_cons_self ..)
    obtain⟨ns,hn⟩:=Ed (ks:=ks) fun v m=>h v (List.mem_cons_of_mem _ m)
    exact⟨k::ns, .cons k t hn⟩
theorem Ft:∀{vs:List Value} {ns:List Int},IntsAre vs ns->∀k,k∈ns↔∃t, .int k t∈vs
  |_,_, .nil,k=>by simp
  | _, _, .cons j t h, k => by
    rw[List.mem_cons,Ft h k]
    constructor
    · rintro(rfl|⟨t',m⟩)
      · exact⟨_,List.mem_cons_self ..⟩
      · exact⟨t',List.mem_cons_of_mem _ m⟩
    · rintro⟨t',m⟩
      rcases List.mem_cons.mp m with e|m
      · cases e;exact .inl rfl
      · exact .inr ⟨t',m⟩
theorem Jv{S:Int->Bool}{n:Nat}{Q:Value->Shared->Prop}(hh:A.handled=none)(hS:s.heap.SetOf (IK prog w) a S n)(hT:eY (dU w) s.heap a)(h64:n<64)
  (h : ∀ h' d' tk' (l : Addr) (out : List Value) (ns : List Int) (e : Nat), (∀ b o, s.heap.get? b = some o -> h'.get? b = some o) -> s.heap.objs.size <= l -> h'.get? l = some (seqObj "list" out.toArray e) -> IntsAre out ns -> ns.Pairwise (· <= ·) -> (∀ k, S k = true ↔ k ∈ ns) -> ns.length = n ->
   Q (.ref l) {s with heap:=h',drawn:=d',toks:=tk'}):wpAny (model prog w) A (call (.builtin "sorted") [.ref a]) Q E s:=by
 obtain⟨o,es,ep,t,g1,g2,g3,l1,l2,l3,l4,sz⟩:=hS
 refine Calls.call_function_entry kind_sorted plain_sorted entry_sorted (args_sorted1 _) ?_
 unfold Builtin.«sorted»
 refine wpAny_bind (m:=checkCount "sorted" 1 1 _) (wpAny_pure (wpAny_bind ?_))
 refine Mi (A:=A.in1) hh l3 g1 g2 g3 l4 (hT o es ep t g1 g3) fun h1 d1 TZ items k1 k2 pp=>?_
 have hint:∀v∈items,∃k t,v= .int k t:=fun v m=>by
  obtain⟨e,m',rfl⟩:=List.mem_map.mp (pp.mem_iff.mp m)
  obtain⟨⟨k,hk,_⟩,_⟩:=l1 e m'
  obtain⟨t,ht⟩:=Value.isInt_shape hk
  exact⟨k,t,ht⟩
 obtain⟨ns,hI⟩:=Ed (ks:=fun _=>True) hint
 have hlen:items.length=n:=by rw[pp.length_eq,List.length_map,Array.length_toList,sz]
 refine wpAny_bind (wpAny_newList ?_)
 have gL:(h1.push (seqObj "list" items.toArray 0)).get? h1.objs.size=some (seqObj "list" items.toArray 0):=Heap.get?_push_size _ rfl
 refine wpAny_bind (wpAny_holding (wpAny_call_entry slot_list_sort ⟨_,gL,rfl⟩ entry_list_sort (list_sort_tree gL hI (by omega) fun out ns' a1 a2 a3=>⟨_,rfl,?_⟩) (args_list_sort _)))
 obtain⟨e,he⟩:=sortedHeap_at (out:=out) gL
 refine wpAny_pure ⟨_,rfl,h _ d1 TZ h1.objs.size out.toList ns' e (fun b o q=>?_) k2 (by simpa using he) a1 a3 (fun k=>?_) ?_⟩
 ·have lb:=Heap.lt_size (k1 b o q)
  rw[sortedHeap_old (Nat.ne_of_lt lb) (by rw[Heap.size_push];exact Nat.lt_succ_of_lt lb)]
  exact Heap.get?_push_of_some _ (k1 b o q)
 ·rw[a2.mem_iff,Ft hI,l2 k]
  constructor
  ·rintro⟨e,m,q⟩
   obtain⟨t,ht⟩:=Value.isInt_shape q
   exact⟨t,pp.mem_iff.mpr (ht▸List.mem_map.mpr ⟨e,m,rfl⟩)⟩
  ·rintro⟨t,m⟩
   obtain⟨e,m',q⟩:=List.mem_map.mp (pp.mem_iff.mp m)
   exact⟨e,m',by rw[q];exact intKind_is _ _ _ _⟩
 ·rw[a2.length_eq,<-hI.length,hlen]
end
end L2
set_option maxRecDepth 100000
set_option maxHeartbeats 4000000
namespace L2
open PySem PySem.Spec PyProof.Rows
def nR(P:Program)(w:World)(a:Addr)(S:Int->Bool)(n:Nat):HO:= .ext fun h=>h.SetOf (IK P w) a S n/\eY (dU w) h a
theorem Inv.dr{X:Cx}{pins:List (Addr×Obj)}{σ:St}{H:Hp}{s:Shared}(I:Inv X pins σ H s)(d:Drawn):Inv X pins σ H {s with drawn:=d}:=
 ⟨I.ok,I.os,I.bare,I.base,I.loc,I.cell,I.free,I.gF,I.pin,I.hok,I.len⟩
theorem tu:∀{ns:List Int} {us:List Value},Vals (ns.map V.int) us->IntsAre us ns
  |[],_, .nil=> .nil
  | n :: ns, _, .cons r t => by
    obtain⟨k,rfl⟩:=r
    exact .cons n k (tu t)
theorem AX:∀{us:List Value} {ns:List Int},IntsAre us ns->Vals (ns.map V.int) us
 |_,_, .nil=> .nil
 |_,_, .cons k t h=> .cons ⟨t,rfl⟩ (AX h)
theorem LQ{σ:List Int}{k:Int}(h:σ.Nodup):(step_dedup σ k).Nodup:=by
 unfold step_dedup
 split
 ·exact h
 ·rename_i q
  rw[List.nodup_append]
  refine⟨h,by simp,fun x hx y hy=>?_⟩
  rw[List.mem_singleton.mp hy]
  intro e
  subst e
  exact q (by simp[hx])
theorem CN(val:Nat->Int):∀i,(firstMet val i).Nodup
 |0=>List.nodup_nil
 |i+1=>by rw[firstMet_succ];exact LQ (CN val i)
theorem EL:∀{ds ns:List Int},ds.Nodup->(∀k∈ds,k∈ns)->ns.length<=ds.length->ds.Perm ns
  | [], ns, _, _, hl => by
    have:ns=[]:=List.length_eq_zero_iff.mp (by simpa using hl)
    rw[this]
  | d :: ds, ns, hd, hs, hl => by
    have hm:=hs d (List.mem_cons_self ..)
    obtain⟨h1,h2⟩:=List.nodup_cons.mp hd
    have hp:=List.perm_cons_erase hm
    refine(List.Perm.cons d (EL h2 (fun k hk=>?_) ?_)).trans hp.symm
    · rcases List.mem_cons.mp (hp.mem_iff.mp (hs k (List.mem_cons_of_mem _ hk))) with e|e
      · subst e;exact absurd hk h1
      · exact e
    · have:=hp.length_eq;simp at this hl⊢;omega
def z0(P:Program)(w:World)(K:PySem.W.Frag):List V->Hp->VK->Prop:=fun xs H Q=>∃p,∃ns:List Int,xs=[.ref p]/\aL K H p (ns.map V.int)/\ns.length<=4000/\∀a (ms:List Int),H a=none->ms.Nodup->(∀k,k∈ms↔k∈ns)->Q (.ref a) (upd H a (nR P w a (fun k=>ms.any (· ==k)) ms.length))
def wu(P:Program)(w:World):List V->Hp->VK->Prop:=fun xs H Q=>∃a,∃ms:List Int,xs=[.ref a]/\H a=some (nR P w a (fun k=>ms.any (· ==k)) ms.length)/\ms.Nodup/\ms.length<64/\
 ∀l (rs:List Int),H l=none->rs.Pairwise (· < ·)->(∀k,k∈rs↔k∈ms)->Q (.ref l) (upd H l (.lst (rs.map V.int)))
section
variable{X:Cx}
theorem MZ(hc:X.calm=true):fH X (.type "set") (z0 X.prog X.w X.K):=by
 intro pins s σ H xs us Q I rv h
 obtain⟨p,ns,rfl,hp,hn,q⟩:=h
 obtain⟨u,rfl,ru⟩:=vals1 rv
 cases ru
 obtain⟨its,rs,il,hz⟩:=I.list hp
 have hI:=tu rs
 have hlen:=hI.length
 refine M8 (I.ok.hd hc) il.isList (by simpa using hI) (by rw[List.size_toArray];unfold scanBound;omega) fun h' tk q1 q2 q3=>?_
 have hmem:∀k,k∈firstMet (fun i=>ns.getD i 0) its.toArray.size↔k∈ns:=fun k=>by
  have e:=firstMet_any (fun i=>ns.getD i 0) its.toArray.size k
  have e2:(List.range its.toArray.size).map (fun i=>ns.getD i 0)=ns:=by
   rw[List.size_toArray,hlen]
   apply List.ext_getElem
   ·simp
   ·intro i h1 h2
    simp[List.getD_eq_getElem?_getD,List.getElem?_eq_getElem h2]
  rw[e2] at e
  have a1:∀(l:List Int),(l.any (· ==k))=true↔k∈l:=fun l=>by
   rw[List.any_eq_true]
   exact⟨fun⟨x,m,z⟩=>(beq_iff_eq.mp z)▸m,fun m=>⟨k,m,beq_self_eq_true _⟩⟩
  rw[<-a1,<-a1,e]
 have kp:∀b u,s.heap.get? b=some u->h'.get? b=some u:=fun b u e=>q3 b u (Heap.lt_size e) e
 have new:bW X.prog X.w (upd H s.heap.objs.size (nR X.prog X.w s.heap.objs.size (fun k=>(firstMet (fun i=>ns.getD i 0) its.toArray.size).any (· ==k)) (firstMet (fun i=>ns.getD i 0) its.toArray.size).length)) h' s.heap.objs.size (nR X.prog X.w s.heap.objs.size (fun k=>(firstMet (fun i=>ns.getD i 0) its.toArray.size).any (· ==k)) (firstMet (fun i=>ns.getD i 0) its.toArray.size).length):=by
  refine⟨⟨q1,q2⟩,?_,fun h1 h2 z k=>?_⟩
  ·obtain⟨o,_,_,_,ho,_⟩:=q1;exact⟨o,ho⟩
  ·obtain⟨⟨o,es,ep,t,ho,r⟩,tt⟩:=z
   exact⟨⟨o,es,ep,t,k o ho,r⟩,tt.keep ho (k o ho)⟩
 exact⟨.ref s.heap.objs.size,_,I.laid (t':=tk) kp (Nat.le_refl _) new,rfl,q _ _ (I.hok.fresh (Nat.le_refl _)) (CN _ _) hmem⟩
theorem SH(hc:X.calm=true):fH X (.builtin "sorted") (wu X.prog X.w):=by
 intro pins s σ H xs us Q I rv h
 obtain⟨a,ms,rfl,hH,nd,h64,q⟩:=h
 obtain⟨u,rfl,ru⟩:=vals1 rv
 cases ru
 obtain⟨⟨q1,q2⟩,_,_⟩:=I.hok a _ hH
 refine Jv (I.ok.hd hc) q1 q2 h64 fun h' d' tk' l out ns e kp hl gl hI pw hm hn=>?_
 have a1:∀k,(ms.any (· ==k))=true↔k∈ms:=fun k=>by
  rw[List.any_eq_true]
  exact⟨fun⟨x,m,z⟩=>(beq_iff_eq.mp z)▸m,fun m=>⟨k,m,beq_self_eq_true _⟩⟩
 have hm':∀k,k∈ns↔k∈ms:=fun k=>by rw[<-hm k,a1]
 have pp:=EL nd (fun k m=>(hm' k).mpr m) (Nat.le_of_eq hn)
 have SD:ns.Nodup:=pp.nodup_iff.mp nd
 have lt:ns.Pairwise (· < ·):=by
  have:=pw.and SD
  exact this.imp fun⟨x,y⟩=>by omega
 have new:bW X.prog X.w (upd H l (.lst (ns.map V.int))) h' l (.lst (ns.map V.int)):=by
  refine⟨?_,out,e,AX hI,gl⟩
  rw[List.length_map,hn];exact Nat.le_trans (Nat.le_of_lt h64) (by decide)
 exact⟨.ref l,_,(I.laid (t':=tk') kp hl new).dr d',rfl,q _ _ (I.hok.fresh hl) lt hm'⟩
end
theorem aC.L7{G:Gx}{ρ:Rh}{te:TE}{P:Program}{w:World}{K:PySem.W.Frag}{Θ:Bool->List PyData->Prop}(h:Ev G ρ te fun _ x=>∃ns:List Int,x= .list (ns.map .int)/\ns.length<64/\∀rs:List Int,rs.Pairwise (· < ·)->(∀k,k∈rs↔k∈ns)->Θ true (rs.map .int)):
  aC G ρ (gf (wu P w) (ck (gf (z0 P w K) (ck te cT)) cT)) Θ:=fun nb σ H Q W z=>
 h nb σ H _ W fun f v H1 x ⟨ns,ex,hn,q⟩ s1 hv=>by
  subst ex
  obtain⟨a,xs,rfl,na,hx,hd⟩:=hv.cO
  have e:=qm hd
  subst e
  refine⟨a,ns,rfl, .of hx,by omega,fun b ms hb nd hm=>?_⟩
  have hms:ms.length<=ns.length:=List.Nodup.length_le_of_subset nd fun k m=>(hm k).mp m
  refine⟨b,ms,rfl,bq,nd,by omega,fun l rs hl lt hm'=>?_⟩
  have s2:Step G.B H1 (upd H1 b (nR P w b (fun k=>ms.any (· ==k)) ms.length)):= .same s1.2 (cV hb)
  exact aC.fin (f:=true) W (s1.trans s2) hl (Ew rs) (q rs lt fun k=>(hm' k).trans (hm k)) z
end L2
set_option maxRecDepth 100000
set_option maxHeartbeats 4000000
namespace L2
open PySem PySem.Spec PyProof.Rows
def nI(K:PySem.W.Frag):List V->Hp->VK->Prop:=fun xs H Q=>∃p,∃ns:List Int,xs=[.ref p]/\aL K H p (ns.map V.int)/\Q (.int ns.sum) H
def jQ(K:PySem.W.Frag):List V->Hp->VK->Prop:=fun xs H Q=>∃p,∃bs:List Bool,xs=[.ref p]/\aL K H p (bs.map V.bl)/\Q (.bl (bs.all id)) H
section
variable{X:Cx}
theorem zL(hc:X.calm=true):fH X (.builtin "sum") (nI X.K):=by
 intro pins s σ H xs us Q I rv h
 obtain⟨p,ns,rfl,hp,q⟩:=h
 obtain⟨u,rfl,ru⟩:=vals1 rv
 cases ru
 obtain⟨its,rs,il,hz⟩:=I.list hp
 have hI:=tu rs
 obtain⟨ys,e⟩:=hI.allInts.items
 have hn:=hI.numsOf
 refine sum_intListG (xs:=ys) (I.ok.hd hc) (by rw[<-e];exact il.isList) fun h' tk t' kp=>?_
 have e2:preSum (numAt ys) ys.size=ns.sum:=by
  rw[preSum_eq,List.take_of_length_le (by simp),<-nums_intItems,<-e,<-hn]
 rw[e2]
 exact⟨.int ns.sum,H,I.kept kp,⟨_,rfl⟩,q⟩
theorem lY(hc:X.calm=true):fH X (.builtin "all") (jQ X.K):=by
  intro pins s σ H xs us Q I rv h
  obtain⟨p,bs,rfl,hp,q⟩:=h
  obtain⟨u,rfl,ru⟩:=vals1 rv
  cases ru
  obtain⟨its,rs,il,hz⟩:=I.list hp
  have hl:=rs.length
  have hv:∀(i:Nat) (v:Value),its.toArray[i]?=some v->v= .bool (bs.getD i false):=fun i v e=>by
    have hi:i<bs.length:=by
      have:=(Array.getElem?_eq_some_iff.mp e).1
      rw[List.length_map] at hl
      simp at this;omega
    obtain⟨u,hu,ru⟩:=rs.get (i:=i) (x:= .bl bs[i]) (by rw[List.getElem?_map,List.getElem?_eq_getElem hi];rfl)
    rw[List.getElem?_toArray,hu] at e
    cases e
    rw[List.getD_eq_getElem?_getD,List.getElem?_eq_getElem hi]
    exact ru
  have ll:=il.isList
  have hlt:p<s.heap.objs.size:=by obtain⟨o,e,_⟩:=ll;exact Heap.lt_size e
  refine call_all_walk (wpAny_pyIter_list ll ⟨s.heap.objs.size,_,_,_,_,_,fun i=>bs.getD i false,rfl,Walks.list (A:=X.A.in1) (I.ok.hd hc) _ p (Nat.ne_of_lt hlt) its.toArray,⟨⟨_,Heap.get?_push_size _ rfl,rfl,rfl⟩,ll.push _⟩,fun i v s Q E hP hQ=>?_,fun h' tk kp=>?_⟩)
  · rw[hv i v hP];exact wpAny_truthy_bool hQ
  · have e:(List.range its.toArray.size).all (fun i=>bs.getD i false)=bs.all id:=by
      have hs:its.toArray.size=bs.length:=by rw[List.length_map] at hl;simp;omega
      rw[hs]
      clear hv hl rs q hp hs hz
      induction bs with
      |nil=>rfl
      | cons b r ih =>
        rw[List.length_cons,List.range_succ_eq_map,List.all_cons,List.all_cons,List.all_map]
        simpa[Function.comp_def] using congrArg (b && ·) ih
    rw[e]
    refine⟨.bl (bs.all id),H,I.kept fun b o q=>kp b o (fun m=>?_) (Heap.get?_push_of_some _ q),rfl,q⟩
    have:=List.mem_singleton.mp m
    rw[this] at q
    exact absurd (Heap.lt_size q) (Nat.lt_irrefl _)
end
section
variable{G:Gx}{ρ:Rh}{te:TE}{K:PySem.W.Frag}{Φ:Pd}
theorem Ev.sum(h:Ev G ρ te fun _ x=>∃ns:List Int,x= .list (ns.map .int)/\Φ true (.int ns.sum)):Ev G ρ (gf (nI K) (ck te cT)) Φ:=fun nb σ H Q W z=>
 h nb σ H _ W fun f v H1 x ⟨ns,ex,q⟩ s1 hv=>by
  subst ex
  obtain⟨a,xs,rfl,na,hx,hd⟩:=hv.cO
  have e:=qm hd
  subst e
  exact⟨a,ns,rfl, .of hx,z true _ H1 _ q s1 (.int _)⟩
theorem Cc{nb:Addr->Prop}{H:Hp}:∀{is:List Bool} {xs:List V},ai nb H (is.map PyData.bool) xs->xs=is.map V.bl
  |[],_,h=>by unfold List.map ai at h;exact h
  | i :: is, _, h => by
    rw[List.map_cons] at h
    unfold ai at h
    obtain⟨y,ys,rfl,h1,h2⟩:=h
    unfold af at h1
    rw[List.map_cons,h1,Cc h2]
theorem Ev.all(h:Ev G ρ te fun _ x=>∃bs:List Bool,x= .list (bs.map .bool)/\Φ true (.bool (bs.all id))):Ev G ρ (gf (jQ K) (ck te cT)) Φ:=fun nb σ H Q W z=>
 h nb σ H _ W fun f v H1 x ⟨bs,ex,q⟩ s1 hv=>by
  subst ex
  obtain⟨a,xs,rfl,na,hx,hd⟩:=hv.cO
  have e:=Cc hd
  subst e
  exact⟨a,bs,rfl, .of hx,z true _ H1 _ q s1 (.bl _)⟩
end
end L2
set_option maxRecDepth 100000
set_option maxHeartbeats 4000000
namespace L2
open PySem PySem.Spec PyProof.Rows
def AI:PyData->String->Bool
 | .bool _,T=>T=="bool" ||T=="int"
 | .int _,T=>T=="int"
 | .str _,T=>T=="str"
 | .list _,T=>T=="list"
 | .tuple _,T=>T=="tuple"
 |_,_=>false
def Ep:PyData->String
 | .none=> "NoneType" | .bool _=> "bool" | .int _=> "int" | .str _=> "str" | .list _=> "list" | .tuple _=> "tuple" | .dict _=> "dict"
theorem Vf{K:PySem.W.Frag}{nb:Addr->Prop}{H:Hp}{d:PyData}{v:V}(h:af nb H d v):fV K H v (.type (Ep d)):=by
 cases d<;>unfold af at h
 ·subst h;exact .aN
 ·subst h;exact .bl _
 ·subst h;exact .int _
 ·subst h;exact .str _
 ·obtain⟨a,xs,rfl,_,e,_⟩:=h;exact .lst e
 ·obtain⟨a,xs,rfl,_,e,_⟩:=h;exact .tup e
 ·obtain⟨a,xs,rfl,_,e,_⟩:=h;exact e.elim .dK fun⟨_,e⟩=> .Bq e
def AR(T:String):Prop:=T="int" \/T="bool" \/T="list" \/T="tuple" \/T="str"
theorem Jt{K:PySem.W.Frag}{d:PyData}{T:String}(hT:AR T):PySem.W.kitOne K (.type (Ep d)) (.type T)=some (AI d T):=by
 rcases hT with rfl|rfl|rfl|rfl|rfl<;>cases d<;>(with_unfolding_all rfl)
section
variable{G:Gx}{ρ:Rh}{ta tb te:TE}{K:PySem.W.Frag}{Φ:Pd}{T U:String}
theorem Ev.VS(hT:AR T)(h:Ev G ρ te fun _ x=>Φ true (.bool (AI x T))):Ev G ρ (gf (jl K) (ck te (ck (tC (.ty T)) cT))) Φ:=fun nb σ H Q W z=>
 h nb σ H _ W fun f v H1 d q s1 hv=>⟨v,T,_,_,rfl,Vf hv,Jt hT,z true _ H1 _ q s1 (.bl _)⟩
theorem Ev.Va(h:Ev G ρ te fun _ x=>∃ds,(x= .list ds\/x= .tuple ds)/\Φ true (.int ds.length)):Ev G ρ (gf (fk K) (ck te cT)) Φ:=fun nb σ H Q W z=>
 h nb σ H _ W fun f v H1 d ⟨ds,e,q⟩ s1 hv=>by
  rcases e with e|e
  ·subst e
   obtain⟨a,xs,rfl,n,hx,hd⟩:=hv.cO
   exact⟨a,xs,rfl, .inl (.of hx),by rw[hd.length];exact z true _ H1 _ q s1 (.int _)⟩
  ·subst e
   obtain⟨a,xs,rfl,n,hx,hd⟩:=hv.ofT
   exact⟨a,xs,rfl, .inr (.of hx),by rw[hd.length];exact z true _ H1 _ q s1 (.int _)⟩
theorem Ev.EZ(h:Ev G ρ ta fun f x=>∃ds,(x= .list ds\/x= .tuple ds)/\Ev G ρ tb fun _ y=>∃k,y= .int k/\∃e,aU ds k=some e/\Φ f e):Ev G ρ (bV (SS K) ta tb) Φ:=
 Ev.gP (h.mono fun f x ⟨ds,ex,q⟩=>q.mono fun g y ⟨k,ey,e,he,p⟩ nb σ H u v Q W hu hv z=>by
  subst ey
  rcases ex with ex|ex
  ·subst ex
   obtain⟨a,xs,rfl,n,hx,hd⟩:=hu.cO
   obtain⟨w,hw,hD⟩:=hd.aU he
   exact .inl ⟨a,xs,k,w,rfl,hv.bP, .of hx,hw,z f _ H _ p (.refl W.au) hD⟩
  ·subst ex
   obtain⟨a,xs,rfl,n,hx,hd⟩:=hu.ofT
   obtain⟨w,hw,hD⟩:=hd.aU he
   exact .inr (.inl ⟨a,xs,k,w,rfl,hv.bP, .of hx,hw,z f _ H _ p (.refl W.au) hD⟩))
end
end L2
set_option maxRecDepth 100000
set_option maxHeartbeats 4000000
namespace L2
open PySem PySem.Spec PyProof.Rows
section
variable{G:Gx}{ρ bM:Rh}{te:TE}{gt:TG}{n i:Nat}{it:Nat->PyData->Prop}{fi:Bool}{Θ:Bool->List PyData->Prop}{E:DE}
theorem w6(os:List Int):cN (os.map PyData.int)=true:=by
 unfold cN
 rw[List.all_eq_true]
 intro x hx
 obtain⟨y,_,rfl⟩:=List.mem_map.mp hx
 rfl
theorem fF.ints(P:Int->Prop)(ht:∀i d,it i d->Gv G bM gt fi d fun eX=>Wk bM eX/\Ev G eX te fun _ e=>∃r:Int,e= .int r/\P r)(h:∀os:List Int,os.length=n->(∀x∈os,P x)->Θ true (os.map .int)):fF G bM n it fi gt pK te Θ:=by
 refine⟨false,fun i ds=>ds.length=i/\∃os:List Int,ds=os.map .int/\∀x∈os,P x,⟨rfl,[],rfl,fun _ h=>nomatch h⟩,?_,?_⟩
 ·rintro i d ds hd hl ⟨hl2,os,rfl,ho⟩
  refine fun nb σ H v Q W hv z=>ht i d hd nb σ H v Q W hv fun σ' ρ' ⟨w,q⟩ W'=>z σ' ρ' ⟨w,Tv.o9 (qU (q.mono fun f e ⟨r,ee,hr⟩=>⟨fun z=>(by cases z),?_,os++[r],?_,fun x hx=>?_⟩))⟩ W'
  ·rw[List.length_append,List.length_singleton,hl2]
  ·rw[ee];simp
  ·rcases List.mem_append.mp hx with h|h
   ·exact ho x h
   ·rw[List.mem_singleton.mp h];exact hr
 ·rintro ds hl ⟨hl2,os,rfl,ho⟩
  rw[w6,Bool.or_true]
  exact h os (by rw[List.length_map] at hl2;exact hl2) ho
theorem fF.rel{α:Type}(φ:α->PyData)(fl:Bool)(P:Nat->α->Prop)(ht:∀i d,it i d->Gv G bM gt fi d fun eX=>Wk bM eX/\Ev G eX te fun f e=>(fl=true->f=true)/\∃r:α,e=φ r/\P i r)
  (h:∀os:List α,os.length=n->(∀(i:Nat) x,os[i]?=some x->P i x)->Θ (fl||cN (os.map φ)) (os.map φ)):fF G bM n it fi gt pK te Θ:=by
 refine⟨fl,fun i ds=>ds.length=i/\∃os:List α,ds=os.map φ/\∀(i:Nat) x,os[i]?=some x->P i x,⟨rfl,[],rfl,fun j x e=>by simp at e⟩,?_,?_⟩
 ·rintro i d ds hd hl ⟨hl2,os,rfl,ho⟩
  refine fun nb σ H v Q W hv z=>ht i d hd nb σ H v Q W hv fun σ' ρ' ⟨w,q⟩ W'=>z σ' ρ' ⟨w,Tv.o9 (qU (q.mono fun f e ⟨hf,r,ee,hr⟩=>⟨hf,?_,os++[r],?_,fun j x hj=>?_⟩))⟩ W'
  ·rw[List.length_append,List.length_singleton,hl2]
  ·rw[ee];simp
  ·rw[List.length_map] at hl2
   rcases Nat.lt_trichotomy j os.length with h|h|h
   ·exact ho j x (by rwa[List.getElem?_append_left h] at hj)
   ·subst h
    simp at hj
    subst hj
    rw[hl2];exact hr
   ·rw[List.getElem?_eq_none (by rw[List.length_append,List.length_singleton];omega)] at hj
    cases hj
 ·rintro ds hl ⟨hl2,os,rfl,ho⟩
  exact h os (by rw[List.length_map] at hl2;exact hl2) ho
theorem Sv.Fp(h:∀a,E.nx (ρ.set i (.own a true []))):Sv G ρ (eE (lG cT) (dN i)) E:=Sv.oK (aC.lst (Av.nil ⟨by decide,fun a=>h a⟩))
end
def Vs:R2:=fun x y H Q=>∃a b:Bool,x= .bl a/\y= .bl b/\Q (.bl (a==b)) H
theorem Ev.Xm{G:Gx}{ρ:Rh}{ta:TE}{b:Bool}{Φ:Pd}(h:Ev G ρ ta fun _ x=>∃a,x= .bool a/\Φ true (.bool (a==b))):Ev G ρ (bV Vs ta (tC (.bl b))) Φ:=fun nb σ H Q W z=>
 h nb σ H _ W fun f v H1 d ⟨a,e,q⟩ s1 hv=>by
  subst e
  unfold af at hv
  subst hv
  exact⟨a,b,rfl,rfl,z true _ H1 _ q s1 (.bl _)⟩
theorem dP{X:Cx}{K:PySem.W.Frag}{a:Expr}{ta:TE}(hK:X.K=K)(ha:PE X a ta)(he:∀whole,isTrue a X.env whole=(do let v<-whole;standAt a.pos;holding [v] (truthy v))):PT X a (Ct K ta):=by
 subst hK
 exact OV ha he
theorem gh{X:Cx}{K:PySem.W.Frag}{es:List Expr}{k:Nat}{t:fY}{n:Nat}{pos:Pos}(hK:X.K=K)(hc:X.calm=true)(h:pG X es t)(hn:(assignEach es X.env).length=n:=by rfl)(hst:(assignEach es X.env).findIdx? (·.1)=none:=by rfl):PG X (.Tuple es k pos) (oR K n t):=by
 subst hK
 exact FA hc h hn hst
theorem Ef(ds:List PyData):PyData.eqv (.list ds) (.list [])=ds.isEmpty:=by cases ds<;>simp[PyData.eqv,PyData.eqvAll]
theorem QO(cs:List aH):PyData.depthAll (cs.map bH)<=2/\PyData.canLayAll0 (cs.map bH)=true:=by
  induction cs with
  |nil=>simp[PyData.depthAll,PyData.canLayAll0]
  | cons a r ih =>
    have h:=BL a
    simp[PyData.depthAll,PyData.depth,PyData.canLayAll0,PyData.canLay0,ih.2,h.2.2]
    have:=ih.1
    have:=h.2.1
    omega
theorem Sv.gZ{G:Gx}{ρ:Rh}{s:TS}{E:DE}(I:Rh->Prop)(h:Sv G ρ s {E with nx:=I})(hI:∀ρ',I ρ'->E.nx ρ'):Sv G ρ s E:=fun nb σ H D W K=>h nb σ H D W ⟨fun nb ρ σ H q W=>K.nx nb ρ σ H (hI ρ q) W,K.bk,K.ct,K.rt,K.rw⟩
def BC(p:Int):Prop:=2<=p/\p<=10^60
theorem pick{L:List Int}{k:Int}(h0:0<=k)(h1:k<L.length)(P:Int->Prop)(hP:∀x∈L,P x):∃x,aU (L.map PyData.int) k=some (.int x)/\P x:=by
 have hL:k.toNat<L.length:=by omega
 exact⟨L[k.toNat],cW h0 (by rw[List.getElem?_map,List.getElem?_eq_getElem hL];rfl),hP _ (List.getElem_mem hL)⟩
end L2
set_option maxRecDepth 100000
set_option maxHeartbeats 4000000
namespace L2
open PySem PySem.Spec PyProof.Rows
theorem LM{α:Type}{xs:List α}{k:Int}(h0:0<=k)(h1:k<=xs.length):dH xs none (some k)=xs.take k.toNat:=by
 unfold dH HT.dh
 simp only[List.drop_zero,Nat.sub_zero]
 congr 1
 first|omega|(split<;>omega)
theorem LY{α:Type}{xs:List α}{k:Int}(h0:0<=k)(h1:k<=xs.length):dH xs (some k) none=xs.drop k.toNat:=by
 have e:HT.dh xs.length 0 (some k)=k.toNat:=by
  show(if k<0 then _ else _)=_
  rw[if_neg (by omega)];omega
 unfold dH
 rw[e,HT.Wx]
 exact List.take_of_length_le (by rw[List.length_drop];omega)
theorem Sq{α:Type}{xs:List α}{k:Int}{y:α}(h0:0<=k)(h1:k<xs.length):dH xs none (some k)++[y]++dH xs (some (k+1)) none=xs.set k.toNat y:=by
 rw[LM h0 (by omega),LY (by omega) (by omega),List.set_eq_take_append_cons_drop,if_pos (by omega),List.append_assoc]
 congr 2
 show[y]++_=_
 rw[show(k+1).toNat=k.toNat+1 by omega]
 rfl
theorem Fg{α:Type}{xs:List α}{lo hi:Option Int}:(dH xs lo hi).length<=xs.length:=by
 unfold dH
 rw[List.length_take,List.length_drop];omega
theorem PX(a b:aH)(wd:Wo):aV (a++b) wd=aV a wd+aV b wd:=by
 unfold aV;rw[List.map_append,List.sum_append]
theorem qM(a:Int×Int)(b:aH)(wd:Wo):aV (a::b) wd=fP wd a+aV b wd:=by
 unfold aV;rw[List.map_cons,List.sum_cons]
end L2
set_option maxRecDepth 100000
set_option maxHeartbeats 4000000
namespace L2
open PySem PySem.Spec PyProof.Rows
def jr(p:Int)(xs:List Int)(a:Int)(ys:List Int)(b:Int):List Int:=List.zipWith (fun x y=>(a*x+b*y)%p) xs ys
theorem nU{w:List Int}{pr:Int×Int}{x:Int}(h:w[pr.1.toNat]?=some x):fP (w.map some) pr=pr.2*x:=by
 unfold fP
 rw[List.getElem?_map,h];rfl
theorem Fw{p a b:Int}{xs ys:List Int}(hl:xs.length=ys.length):∀{prs:aH},(∀pr∈prs,0<=pr.1/\pr.1<xs.length)->
    aV prs ((jr p xs a ys b).map some)%p=(a*(aV prs (xs.map some)%p)+b*(aV prs (ys.map some)%p))%p
  |[],_=>by simp[aV]
  | pr :: prs, h => by
    have ih:=Fw (p:=p) (a:=a) (b:=b) hl (prs:=prs) fun q hq=>h q (List.mem_cons_of_mem _ hq)
    obtain⟨h0,h1⟩:=h pr (List.mem_cons_self ..)
    have k1:pr.1.toNat<xs.length:=by omega
    have k2:pr.1.toNat<ys.length:=by omega
    have e1:=nU (w:=xs) (List.getElem?_eq_getElem k1)
    have e2:=nU (w:=ys) (List.getElem?_eq_getElem k2)
    have e3:fP ((jr p xs a ys b).map some) pr=pr.2*((a*xs[pr.1.toNat]+b*ys[pr.1.toNat])%p):=by
      refine nU ?_
      unfold jr
      rw[List.getElem?_zipWith,List.getElem?_eq_getElem k1,List.getElem?_eq_getElem k2]
    rw[qM,qM,qM,e1,e2,e3]
    generalize xs[pr.1.toNat]=x
    generalize ys[pr.1.toNat]=y
    generalize aV prs ((jr p xs a ys b).map some)=M at*
    generalize aV prs (xs.map some)=A at*
    generalize aV prs (ys.map some)=B at*
    have m1:=Int.mul_ediv_add_emod M p
    have m2:=Int.mul_ediv_add_emod (a*(A%p)+b*(B%p)) p
    have m3:=Int.mul_ediv_add_emod A p
    have m4:=Int.mul_ediv_add_emod B p
    have m5:=Int.mul_ediv_add_emod (a*x+b*y) p
    have m6:=Int.mul_ediv_add_emod (pr.2*x+A) p
    have m7:=Int.mul_ediv_add_emod (pr.2*y+B) p
    generalize pr.2=f at*
    generalize M/p=q1 at*
    generalize (a*(A%p)+b*(B%p))/p=q2 at*
    generalize A/p=q3 at*
    generalize B/p=q4 at*
    generalize (a*x+b*y)/p=q5 at*
    generalize (f*x+A)/p=q6 at*
    generalize (f*y+B)/p=q7 at*
    generalize (a*x+b*y)%p=r5 at*
    generalize (f*x+A)%p=r6 at*
    generalize (f*y+B)%p=r7 at*
    generalize A%p=r3 at*
    generalize B%p=r4 at*
    have key:f*r5+M=a*r6+b*r7+p*(a*q6+b*q7-f*q5+q1-q2-a*q3-b*q4):=by
      have e5:r5=a*x+b*y-p*q5:=by omega
      have e6:r6=f*x+A-p*q6:=by omega
      have e7:r7=f*y+B-p*q7:=by omega
      have eM:M=a*r3+b*r4-p*q2+p*q1:=by omega
      have eA:A=p*q3+r3:=by omega
      have eB:B=p*q4+r4:=by omega
      rw[e5,e6,e7,eM,eA,eB]
      grind
    rw[key,Int.add_mul_emod_self_left]
end L2
set_option maxRecDepth 100000
set_option maxHeartbeats 4000000
namespace L2
open PySem PySem.Spec PyProof.Rows
def Ei(K:PySem.W.Frag)(te:TE)(ts:TO):TE:=fun σ H Q=>te σ H fun x H1=>ts σ H1 fun k H2=>k=some (-1)/\∃a xs,x= .ref a/\aL K H2 a xs/\∀p,H2 p=none->Q (.ref p) (upd H2 p (.lst xs.reverse))
theorem ai.rev{nb:Addr->Prop}{H:Hp}:∀{ds:List PyData} {xs:List V},ai nb H ds xs->ai nb H ds.reverse xs.reverse
  |[],xs,h=>by unfold ai at h;subst h;exact .nil
  | d :: ds, xs, h => by
    unfold ai at h
    obtain⟨y,ys,e,h1,h2⟩:=h
    subst e
    rw[List.reverse_cons,List.reverse_cons]
    exact ai.append (ai.rev h2) (.cons h1 .nil)
section
variable{G:Gx}{ρ:Rh}{Φ:Pd}{ta tb te:TE}{K:PySem.W.Frag}
theorem aC.rev{ts:TO}{Θ:Bool->List PyData->Prop}(h:Ev G ρ te fun f x=>∃ds,x= .list ds/\Ov G ρ ts fun o=>o=some (-1)/\Θ (f||cN ds.reverse) ds.reverse):aC G ρ (Ei K te ts) Θ:=fun nb σ H Q W z=>
 h nb σ H _ W fun f v H1 d ⟨ds,e,q⟩ s1 hv=>q nb σ H1 _ (W.step s1) fun o H2 ⟨eo,q2⟩ s2=>by
  subst e
  obtain⟨a,xs,rfl,n,hx,hd⟩:=(hv.keep s2.cU).cO
  exact⟨eo,a,xs,rfl, .of hx,fun p hp=>aC.fin W (s1.trans s2) hp hd.rev q2 z⟩
theorem Ev.rev{ts:TO}(h:Ev G ρ te fun f x=>∃ds,x= .list ds/\Ov G ρ ts fun o=>o=some (-1)/\Φ (f||cN ds.reverse) (.list ds.reverse)):Ev G ρ (Ei K te ts) Φ:=(aC.rev (Θ:=fun f ds=>Φ f (.list ds)) h).ev
theorem Ev.W6{ng:Bool}(h:Ev G ρ ta fun _ x=>∃k:Int,x= .int k/\Ev G ρ tb fun _ y=>∃ns:List Int,y= .list (ns.map .int)/\Φ true (.bool (decide (k∈ns) !=ng))):Ev G ρ (bV (TQ K ng) ta tb) Φ:=fun nb σ H Q W z=>
 h nb σ H _ W fun f v H1 d ⟨k,e,q⟩ s1 hv=>q nb σ H1 _ (W.step s1) fun g u H2 d2 ⟨ns,e2,p⟩ s2 hu=>by
  subst e e2
  have hk:=hv.bP
  subst hk
  obtain⟨a,xs,rfl,na,hx,hd⟩:=hu.cO
  have ex:=qm hd
  subst ex
  refine⟨a,ns.map V.int,rfl, .inl (.of hx),rfl,?_,?_⟩
  ·rw[List.all_eq_true]
   intro x hx
   obtain⟨o,_,rfl⟩:=List.mem_map.mp hx
   rfl
  ·have e:ny (V.int k) (ns.map V.int)=decide (k∈ns):=by
    unfold ny
    rw[List.any_map,Bool.eq_iff_iff,List.any_eq_true,decide_eq_true_eq]
    constructor
    ·rintro⟨o,m,h⟩
     have:o=k:=eq_of_beq h
     exact this▸m
    ·intro m
     exact⟨k,m,beq_self_eq_true k⟩
   have e2:(if ng=true then !ny (V.int k) (ns.map V.int) else ny (V.int k) (ns.map V.int))=(decide (k∈ns) !=ng):=by
    rw[e]
    cases ng<;>simp
   rw[e2]
   exact z true _ H2 _ p (s1.trans s2) (.bl _)
end
end L2
set_option maxRecDepth 100000
set_option maxHeartbeats 1000000
namespace PC
def aJ(n:Nat):Prop:=2<=n/\∀d,d∣n->d=1\/d=n
def tr(q:Nat):Nat->Nat->Bool
 |0,_=>false
 |f+1,d=>if q<d*d then true else if q%d=0 then false else tr q f (d+1)
theorem E6{q:Nat}:∀{f d:Nat},tr q f d=true->∀e,d<=e->e*e<=q->q%e≠0
  |0,_,h=>by simp[tr] at h
  | f + 1, d, h => by
    intro e hde hee
    unfold tr at h
    by_cases h1:q<d*d
    · have:=Nat.mul_le_mul hde hde
      omega
    · rw[if_neg h1] at h
      by_cases h2:q%d=0
      · rw[if_pos h2] at h;cases h
      · rw[if_neg h2] at h
        by_cases h3:d=e
        · rw[<-h3];exact h2
        · exact E6 h e (by omega) hee
theorem FH{q:Nat}(h2:2<=q)(h:∀e,2<=e->e*e<=q->q%e≠0):aJ q:=by
 refine⟨h2,fun d hd=>?_⟩
 obtain⟨e,he⟩:=hd
 by_cases d1:d=1
 ·exact .inl d1
 by_cases e1:e=1
 ·right;rw[he,e1,Nat.mul_one]
 exfalso
 have d0:d≠0:=fun z=>by rw[z,Nat.zero_mul] at he;omega
 have e0:e≠0:=fun z=>by rw[z,Nat.mul_zero] at he;omega
 by_cases hle:d<=e
 ·refine h d (by omega) (by rw[he];exact Nat.mul_le_mul_left d hle) ?_
  rw[he];exact Nat.mul_mod_right d e
 ·refine h e (by omega) (by rw[he];exact Nat.mul_le_mul_right e (by omega)) ?_
  rw[he];exact Nat.mul_mod_left d e
theorem bK(f:Nat){q:Nat}(h2:2<=q)(h:tr q f 2=true):aJ q:=FH h2 (E6 h)
def pw(N:Nat):Nat->Nat->Nat->Nat->Nat
 |0,_,_,acc=>acc
 |f+1,e,g,acc=>pw N f (e/2) (g*g%N) (if e%2=1 then acc*g%N else acc)
theorem Bk{N:Nat}:∀(f e g acc:Nat),e<2^f->pw N f e g acc%N=acc*g^e%N
  | 0, e, g, acc, h => by
    have:e=0:=by simp at h;exact h
    subst this
    simp[pw]
  | f + 1, e, g, acc, h => by
    have h2:e/2<2^f:=by rw[Nat.pow_succ] at h;omega
    unfold pw
    rw[Bk f _ _ _ h2]
    have e2:g^e=(g*g)^(e/2)*g^(e%2):=by
      conv=>lhs;rw[<-Nat.div_add_mod e 2]
      rw[Nat.pow_add,Nat.pow_mul,Nat.pow_two]
    have m1:(g*g%N)^(e/2)%N=(g*g)^(e/2)%N:=(Nat.pow_mod _ _ _).symm
    rw[e2]
    by_cases ho:e%2=1
    · rw[if_pos ho,ho,Nat.pow_one,Nat.mul_mod,m1,Nat.mod_mod,<-Nat.mul_mod]
      congr 1
      rw[Nat.mul_assoc,Nat.mul_comm g]
    · have ho':e%2=0:=by omega
      rw[if_neg ho,ho',Nat.pow_zero,Nat.mul_one,Nat.mul_mod,m1,<-Nat.mul_mod]
theorem Oz{P:Nat->Prop}:∀n,P n->∃m,P m/\∀k,k<m->¬P k:=by
  intro n
  induction n using Nat.strongRecOn with
  | _ n ih =>
    intro h
    by_cases hk:∃k,k<n/\P k
    · obtain⟨k,hk1,hk2⟩:=hk
      exact ih k hk1 hk2
    · exact⟨n,h,fun k hk1 hk2=>hk ⟨k,hk1,hk2⟩⟩
theorem Ba:∀(n:Nat) (f:Nat->Nat),(∀i,i<n+1->f i<n)->∃i j,i<j/\j<n+1/\f i=f j
  |0,f,h=>absurd (h 0 (by omega)) (by omega)
  | n + 1, f, h => by
    by_cases he:∃i,i<n+1/\f i=f (n+1)
    · obtain⟨i,h1,h2⟩:=he
      exact⟨i,n+1,h1,by omega,h2⟩
    · have hne:∀i,i<n+1->f i≠f (n+1):=fun i hi e=>he ⟨i,hi,e⟩
      have nW:=h (n+1) (by omega)
      obtain⟨i,j,h1,h2,h3⟩:=Ba n (fun i=>if f i=n then f (n+1) else f i) (fun i hi=>by
        have g1:=h i (by omega)
        have g2:=hne i hi
        by_cases c:f i=n
        · simp only[c,if_true]
          have:f (n+1)≠n:=fun z=>g2 (c.trans z.symm)
          omega
        · simp only[c,if_false]
          omega)
      refine⟨i,j,h1,by omega,?_⟩
      have gi:=hne i (by omega)
      have gj:=hne j (by omega)
      by_cases ci:f i=n
      · by_cases cj:f j=n
        · rw[ci,cj]
        · simp only[ci,cj,if_true,if_false] at h3
          exact absurd h3.symm gj
      · by_cases cj:f j=n
        · simp only[ci,cj,if_true,if_false] at h3
          exact absurd h3 gi
        · simpa only[ci,cj,if_false] using h3
def iA:List (Nat×Nat)->Nat
 |[]=>1
 |qe::r=>Nat.lcm (qe.1^qe.2) (iA r)
theorem Eb{o:Nat}:∀{fs:List (Nat×Nat)},(∀qe∈fs,qe.1^qe.2∣o)->iA fs∣o
 |[],_=>⟨o,by simp[iA]⟩
 |qe::r,h=>Nat.lcm_dvd (h qe List.mem_cons_self) (Eb fun x hx=>h x (List.mem_cons_of_mem _ hx))
theorem Tr{q m:Nat}(hq:aJ q)(h:¬q∣m):Nat.Coprime q m:=by
 rcases hq.2 _ (Nat.gcd_dvd_left q m) with e|e
 ·exact e
 ·exact absurd (e▸Nat.gcd_dvd_right q m) h
theorem J9{q m:Nat}(h:Nat.Coprime q m)(e:Nat):Nat.Coprime (q^e) m:=Nat.Coprime.pow_left e h
theorem Mc(a b c d:Nat):(a%d)*(b%d)%d*(c%d)%d=a*b*c%d:=by
 rw[<-Nat.mul_mod a b,<-Nat.mul_mod (a*b) c]
theorem Cs{N g d:Nat}{fs:List (Nat×Nat)}(hN:2<=N)(hd:d∣N)(d1:1<d)(h1:g^(N-1)%N=1%N)
  (hq:∀qe∈fs,aJ qe.1/\qe.1^qe.2∣N-1/\Nat.gcd (g^((N-1)/qe.1)%N+(N-1)) N=1):iA fs<d:=by
 have down:∀{a b:Nat},a%N=b%N->a%d=b%d:=fun{a b} e=>by
  rw[<-Nat.mod_mod_of_dvd a hd,e,Nat.mod_mod_of_dvd b hd]
 have one:1%d=1:=Nat.mod_eq_of_lt d1
 have f1:g^(N-1)%d=1:=by rw[down h1,one]
 obtain⟨o,⟨o0,o1⟩,AQ⟩:=Oz (P:=fun k=>0<k/\g^k%d=1) (N-1) ⟨by omega,f1⟩
 have per:∀q r:Nat,g^(o*q+r)%d=g^r%d:=fun q r=>by
  rw[Nat.pow_add,Nat.pow_mul,Nat.mul_mod,Nat.pow_mod,o1,Nat.one_pow,one,Nat.one_mul,Nat.mod_mod]
 have Vi:∀k,g^k%d=1->o∣k:=fun k hk=>by
  have e:=Nat.div_add_mod k o
  rw[<-e,per] at hk
  by_cases h0:k%o=0
  ·exact Nat.dvd_of_mod_eq_zero h0
  ·exact absurd ⟨by omega,hk⟩ (AQ (k%o) (Nat.mod_lt _ o0))
 have od:=Vi _ f1
 have parts:iA fs∣o:=Eb fun qe qJ=>by
  obtain⟨pq,⟨c,hc⟩,gq⟩:=hq qe qJ
  obtain⟨m,hm⟩:=od
  by_cases Fc:qe.1∣m
  ·exfalso
   obtain⟨m',hm'⟩:=Fc
   have q0:0<qe.1:=by have:=pq.1;omega
   have ek:(N-1)/qe.1=o*m':=by
    rw[hm,hm',show o*(qe.1*m')=qe.1*(o*m') by rw[<-Nat.mul_assoc,Nat.mul_comm o,Nat.mul_assoc],Nat.mul_div_cancel_left _ q0]
   have e1:g^((N-1)/qe.1)%d=1:=by
    have:=per m' 0
    rw[Nat.add_zero,Nat.pow_zero,one] at this
    rw[ek];exact this
   have e2:d∣g^((N-1)/qe.1)%N+(N-1):=by
    have e3:(g^((N-1)/qe.1)%N)%d=1:=by rw[Nat.mod_mod_of_dvd _ hd];exact e1
    obtain⟨k,hk⟩:=hd
    have e4:=Nat.div_add_mod (g^((N-1)/qe.1)%N) d
    rw[e3] at e4
    refine⟨(g^((N-1)/qe.1)%N)/d+k,?_⟩
    rw[Nat.mul_add,<-hk]
    omega
   have e5:=Nat.dvd_gcd e2 hd
   rw[gq] at e5
   have:=Nat.le_of_dvd (by omega) e5
   omega
  ·have cp:=J9 (Tr pq Fc) qe.2
   have Tf:qe.1^qe.2∣o*m:=⟨c,by rw[<-hm];exact hc⟩
   exact cp.dvd_of_dvd_mul_right Tf
 have S4:o<d:=by
  refine Nat.lt_of_not_le fun hle=>?_
  have unit:∀i,i<=N-1->(g^i%d)*(g^(N-1-i)%d)%d=1:=fun i hi=>by
   rw[<-Nat.mul_mod,<-Nat.pow_add,show i+(N-1-i)=N-1 by omega];exact f1
  have WV:o<=N-1:=Nat.le_of_dvd (by omega) od
  have pos:∀i,i<o->0<g^i%d:=fun i hi=>by
   refine Nat.pos_of_ne_zero fun z=>?_
   have:=unit i (by omega)
   rw[z,Nat.zero_mul,Nat.zero_mod] at this
   cases this
  obtain⟨i,j,h1,h2,h3⟩:=Ba (d-1) (fun i=>g^i%d-1) (fun i hi=>by
   have a1:=pos i (by omega)
   have a2:=Nat.mod_lt (g^i) (show d>0 by omega)
   omega)
  have pi:=pos i (by omega)
  have pj:=pos j (by omega)
  have e:g^i%d=g^j%d:=by omega
  have ej:g^j=g^i*g^(j-i):=by rw[<-Nat.pow_add,show i+(j-i)=j by omega]
  have u:=unit i (by omega)
  have k1:g^(j-i)%d=1:=by
   have w:(g^i%d)*(g^(N-1-i)%d)%d*(g^(j-i)%d)%d=(g^j%d)*(g^(N-1-i)%d)%d:=by
    rw[Mc,<-Nat.mul_mod (g^j),ej]
    congr 1
    rw[Nat.mul_assoc,Nat.mul_assoc,Nat.mul_comm (g^(N-1-i))]
   rw[u,Nat.one_mul,Nat.mod_mod,<-e,u] at w
   exact w
  exact AQ (j-i) (by omega) ⟨by omega,k1⟩
 exact Nat.lt_of_le_of_lt (Nat.le_of_dvd o0 parts) S4
theorem VM{N g:Nat}(fs:List (Nat×Nat))(hN:2<=N)(h1:g^(N-1)%N=1%N)
  (hq:∀qe∈fs,aJ qe.1/\qe.1^qe.2∣N-1/\Nat.gcd (g^((N-1)/qe.1)%N+(N-1)) N=1) (hF:N<(iA fs+1)*(iA fs+1)):aJ N:=by
 refine⟨hN,fun d hd=>?_⟩
 obtain⟨e,he⟩:=id hd
 by_cases d1:d=1
 ·exact .inl d1
 by_cases e1:e=1
 ·right;rw[he,e1,Nat.mul_one]
 exfalso
 have d0:d≠0:=fun z=>by rw[z,Nat.zero_mul] at he;omega
 have e0:e≠0:=fun z=>by rw[z,Nat.mul_zero] at he;omega
 have b1:=Cs hN hd (by omega) h1 hq
 have b2:=Cs hN ⟨d,by rw[he,Nat.mul_comm]⟩ (show 1<e by omega) h1 hq
 have:=Nat.mul_le_mul (show iA fs+1<=d from b1) (show iA fs+1<=e from b2)
 omega
def CT(N g:Nat)(fs:List (Nat×Nat)):Bool:=
 decide (2<=N) && decide (N<2^140) &&(pw N 140 (N-1) g 1%N==1) && fs.all (fun qe=>((N-1)%qe.1^qe.2==0) &&(Nat.gcd (pw N 140 ((N-1)/qe.1) g 1%N+(N-1)) N==1)) && decide (N<(iA fs+1)*(iA fs+1))
theorem cC{N:Nat}(g:Nat)(fs:List (Nat×Nat))(hp:∀qe∈fs,aJ qe.1)(h:CT N g fs=true):aJ N:=by
 unfold CT at h
 simp only[Bool.and_eq_true,decide_eq_true_eq,beq_iff_eq,List.all_eq_true] at h
 obtain⟨⟨⟨⟨h1,h2⟩,h3⟩,h4⟩,h5⟩:=h
 have P:∀e,e<=N-1->pw N 140 e g 1%N=g^e%N:=fun e he=>by
  rw[Bk 140 e g 1 (by omega),Nat.one_mul]
 refine VM (g:=g) fs h1 (by rw[<-P _ (Nat.le_refl _),h3,Nat.mod_eq_of_lt (by omega)]) (fun qe qJ=>?_) h5
 obtain⟨g1,g2⟩:=h4 qe qJ
 refine⟨hp qe qJ,Nat.dvd_of_mod_eq_zero g1,?_⟩
 rw[<-P _ (Nat.div_le_self _ _)]
 exact g2
end PC
set_option maxRecDepth 100000
set_option maxHeartbeats 1000000
namespace PC
theorem wH:aJ 2:=bK 4 (by decide) (by decide+kernel)
theorem HN:aJ 3:=bK 4 (by decide) (by decide+kernel)
theorem G2:aJ 5:=bK 5 (by decide) (by decide+kernel)
theorem yN:aJ 7:=bK 5 (by decide) (by decide+kernel)
theorem Qj:aJ 11:=bK 6 (by decide) (by decide+kernel)
theorem NO:aJ 101:=bK 13 (by decide) (by decide+kernel)
theorem La:aJ 10007:=bK 103 (by decide) (by decide+kernel)
theorem P9:aJ 65537:=bK 259 (by decide) (by decide+kernel)
theorem Ic:aJ 1000003:=bK 1003 (by decide) (by decide+kernel)
theorem LX:aJ 17:=bK 7 (by decide) (by decide+kernel)
theorem K6:aJ 998244353:=cC 3 [(17,1),(7,1),(2,23)] (fun qe h=>by
 simp only[List.mem_cons,List.not_mem_nil,or_false] at h
 rcases h with rfl|rfl|rfl
 ·exact LX
 ·exact yN
 ·exact wH) (by decide+kernel)
theorem NN:aJ 148721:=bK 388 (by decide) (by decide+kernel)
theorem L0:aJ 500000003:=cC 2 [(148721,1)] (fun qe h=>by
 simp only[List.mem_cons,List.not_mem_nil,or_false] at h
 subst h;exact NN) (by decide+kernel)
theorem U9:aJ 1000000007:=cC 2 [(500000003,1)] (fun qe h=>by
 simp only[List.mem_cons,List.not_mem_nil,or_false] at h
 subst h;exact L0) (by decide+kernel)
theorem FF:aJ 331:=bK 21 (by decide) (by decide+kernel)
theorem EY:aJ 151:=bK 15 (by decide) (by decide+kernel)
theorem Ly:aJ 2147483647:=cC 3 [(331,1),(151,1)] (fun qe h=>by
 simp only[List.mem_cons,List.not_mem_nil,or_false] at h
 rcases h with rfl|rfl
 ·exact FF
 ·exact EY) (by decide+kernel)
theorem VP:aJ 250049:=bK 503 (by decide) (by decide+kernel)
theorem LP:aJ 26005097:=cC 2 [(250049,1)] (fun qe h=>by
 simp only[List.mem_cons,List.not_mem_nil,or_false] at h
 subst h;exact VP) (by decide+kernel)
theorem M4:aJ 1000000000039:=cC 2 [(26005097,1)] (fun qe h=>by
 simp only[List.mem_cons,List.not_mem_nil,or_false] at h
 subst h;exact LP) (by decide+kernel)
theorem Uq:aJ 234931:=bK 487 (by decide) (by decide+kernel)
theorem OA:aJ 8740842787:=cC 2 [(234931,1)] (fun qe h=>by
 simp only[List.mem_cons,List.not_mem_nil,or_false] at h
 subst h;exact Uq) (by decide+kernel)
theorem NW:aJ 52445056723:=cC 2 [(8740842787,1)] (fun qe h=>by
 simp only[List.mem_cons,List.not_mem_nil,or_false] at h
 subst h;exact OA) (by decide+kernel)
theorem Jx:aJ 1000000000000000003:=cC 2 [(52445056723,1)] (fun qe h=>by
 simp only[List.mem_cons,List.not_mem_nil,or_false] at h
 subst h;exact NW) (by decide+kernel)
theorem Gu:aJ 15331:=bK 126 (by decide) (by decide+kernel)
theorem Ph:aJ 2131:=bK 49 (by decide) (by decide+kernel)
theorem LK:aJ 5594472617641:=cC 2 [(15331,1),(2131,1)] (fun qe h=>by
 simp only[List.mem_cons,List.not_mem_nil,or_false] at h
 rcases h with rfl|rfl
 ·exact Gu
 ·exact Ph) (by decide+kernel)
theorem Td:aJ 18446744073709551557:=cC 2 [(5594472617641,1)] (fun qe h=>by
 simp only[List.mem_cons,List.not_mem_nil,or_false] at h
 subst h;exact LK) (by decide+kernel)
theorem JV:aJ 1321:=bK 39 (by decide) (by decide+kernel)
theorem J1:aJ 61:=bK 10 (by decide) (by decide+kernel)
theorem Pn:aJ 2305843009213693951:=cC 3 [(1321,1),(331,1),(151,1),(61,1)] (fun qe h=>by
 simp only[List.mem_cons,List.not_mem_nil,or_false] at h
 rcases h with rfl|rfl|rfl|rfl
 ·exact JV
 ·exact FF
 ·exact EY
 ·exact J1) (by decide+kernel)
theorem HR:aJ 8707:=bK 96 (by decide) (by decide+kernel)
theorem Tt:aJ 1913:=bK 46 (by decide) (by decide+kernel)
theorem RO:aJ 2931542417:=cC 3 [(8707,1),(1913,1)] (fun qe h=>by
 simp only[List.mem_cons,List.not_mem_nil,or_false] at h
 rcases h with rfl|rfl
 ·exact HR
 ·exact Tt) (by decide+kernel)
theorem Lc:aJ 2113:=bK 48 (by decide) (by decide+kernel)
theorem RY:aJ 683:=bK 29 (by decide) (by decide+kernel)
theorem Rm:aJ 618970019642690137449562111:=cC 3 [(2931542417,1),(2113,1),(683,1)] (fun qe h=>by
 simp only[List.mem_cons,List.not_mem_nil,or_false] at h
 rcases h with rfl|rfl|rfl
 ·exact RO
 ·exact Lc
 ·exact RY) (by decide+kernel)
theorem M3:aJ 1097:=bK 36 (by decide) (by decide+kernel)
theorem OY:aJ 131:=bK 14 (by decide) (by decide+kernel)
theorem Uo:aJ 67254877:=cC 2 [(1097,1),(131,1)] (fun qe h=>by
 simp only[List.mem_cons,List.not_mem_nil,or_false] at h
 rcases h with rfl|rfl
 ·exact M3
 ·exact OY) (by decide+kernel)
theorem MS:aJ 28059810762433:=cC 3 [(67254877,1)] (fun qe h=>by
 simp only[List.mem_cons,List.not_mem_nil,or_false] at h
 subst h;exact Uo) (by decide+kernel)
theorem PF:aJ 53:=bK 10 (by decide) (by decide+kernel)
theorem O5:aJ 37:=bK 9 (by decide) (by decide+kernel)
theorem Vr:aJ 13:=bK 6 (by decide) (by decide+kernel)
theorem Wv:aJ 20394401:=cC 3 [(53,1),(37,1),(13,1)] (fun qe h=>by
 simp only[List.mem_cons,List.not_mem_nil,or_false] at h
 rcases h with rfl|rfl|rfl
 ·exact PF
 ·exact O5
 ·exact Vr) (by decide+kernel)
theorem Uk:aJ 162259276829213363391578010288127:=cC 3 [(28059810762433,1),(20394401,1)] (fun qe h=>by
 simp only[List.mem_cons,List.not_mem_nil,or_false] at h
 rcases h with rfl|rfl
 ·exact MS
 ·exact Wv) (by decide+kernel)
theorem Vj:aJ 699053:=bK 839 (by decide) (by decide+kernel)
theorem Ln:aJ 77158673929:=cC 3 [(699053,1)] (fun qe h=>by
 simp only[List.mem_cons,List.not_mem_nil,or_false] at h
 subst h;exact Vj) (by decide+kernel)
theorem G0:aJ 649657:=bK 809 (by decide) (by decide+kernel)
theorem GW:aJ 92737:=bK 307 (by decide) (by decide+kernel)
theorem VH:aJ 170141183460469231731687303715884105727:=cC 3 [(77158673929,1),(649657,1),(92737,1)] (fun qe h=>by
 simp only[List.mem_cons,List.not_mem_nil,or_false] at h
 rcases h with rfl|rfl|rfl
 ·exact Ln
 ·exact G0
 ·exact GW) (by decide+kernel)
theorem KU:aJ 7963:=bK 92 (by decide) (by decide+kernel)
theorem Pr:aJ 3011:=bK 57 (by decide) (by decide+kernel)
theorem Wi:aJ 575438233:=cC 2 [(7963,1),(3011,1)] (fun qe h=>by
 simp only[List.mem_cons,List.not_mem_nil,or_false] at h
 rcases h with rfl|rfl
 ·exact KU
 ·exact Pr) (by decide+kernel)
theorem Lf:aJ 52316542391429:=cC 2 [(575438233,1)] (fun qe h=>by
 simp only[List.mem_cons,List.not_mem_nil,or_false] at h
 subst h;exact Wi) (by decide+kernel)
theorem RC:aJ 104633084782859:=cC 2 [(52316542391429,1)] (fun qe h=>by
 simp only[List.mem_cons,List.not_mem_nil,or_false] at h
 subst h;exact Lf) (by decide+kernel)
theorem TX:aJ 179:=bK 16 (by decide) (by decide+kernel)
theorem SV:aJ 31:=bK 8 (by decide) (by decide+kernel)
theorem Qo:aJ 7935071:=cC 2 [(179,1),(31,1)] (fun qe h=>by
 simp only[List.mem_cons,List.not_mem_nil,or_false] at h
 rcases h with rfl|rfl
 ·exact TX
 ·exact SV) (by decide+kernel)
theorem Ss:aJ 15870143:=cC 2 [(7935071,1)] (fun qe h=>by
 simp only[List.mem_cons,List.not_mem_nil,or_false] at h
 subst h;exact Qo) (by decide+kernel)
theorem OZ:aJ 401321030361983486780957614729:=cC 2 [(104633084782859,1),(15870143,1)] (fun qe h=>by
 simp only[List.mem_cons,List.not_mem_nil,or_false] at h
 rcases h with rfl|rfl
 ·exact RC
 ·exact Ss) (by decide+kernel)
theorem Vd:aJ 1000000000000000000000000000000000000003:=cC 2 [(401321030361983486780957614729,1)] (fun qe h=>by
 simp only[List.mem_cons,List.not_mem_nil,or_false] at h
 subst h;exact OZ) (by decide+kernel)
theorem Od:aJ 25733:=bK 163 (by decide) (by decide+kernel)
theorem G8:aJ 1151:=bK 36 (by decide) (by decide+kernel)
theorem Vn:aJ 4916701379:=cC 2 [(25733,1),(1151,1)] (fun qe h=>by
 simp only[List.mem_cons,List.not_mem_nil,or_false] at h
 rcases h with rfl|rfl
 ·exact Od
 ·exact G8) (by decide+kernel)
theorem Po:aJ 83:=bK 12 (by decide) (by decide+kernel)
theorem Jl:aJ 23:=bK 7 (by decide) (by decide+kernel)
theorem NU:aJ 1676254721:=cC 5 [(83,1),(23,1),(7,3)] (fun qe h=>by
 simp only[List.mem_cons,List.not_mem_nil,or_false] at h
 rcases h with rfl|rfl|rfl
 ·exact Po
 ·exact Jl
 ·exact yN) (by decide+kernel)
theorem WH:aJ 149927568276670622397029177:=cC 2 [(4916701379,1),(1676254721,1)] (fun qe h=>by
 simp only[List.mem_cons,List.not_mem_nil,or_false] at h
 rcases h with rfl|rfl
 ·exact Vn
 ·exact NU) (by decide+kernel)
theorem VC:aJ 9999999999999999999999999999999999999983:=cC 2 [(149927568276670622397029177,1)] (fun qe h=>by
 simp only[List.mem_cons,List.not_mem_nil,or_false] at h
 subst h;exact WH) (by decide+kernel)
end PC
namespace L2
open PC
def eW(p:Int):Prop:=2<=p/\∀d:Int,0<d->d∣p->d=1\/d=p
theorem dG{n:Nat}(h:aJ n):eW (n:Int):=by
 refine⟨by have:=h.1;omega,fun d d0 hd=>?_⟩
 obtain⟨k,rfl⟩:=Int.eq_ofNat_of_zero_le (Int.le_of_lt d0)
 rcases h.2 k (Int.natCast_dvd_natCast.mp hd) with e|e
 ·left;rw[e];rfl
 ·right;rw[e]
theorem V8{p:Int}(h2:2<=p)(h:pU p):eW p:=by
 obtain⟨n,rfl⟩:=Int.eq_ofNat_of_zero_le (show 0<=p by omega)
 refine dG (FH (by omega) fun e e1 e2 e3=>?_)
 refine h (e:Int) (by omega) (by rw[<-Int.natCast_mul];exact Int.ofNat_le.mpr e2) ?_
 have:=congrArg (Nat.cast:Nat->Int) e3
 simpa using this
theorem RI:∀p∈sN,eW p:=by
 intro p hp
 simp only[sN,List.mem_cons,List.not_mem_nil,or_false] at hp
 rcases hp with rfl|rfl|rfl|rfl|rfl|rfl|rfl|rfl|rfl|rfl|rfl|rfl|rfl|rfl|rfl|rfl|rfl|rfl|rfl|rfl|rfl|rfl
 ·exact dG wH
 ·exact dG HN
 ·exact dG G2
 ·exact dG yN
 ·exact dG wH
 ·exact dG Qj
 ·exact dG NO
 ·exact dG La
 ·exact dG P9
 ·exact dG Ic
 ·exact dG K6
 ·exact dG U9
 ·exact dG Ly
 ·exact dG M4
 ·exact dG Jx
 ·exact dG Td
 ·exact dG Pn
 ·exact dG Rm
 ·exact dG Uk
 ·exact dG VH
 ·exact dG Vd
 ·exact dG VC
def pS:Sp:=fun vs H Q _=>∃p b:Int,vs=[.int p, .int b]/\eW p/\p<10^40/\b%p≠0/\∀u:Int,0<=u->u<p->(∃k,u*b=1+p*k)->Q (.int u) H
end L2
set_option maxRecDepth 100000
set_option maxHeartbeats 4000000
namespace L2
open PySem PySem.Spec PyProof.Rows
theorem Si{p a b:Int}(hp:eW p)(h:p∣a*b)(ha:¬p∣a):p∣b:=by
 have p2:=hp.1
 have g1:((Int.gcd a p:Nat):Int)∣p:=Int.gcd_dvd_right ..
 have g2:((Int.gcd a p:Nat):Int)∣a:=Int.gcd_dvd_left ..
 have g0:0<((Int.gcd a p:Nat):Int):=by
  have:Int.gcd a p≠0:=fun z=>by have:=(Int.gcd_eq_zero_iff.mp z).2;omega
  omega
 rcases hp.2 _ g0 g1 with e|e
 ·have c:Nat.Coprime p.natAbs a.natAbs:=by
   show Nat.gcd p.natAbs a.natAbs=1
   have:Int.gcd a p=1:=by omega
   rw[Nat.gcd_comm];exact this
  have h':p.natAbs∣b.natAbs*a.natAbs:=by rw[Nat.mul_comm,<-Int.natAbs_mul];exact Int.natAbs_dvd_natAbs.mpr h
  exact Int.natAbs_dvd_natAbs.mp (c.dvd_of_dvd_mul_right h')
 ·rw[e] at g2;exact absurd g2 ha
theorem LL{p a b:Int}(ha:0<=a)(ha':a<p)(hb:0<=b)(hb':b<p)(h:p∣a-b):a=b:=by
 obtain⟨k,e⟩:=h
 rcases Int.lt_trichotomy k 0 with z|z|z
 ·have:p*k<=p*(-1):=Int.mul_le_mul_of_nonneg_left (by omega) (by omega)
  omega
 ·subst z;omega
 ·have:p*1<=p*k:=Int.mul_le_mul_of_nonneg_left (by omega) (by omega)
  omega
end L2
set_option maxRecDepth 100000
set_option maxHeartbeats 4000000
namespace L2
open PySem PySem.Spec PyProof.Rows
section
variable{X:Cx}{pins:List (Addr×Obj)}{σ:List (Option V)}{H:Hp}{s:Shared}{h':Heap}
theorem Inv.Rx{t':Nat}{e it T:Addr}{o:HO}(I:Inv X pins σ H s)(k:∀b u,b≠e->b≠it->s.heap.get? b=some u->h'.get? b=some u)(fe:fG X pins H e)(fi:fG X pins H it)(hT:s.heap.objs.size<=T)(vH:T≠e)(vO:T≠it)
  (le:∃u,s.heap.get? e=some u) (li:∃u,s.heap.get? it=some u) (new:bW X.prog X.w (upd H T o) h' T o):Inv X pins σ (upd H T o) {s with heap:=h',toks:=t'}:=by
 have hn:=I.hok.fresh hT
 obtain⟨e0,e1,e2,e3,e4,e5⟩:=fe
 obtain⟨i0,i1,i2,i3,i4,i5⟩:=fi
 have ne:∀b u,H b=some u->b≠e:=fun b u q z=>by rw[z,e0] at q;cases q
 have ni:∀b u,H b=some u->b≠it:=fun b u q z=>by rw[z,i0] at q;cases q
 have nT:∀b u,H b=some u->b≠T:=fun b u q z=>by rw[z,hn] at q;cases q
 refine I.step (g':=s.gens) (d':=s.drawn) (ch:=[e,it]) (fun b hb=>?_) (fun b o _ _ hc q _=>k b o (fun z=>hc (by simp[z])) (fun z=>hc (by simp[z])) q) (fun b o _ _ hc q _=>⟨o.slots,k b o (fun z=>hc (by simp[z])) (fun z=>hc (by simp[z])) q⟩)
  (fun b o hc q n=>?_) (fun b o hc q=>⟨o,k b o (fun z=>hc (by simp[z])) (fun z=>hc (by simp[z])) q⟩) (fun b xs q=>by rw[aF (nT b _ q)];exact q) (fun b o u q=>by rw[aF (nT b _ q)];exact q) (fun b ps q=>⟨#[],by rw[aF (nT b _ q),q];simp⟩) (fun m hm=>?_) (fun b u q=>?_) I.bare
 ·rcases(show b=e\/b=it by simpa using hb) with z|z
  ·subst z;exact⟨e3,e1,e4,e5⟩
  ·subst z;exact⟨i3,i1,i4,i5⟩
 ·rw[aF (fun z=>absurd (Nat.lt_of_lt_of_le (Heap.lt_size q) (by rw[z];exact hT)) (Nat.lt_irrefl _))];exact n
 ·obtain⟨o,es,ep,ho,r⟩:=hm
  exact⟨o,es,ep,k _ o (Ne.symm e1) (Ne.symm i1) ho,r⟩
 ·by_cases hb:b=T
  ·subst hb;rw[bq] at q;cases q;exact new
  ·rw[aF hb] at q
   refine(I.hok b u q).stay (fun c v hc z=>?_) (fun c z=>by rw[aF (nT c _ z)];exact z) fun c xs z=>by rw[aF (nT c _ z)];exact z
   rcases hc with y|y
   ·subst y;exact k _ v (ne _ u q) (ni _ u q) z
   ·exact k c v (ne c _ y) (ni c _ y) z
theorem Inv.QF{t':Nat}{e it:Addr}(I:Inv X pins σ H s)(k:∀b u,b≠e->b≠it->s.heap.get? b=some u->h'.get? b=some u)(fe:fG X pins H e)(fi:fG X pins H it):Inv X pins σ H {s with heap:=h',toks:=t'}:=by
 obtain⟨e0,e1,e2,e3,e4,e5⟩:=fe
 obtain⟨i0,i1,i2,i3,i4,i5⟩:=fi
 have ne:∀b u,H b=some u->b≠e:=fun b u q z=>by rw[z,e0] at q;cases q
 have ni:∀b u,H b=some u->b≠it:=fun b u q z=>by rw[z,i0] at q;cases q
 refine I.step (g':=s.gens) (d':=s.drawn) (ch:=[e,it]) (fun b hb=>?_) (fun b o _ _ hc q _=>k b o (fun z=>hc (by simp[z])) (fun z=>hc (by simp[z])) q) (fun b o _ _ hc q _=>⟨o.slots,k b o (fun z=>hc (by simp[z])) (fun z=>hc (by simp[z])) q⟩)
  (fun _ _ _ _ n=>n) (fun b o hc q=>⟨o,k b o (fun z=>hc (by simp[z])) (fun z=>hc (by simp[z])) q⟩) (fun _ _ q=>q) (fun _ _ _ q=>q) (fun b ps q=>⟨#[],by rw[q];simp⟩) (fun m hm=>?_) (fun b u q=>?_) I.bare
 ·rcases(show b=e\/b=it by simpa using hb) with z|z
  ·subst z;exact⟨e3,e1,e4,e5⟩
  ·subst z;exact⟨i3,i1,i4,i5⟩
 ·obtain⟨o,es,ep,ho,r⟩:=hm
  exact⟨o,es,ep,k _ o (Ne.symm e1) (Ne.symm i1) ho,r⟩
 ·refine(I.hok b u q).stay (fun c v hc z=>?_) (fun c z=>z) fun c xs z=>z
  rcases hc with y|y
  ·subst y;exact k _ v (ne _ u q) (ni _ u q) z
  ·exact k c v (ne c _ y) (ni c _ y) z
end
def qP(K:PySem.W.Frag)(a:Addr):It:=
 ⟨fun i H=>∃xs x,aL K H a xs/\xs[i]?=some x,fun i H x H'=>∃p y,x= .ref p/\H p=none/\(∀xs,aL K H a xs->xs[i]?=some y)/\H'=upd H p (.tup [.int i,y]),fun i H=>∃xs,aL K H a xs/\xs.length=i⟩
theorem SR{P:Program}{w:World}{K:PySem.W.Frag}{elts:List Expr}{k:Nat}{pos:Pos}(a e it:Addr)(hei:e≠it):
  Turn P w K (.Tuple elts k pos) (qP K a) [e,it] e (fun i h=>(∃old,IsEnum h e it i old)/\h.IsListIter it a i) where
 mem:=by simp
 obj:=fun i h st b hb=>by
  obtain⟨⟨old,s1⟩,⟨o,e1,c,d⟩⟩:=st
  rcases(show b=e\/b=it by simpa using hb) with z|z
  ·subst z
   exact⟨_,s1,fun v z=>by
    have z':Data.fields _=Data.cell v:=z
    cases z'⟩
  ·subst z
   exact⟨o,e1,fun v z=>by rw[d] at z;cases z⟩
 keep:=fun i h h' st k=>⟨let ⟨old,s1⟩:=st.1;⟨old,k e (by simp) _ s1⟩,st.2.at fun o q=>k it (by simp) o q⟩
 item:=by
  intro X hP hw hK hc i pins s σ H E I hf st hg
  subst hP hw hK
  obtain⟨xs,x,hq,hx⟩:=hg
  obtain⟨its,rv,p,hz⟩:=I.list hq
  obtain⟨u,hu,ru⟩:=rv.get hx
  have fe:=hf e (by simp)
  have fi:=hf it (by simp)
  obtain⟨⟨old,s1⟩,s2⟩:=st
  obtain⟨ol,l1,l2,l3⟩:=id p.isList
  obtain⟨oi,i1,i2,i3⟩:=id s2
  have zO:a≠e:=fun z=>by
   subst z
   rw[s1] at l1;cases l1
   exact absurd l2 (by simp)
  have hai:a≠it:=fun z=>by
   subst z
   rw[i1] at l1;cases l1
   rw[i2] at l2
   exact absurd l2 (by simp)
  have W:=WalksT.enumerate (prog:=X.prog) (w:=X.w) (I.ok.hd hc) e it a hei zO hai its.toArray
  have hi:i<its.toArray.size:=by
   have:=(List.getElem?_eq_some_iff.mp hu).1
   simpa using this
  refine W.item i s _ _ hi ⟨⟨old,s1⟩,s2,p.isList⟩ fun T vals h' tk hv hT zM lI kp=>⟨.ref T,rfl,?_⟩
  refine W.go elts k pos i T _ _ _ lI fun h'' st' nL=>?_
  obtain⟨t,x',hx',uz⟩:=hv
  have JI:x'=u:=by
   have:its.toArray[i]?=some u:=by simpa using hu
   rw[hx'] at this;exact Option.some.inj this
  subst JI uz
  have zu:=W.apart i T h' lI
  obtain⟨_,_,_,vH,vO⟩:=lI
  obtain⟨oT,t1,t2,nT,t3⟩:=zM
  have t1':=nL T oT zu t1
  refine⟨.ref T,upd H T (.tup [.int i,x]),I.Rx (fun b v h1 h2 q=>nL b v (by simp[h1,h2]) (kp b v (by simp[h1,h2]) q)) fe fi hT vH vO ⟨_,s1⟩ ⟨_,i1⟩ ?_,rfl,⟨T,x,rfl,I.hok.fresh hT,fun ys hy=>by rw[I.rC hy hq];exact hx,rfl⟩,⟨st'.1,st'.2.1⟩,fun b hb=>?_⟩
  ·exact⟨by show 2<=sizeLine;decide,[.int i t,x'], .cons ⟨t,rfl⟩ (.cons ru .nil),oT,t1',t2,nT,t3⟩
  ·rw[aF,(hf b hb).1]
   rcases(show b=e\/b=it by simpa using hb) with z|z
   ·rw[z];exact Ne.symm vH
   ·rw[z];exact Ne.symm vO
 done:=by
  intro X hP hw hK hc i pins s σ H E I hf st hg
  subst hP hw hK
  obtain⟨xs,hq,hx⟩:=hg
  obtain⟨its,rv,p,hz⟩:=I.list hq
  have fe:=hf e (by simp)
  have fi:=hf it (by simp)
  obtain⟨⟨old,s1⟩,s2⟩:=st
  obtain⟨ol,l1,l2,l3⟩:=id p.isList
  obtain⟨oi,i1,i2,i3⟩:=id s2
  have hl:=rv.length
  have zO:a≠e:=fun z=>by
   subst z
   rw[s1] at l1;cases l1
   exact absurd l2 (by simp)
  have hai:a≠it:=fun z=>by
   subst z
   rw[i1] at l1;cases l1
   rw[i2] at l2
   exact absurd l2 (by simp)
  have W:=WalksT.enumerate (prog:=X.prog) (w:=X.w) (I.ok.hd hc) e it a hei zO hai its.toArray
  have hn:its.toArray.size=i:=by rw[List.size_toArray];omega
  refine W.done s _ _ (by rw[hn];exact⟨⟨old,s1⟩,s2,p.isList⟩) fun h' tk kp=>⟨rfl,?_⟩
  exact I.QF (fun b v h1 h2 q=>kp b v (by simp[h1,h2]) q) fe fi
 self:=fun _ _ _ _ _ st h=>let ⟨old,s1⟩:=st.1;wpAny_pyIter_enum s1 h
def Ak(K:PySem.W.Frag)(tl:TE):TI:=fun σ H R=>tl σ H fun x H1=>∃a,x= .ref a/\(∃xs,aL K H1 a xs)/\R (qP K a) H1
theorem qj{X:Cx}{K:PySem.W.Frag}{elts:List Expr}{k:Nat}{tpos:Pos}{l:Expr}{tl:TE}{p pos:Pos}(hK:X.K=K)(hg:Gl X "enumerate")(hm:X.mg "enumerate"=none)(hl:PE X l tl)(hs:starEach [l] X.env=[(false,eval l X.env)]:=by rfl):
    PI X (.Tuple elts k tpos) (.Call (.Name "enumerate" p) [l] [] pos) (Ak K tl):=by
  subst hK
  intro pins s σ H R I h
  have ha:PA X [l] (ck tl cT):=aa hl ak (by rw[hs];rfl)
  refine Call_ (jw I hg hm boot_enumerate (PyProof.Rows.callWith_type1 (aP (ha pos pins s σ H (fun vs H1=>match vs with|[x]=>∃a,x= .ref a/\(∃xs,aL X.K H1 a xs)/\R (qP X.K a) H1|_=>False) I h) fun us s1 ⟨vs,H1,I1,r1,q1⟩=>?_) hs rfl))
  cases r1 with
  |nil=>exact q1.elim
  | cons r rr =>
    cases rr with
    |cons _ _=>exact q1.elim
    |nil=>
    obtain⟨a,e2,⟨xs,hq⟩,q⟩:=q1
    subst e2
    cases r
    obtain⟨its,rv,p,hz⟩:=I1.list hq
    obtain⟨m,hn,_⟩:=I1.loc
    refine enum_rows (h₀:={objs:= #[]}) (L:=X.env.locals) (m:=m) ⟨hn,fun b o z=>?_,Nat.zero_le _⟩ p.isList fun h' e1 e2 e3 e4 kp ne n1 n2 _ _=>?_
    · cases z
    refine wpAny_pyIter_enum e1 ?_
    have I2:Inv X pins σ H1 {s1 with heap:=h'}:=I1.kept (t':=s1.toks) kp
    refine⟨s1.heap.objs.size+1,[s1.heap.objs.size+1,s1.heap.objs.size],_,_,H1,rfl,I2,SR a _ _ ne,⟨⟨_,e1⟩,e2⟩,fun b hb=>?_,q⟩
    rcases(show b=s1.heap.objs.size+1\/b=s1.heap.objs.size by simpa using hb) with z|z
    · subst z;exact I1.lF (Nat.le_succ _) (I1.hok.fresh (Nat.le_succ _))
    · subst z;exact I1.lF (Nat.le_refl _) (I1.hok.fresh (Nat.le_refl _))
end L2
set_option maxRecDepth 100000
set_option maxHeartbeats 4000000
namespace L2
open PySem PySem.Spec PyProof.Rows
theorem R.Jf{K:PySem.W.Frag}{a:Addr}{xs:List V}{g:TG}{tc:TT}{te:TE}{acc:Addr}{Qe:Hp->Prop}{σ:St}{H:Hp}(Pv:Nat->St->Hp->Prop)(h0:Pv 0 σ H)(hl:∀i σ H,i<=xs.length->Pv i σ H->aL K H a xs)
  (hs:∀i x σ H p,xs[i]?=some x->Pv i σ H->H p=none->g (.ref p) σ (upd H p (.tup [.int i,x])) fun σ2 H2=>tc σ2 H2 fun b H3=>if b=true then te σ2 H3 fun v H4=>∃ys,H4 acc=some (.lst ys)/\ys.length<sizeLine/\Pv (i+1) σ2 (upd H4 acc (.lst (ys++[v]))) else Pv (i+1) σ2 H3)
  (hd:∀σ H,Pv xs.length σ H->Qe H):kN (qP K a) g tc te acc Qe σ H:=by
 refine⟨fun i m σ H=>m=xs.length-i/\i<=xs.length/\Pv i σ H,⟨xs.length,by simp,Nat.zero_le _,h0⟩,?_⟩
 rintro i m σ H ⟨rfl,hi,p⟩
 have q:=hl i σ H hi p
 by_cases hlt:i<xs.length
 ·refine .inr ⟨⟨xs,xs[i],q,by simp[hlt]⟩,Pv (i+1),fun σ' H' p'=>⟨xs.length-(i+1),by omega,rfl,hlt,p'⟩,fun x H' y=>?_⟩
  obtain⟨pp,y,e,hn,hy,e2⟩:=y
  subst e e2
  exact hs i y σ H pp (hy xs q) p hn
 ·have e:i=xs.length:=by omega
  subst e
  exact .inl ⟨⟨xs,q,rfl⟩,hd σ H p⟩
section
variable{G:Gx}{ρ bM:Rh}{te:TE}{s:TS}{gt:TG}{E:DE}{K:PySem.W.Frag}{Θ:Bool->List PyData->Prop}{tc:TT}{mp:List (Option Nat)}
theorem Sv.As(h:Ev G ρ te fun f x=>∃ds,x= .list ds/\∀v,nh (G.hd f (.list ds) v) ρ ds.length (fun i d=>∃e,ds[i]?=some e/\d= .tuple [.int i,e]) f gt s E):Sv G ρ (mK (Ak K te) gt s) E:=fun nb σ H D W KK=>
 h nb σ H _ W fun f v H1 x ⟨ds,ex,q⟩ s1 hv=>by
  subst ex
  obtain⟨I,h0,ht,he⟩:=q v
  have W1:=(W.step s1).hd hv
  obtain⟨a,xs,rfl,n,hx,hd⟩:=hv.cO
  have key:∀{nb ρ' σ H},Wd (G.hd f (.list ds) (.ref a)) nb ρ' σ H->∃xs,H a=some (.lst xs)/\ai (G.S nb f) H ds xs:=fun W=>by
   obtain⟨a',xs',e',_,h',d'⟩:=W.eU.2.cO
   cases e'
   exact⟨xs',h',d'⟩
  refine⟨a,rfl,⟨xs, .of hx⟩,?_⟩
  refine⟨fun i m σ H=>m=ds.length-i/\i<=ds.length/\∃nb ρ',I i ρ'/\Wd (G.hd f (.list ds) (.ref a)) nb ρ' σ H,⟨ds.length,by simp,Nat.zero_le _,nb,ρ,h0,W1⟩,?_⟩
  rintro i m σ H ⟨rfl,hi,nb,ρ',hI,W⟩
  obtain⟨ys,hy,hD⟩:=key W
  have hl:=hD.length
  by_cases hlt:i<ds.length
  ·refine .inr ⟨⟨ys,ys[i]'(by omega), .of hy,List.getElem?_eq_getElem _⟩,fun σ H=>∃nb ρ',I (i+1) ρ'/\Wd (G.hd f (.list ds) (.ref a)) nb ρ' σ H,fun σ' H' q=>⟨ds.length-(i+1),by omega,rfl,hlt,q⟩,fun x H' y=>?_⟩
   obtain⟨p,y,e,hn,hz,e2⟩:=y
   subst e e2
   have hx:=hz ys (.of hy)
   obtain⟨x',hx',dx⟩:=hD.get (List.getElem?_eq_getElem hlt)
   rw[hx] at hx';cases hx'
   have st:Step (G.hd f (.list ds) (.ref a)).B H (upd H p (.tup [.int i,y])):= .same W.au (cV hn)
   refine ht i _ ρ' ⟨_,List.getElem?_eq_getElem hlt,rfl⟩ hI nb σ _ _ _ (W.step st) (.tup (W.fresh hn) bq (.cons (.int _) (.cons (dx.keep st.cU) .nil))) fun σ2 eK q W2=>q nb σ2 _ _ W2 ?_
   exact⟨fun nb ρ σ H q W=>⟨nb,ρ,q,W⟩,fun nb ρ σ H q W=>KK.nx nb ρ σ H q W.eU.1,fun nb ρ σ H q W=>⟨nb,ρ,q,W⟩,fun nb ρ σ f v H d q W hv=>KK.rt nb ρ σ f v H d q W.eU.1 hv,fun nb ρ σ v H q W=>KK.rw nb ρ σ v H q W.eU.1⟩
  ·have e:i=ds.length:=by omega
   subst e
   exact .inl ⟨⟨ys, .of hy,by omega⟩,KK.nx nb ρ' σ H (he ρ' hI) W.eU.1⟩
theorem aC.Jq{t0:TE}(hm:(mp.filterMap id).Nodup)(dz:iW mp ρ=bM)(h:Ev G ρ t0 fun fi x=>∃es,x= .list es/\es.length<=10000/\∀v,fF (G.hd fi (.list es) v) bM es.length (fun i d=>∃e,es[i]?=some e/\d= .tuple [.int i,e]) fi gt tc te Θ):aC G ρ (jN (Ak K t0) gt tc te mp) Θ:=fun nb σ H Q W z=>
 h nb σ H _ W fun fi v H1 x ⟨es,ex,hn,q⟩ s1 hv=>by
  subst ex
  obtain⟨fl,I,h0,ht,he⟩:=q v
  have W0:=(W.step s1).hd hv
  obtain⟨a,xs,rfl,n,hx,hd⟩:=hv.cO
  refine⟨a,rfl,⟨xs, .of hx⟩,fun acc hacc=>?_⟩
  have jO:Wd (G.hd fi (.list es) (.ref a)) nb bM (L2.dZ mp σ) H1:=by rw[<-dz];exact W0.dZ hm
  have W1:=jO.more hacc (o:= .lst [])
  have hN:=NB.new s1.2 hacc
  have hno:=qK jO hacc
  have iS:Step G.B H1 (upd H1 acc (.lst [])):= .same s1.2 (cV hacc)
  have jG:NB G.B a:=Classical.byContradiction fun z=>n (.inr (.inr (.inl z)))
  refine R.Jf (xs:=xs) (fun i σ H=>∃ds ys,Wd (G.hd fi (.list es) (.ref a)) (fun x=>nb x\/x=acc) bM σ H/\Step G.B H1 H/\H acc=some (.lst ys)/\ai (G.S (fun x=>nb x\/x=acc) fl) H ds ys/\ds.length<=i/\I i ds/\H a=some (.lst xs)) ⟨[],[],W1,iS,bq, .nil,Nat.le_refl _,h0,iS.1 _ _ jG hx⟩ ?_ ?_ ?_
  ·rintro i σ H hi ⟨ds,ys,W,st,_,_,_,_,ha⟩
   exact .of ha
  ·rintro i x σ H p hi ⟨ds,ys,W,st,hy,hd',hl,hI,ha⟩ hp
   obtain⟨a',xs',e',_,h',d'⟩:=W.eU.2.cO
   cases e'
   rw[ha] at h';cases h'
   have hil:i<es.length:=by have:=(List.getElem?_eq_some_iff.mp hi).1;have:=d'.length;omega
   obtain⟨x',hx',dx⟩:=d'.get (List.getElem?_eq_getElem hil)
   rw[hi] at hx';cases hx'
   have st2:Step (G.hd fi (.list es) (.ref a)).B H (upd H p (.tup [.int i,x])):= .same W.au (cV hp)
   have hap:acc≠p:=fun z=>by subst z;rw[hp] at hy;cases hy
   have Xk:a≠p:=fun z=>by subst z;rw[hp] at ha;cases ha
   refine sE (G:=G.hd fi (.list es) (.ref a)) hn hil (W.step st2) (.inr rfl) hN hno (st.trans st2) hacc (by rw[aF hap];exact hy) (hd'.keep st2.cU) hl (.tup (W.fresh hp) bq (.cons (.int _) (.cons (dx.keep st2.cU) .nil))) (ht i _ ds ⟨_,List.getElem?_eq_getElem hil,rfl⟩ hl hI) fun σ' H' ds' xs' W' st' hx' hd' hl' hI'=>⟨ds',xs',W',st',hx',hd',hl',hI',st'.1 _ _ jG hx⟩
  ·rintro σ H' ⟨ds,ys,W',st,hy,hd',hl,hI,_⟩
   rw[hd.length] at hl hI
   exact rA W s1 hacc st hy hd' (he ds hl hI) z
end
end L2
set_option maxRecDepth 100000
set_option maxHeartbeats 4000000
namespace L2
open PySem PySem.Spec PyProof.Rows
section
variable{G:Gx}{ρ:Rh}{Φ:Pd}{te:TE}{t:TA}{i n:Nat}{f:Bool}{ds:List PyData}{Θ:List PyData->Prop}
theorem Ev.tupS(h:Av G ρ t fun es=>es.length<=10000/\Φ (gY es||cN (es.map (·.2))) (.tuple (es.map (·.2)))):Ev G ρ (rD t) Φ:=fun nb σ H Q W z=>
 h nb σ H _ W fun es vs H1 ⟨hl,p⟩ s1 q1=>⟨Nat.le_trans (by rw[q1.len];exact hl) (by decide),fun a ha=>z _ _ _ _ p (s1.trans (.same (W.step s1).au (cV ha))) (by
  cases hs:cN (es.map (·.2)) with
  |true=>rw[Bool.or_true];exact .tup ((W.step s1).fresh ha) bq ((q1.all (f:=false) fun z=>by cases z).gu hs)
  |false=>rw[Bool.or_false];exact .tup ((W.step s1).fresh ha) bq ((q1.all fun z=>z).keep (aW.of (cV ha))))⟩
theorem Ev.P6(h:Ev G ρ te fun _ x=>∃n:Int,x= .int n/\2<=n/\n<=10002/\∀r:Int,eW r->r<10^40->Φ true (.int r)):Ev G ρ (fW yV [] E0 (ck te cT)) Φ:=fun nb σ H Q W z=>
 h nb σ H _ W fun f v H1 d ⟨n,e,h1,h2,p⟩ s1 hv=>by
  subst e
  exact⟨n,by rw[hv.bP];rfl,h1,h2,fun r H' sm r1 r2 r3=>z true _ H' _ (p r (V8 r1 r3) (by omega)) (s1.trans (.same (W.step s1).au sm)) (.int r)⟩
theorem Ev.str{x:Str}(h:Φ true (.str x)):Ev G ρ (tC (.str x)) Φ:=fun nb σ H Q W z=>z true _ H _ h (.refl W.au) (by unfold af;rfl)
end
theorem Eu.fin{p b L lt t:Int}(h:Eu p b L lt 0 t)(hp:eW p)(hb:b%p≠0):∃k,lt%p*b=1+p*k:=by
 obtain⟨g1,g2⟩:=h.dv L (Int.dvd_refl L) (Int.dvd_zero L)
 have m1:=Int.emod_nonneg b (show p≠0 by have:=hp.1;omega)
 have m2:=Int.emod_lt_of_pos b (show 0<p by have:=hp.1;omega)
 have hL:L=1:=by
  rcases hp.2 L h.l0 g1 with e|e
  ·exact e
  ·exfalso
   rw[e] at g2
   have:=Int.le_of_dvd (by omega) g2
   omega
 obtain⟨k,hk⟩:=h.lc
 have e:=Int.mul_ediv_add_emod lt p
 refine⟨-k-lt/p*b,?_⟩
 have e2:lt%p=lt-p*(lt/p):=by omega
 rw[e2,Int.sub_mul,Int.mul_sub,Int.mul_neg,Int.mul_assoc]
 omega
noncomputable def sol(p b a:Int):Int:=open Classical in if h:∃x,0<=x/\x<p/\∃k,b*x-a=p*k then Classical.choose h else 0
theorem Vm{p b a x:Int}(hp:eW p)(hb:b%p≠0)(h0:0<=x)(h1:x<p)(hx:∃k,b*x-a=p*k):x=sol p b a:=by
 have ex:∃x,0<=x/\x<p/\∃k,b*x-a=p*k:=⟨x,h0,h1,hx⟩
 unfold sol
 rw[dif_pos ex]
 obtain⟨g0,g1,k',hk'⟩:=Classical.choose_spec ex
 generalize Classical.choose ex=y at*
 obtain⟨k,hk⟩:=hx
 refine LL h0 h1 g0 g1 (Si hp (a:=b) ⟨k-k',?_⟩ fun z=>hb (Int.emod_eq_zero_of_dvd z))
 rw[Int.mul_sub,Int.mul_sub];omega
theorem GP{p b a:Int}(hp:0<p):0<=sol p b a/\sol p b a<p:=by
 unfold sol
 split
 ·rename_i h
  obtain⟨g0,g1,_⟩:=Classical.choose_spec h
  exact⟨g0,g1⟩
 ·omega
def nK(wd:Wo):List Int:=((List.range wd.length).filter fun i=>wd[i]?==some none).map fun(i:Nat)=>(i:Int)
end L2
set_option maxRecDepth 100000
set_option maxHeartbeats 4000000
namespace L2
open PySem PySem.Spec PyProof.Rows
def rX(es:List Fd):Bool:=es.all fun e=>e.1||gp e.2
section
variable{G:Gx}{ρ:Rh}{Φ:Pd}{t:TA}{te:TE}
theorem iG.Em{nb:Addr->Prop}{H:Hp}:∀{es:List Fd} {vs:List V} {f:Bool},iG G nb H es vs->(f=true->rX es=true)->ai (G.S nb f) H (es.map (·.2)) vs
  |[],_,_,h,_=>by unfold iG at h;subst h;exact .nil
  | e :: es, _, f, h, hf => by
    obtain⟨v,ws,rfl,h1,h2⟩:=h
    have hh:f=true->(e.1||gp e.2)=true/\rX es=true:=fun z=>by
      have:=hf z
      unfold rX at this
      rw[List.all_cons,Bool.and_eq_true] at this
      exact this
    refine .cons ?_ (h2.Em fun z=>(hh z).2)
    cases hs:gp e.2 with
    |true=>exact h1.gu hs
    |false=>exact h1.av (cE (fun z=>by have:=(hh z).1;rw[hs,Bool.or_false] at this;exact this) fun _ z=>z)
theorem Ev.VI(h:Av G ρ t fun es=>es.length<=10000/\Φ (rX es) (.tuple (es.map (·.2)))):Ev G ρ (rD t) Φ:=fun nb σ H Q W z=>
 h nb σ H _ W fun es vs H1 ⟨hl,p⟩ s1 q1=>⟨Nat.le_trans (by rw[q1.len];exact hl) (by decide),fun a ha=>z _ _ _ _ p (s1.trans (.same (W.step s1).au (cV ha)))
  (.tup ((W.step s1).fresh ha) bq ((q1.Em fun z=>z).keep (aW.of (cV ha))))⟩
end
def SQ:R2:=fun x y H Q=>∃a b:Bool,x= .bl a/\y= .bl b/\Q (.bl (!(a==b))) H
theorem Ev.WY{G:Gx}{ρ:Rh}{ta:TE}{b:Bool}{Φ:Pd}(h:Ev G ρ ta fun _ x=>∃a,x= .bool a/\Φ true (.bool (!(a==b)))):Ev G ρ (bV SQ ta (tC (.bl b))) Φ:=fun nb σ H Q W z=>
 h nb σ H _ W fun f v H1 d ⟨a,e,q⟩ s1 hv=>by
  subst e
  unfold af at hv
  subst hv
  exact⟨a,b,rfl,rfl,z true _ H1 _ q s1 (.bl _)⟩
abbrev aX(r:List Int):PyData:= .list (r.map .int)
end L2
set_option maxRecDepth 100000
set_option maxHeartbeats 4000000
namespace L2
open PySem PySem.Spec PyProof.Rows
theorem ai.EB{S:Addr->Prop}{H:Hp}:∀{ds:List PyData} {xs:List V},ds.length=xs.length->(∀(i:Nat) d x,ds[i]?=some d->xs[i]?=some x->af S H d x)->ai S H ds xs
 |[],[],_,_=> .nil
 |[],_::_,h,_=>by simp at h
 |_::_,[],h,_=>by simp at h
 |d::ds,x::xs,h,q=> .cons (q 0 d x rfl rfl) (ai.EB (by simpa using h) fun i d' x' e1 e2=>q (i+1) d' x' (by simpa using e1) (by simpa using e2))
end L2
set_option maxRecDepth 100000
namespace L2
open PySem PySem.Spec PyProof.Rows
section
variable{κ:Type}[DecidableEq κ]
def fZ(kvs:List (κ×V))(k:κ):Option V:=(kvs.find? fun kv=>decide (kv.1=k)).map (·.2)
def putK(kvs:List (κ×V))(k:κ)(v:V):List (κ×V):=
 if(kvs.any fun kv=>decide (kv.1=k))=true then kvs.map (fun kv=>if kv.1=k then(kv.1,v) else kv) else kvs++[(k,v)]
theorem HB{k:κ}:fZ ([]:List (κ×V)) k=none:=rfl
theorem qd{p:κ×V}{r:List (κ×V)}{k:κ}(e:p.1=k):fZ (p::r) k=some p.2:=by simp[fZ,List.find?_cons,e]
theorem rY{p:κ×V}{r:List (κ×V)}{k:κ}(e:¬p.1=k):fZ (p::r) k=fZ r k:=by simp[fZ,List.find?_cons,e]
theorem uC(k:κ):∀kvs:List (κ×V),(kvs.any fun kv=>decide (kv.1=k))=(fZ kvs k).isSome
  |[]=>rfl
  | p :: r => by
    rw[List.any_cons]
    by_cases e:p.1=k
    · simp only[qd e,decide_eq_true e,Bool.true_or,Option.isSome_some]
    · rw[rY e,decide_eq_false e,Bool.false_or];exact uC k r
theorem T9(kvs:List (κ×V))(k:κ)(v:V):(putK kvs k v).length<=kvs.length+1:=by
 unfold putK
 split
 ·rw[List.length_map];omega
 ·rw[List.length_append,List.length_cons,List.length_nil];omega
theorem iI.qB{o:Option V}{u:Option Value}(r:iI o u):o.isSome=u.isSome:=by
  cases o with
  | none => cases u with
    |none=>rfl
    |some _=>exact(show False from r).elim
  | some _ => cases u with
    |none=>exact(show False from r).elim
    |some _=>rfl
theorem KV.val{kvs:List (κ×V)}{vs:List (κ×Value)}(r:KV kvs vs)(k:κ):iI (fZ kvs k) (valueAt vs k):=by
  unfold KV at r
  induction r with
  |nil=>exact True.intro
  | @cons p q ps qs h t ih =>
    obtain⟨h1,h2⟩:=h
    by_cases e:p.1=k
    · have e':q.1=k:=h1.symm.trans e
      have b:valueAt (q::qs) k=some q.2:=by simp[valueAt,List.find?_cons,e']
      rw[qd e,b];exact h2
    · have e':¬q.1=k:=fun z=>e (h1.trans z)
      have b:valueAt (q::qs) k=valueAt qs k:=by simp[valueAt,List.find?_cons,e']
      rw[rY e,b];exact ih
theorem KV.any{kvs:List (κ×V)}{vs:List (κ×Value)}(r:KV kvs vs)(k:κ):(kvs.any fun kv=>decide (kv.1=k))=vs.any fun kv=>decide (kv.1=k):=by
 unfold KV at r
 induction r with
 |nil=>rfl
 |cons h t ih=>rw[List.any_cons,List.any_cons,ih,h.1]
theorem KV.repl{kvs:List (κ×V)}{vs:List (κ×Value)}(r:KV kvs vs)(k:κ){y:V}{u:Value}(ry:RelV y u):
    KV (kvs.map fun kv=>if kv.1=k then(kv.1,y) else kv) (vs.map fun kv=>if kv.1=k then(kv.1,u) else kv):=by
  unfold KV at r⊢
  induction r with
  |nil=>exact .nil
  | @cons p q ps qs h t ih =>
    rw[List.map_cons,List.map_cons]
    refine .cons ?_ ih
    obtain⟨h1,h2⟩:=h
    by_cases e:p.1=k
    · rw[if_pos e,if_pos (h1.symm.trans e)];exact⟨h1,ry⟩
    · rw[if_neg e,if_neg (fun z=>e (h1.trans z))];exact⟨h1,h2⟩
theorem KV.put{kvs:List (κ×V)}{vs:List (κ×Value)}(r:KV kvs vs)(k:κ){y:V}{u:Value}(ry:RelV y u):KV (putK kvs k y) (stored vs k u):=by
 unfold putK stored
 rw[r.any k]
 by_cases e:(vs.any fun kv=>decide (kv.1=k))=true
 ·rw[if_pos e,if_pos e];exact r.repl k ry
 ·rw[if_neg e,if_neg e];exact Paired.snoc r ⟨rfl,ry⟩
theorem KV.keys{kvs:List (κ×V)}{vs:List (κ×Value)}(r:KV kvs vs):kvs.map (·.1)=vs.map (·.1):=by
 unfold KV at r
 induction r with
 |nil=>rfl
 |cons h t ih=>rw[List.map_cons,List.map_cons,ih,h.1]
theorem KV.length{kvs:List (κ×V)}{vs:List (κ×Value)}(r:KV kvs vs):kvs.length=vs.length:=Paired.length r
end
theorem pN{P:Program}{w:World}{k:Key}{u:Value}(r:RelV (kV k) u):(fq P w).is k u=true:=by
 cases k with
 |inl i=>obtain⟨t,e⟩:=(show∃t,u=Value.int i t from r);subst e;exact U1 P w i t
 |inr x=>obtain⟨t,e⟩:=(show∃t,u=Value.str x t from r);subst e;exact Jz P w x t
theorem AG{P:Program}{w:World}:∀{ks:List Key} {us:List Value},Vals (ks.map kV) us->ItemsAre (fq P w) ks us
  |[],_,r=>by rw[List.map_nil] at r;cases r;exact .nil
  | k :: ks, _, r => by
    rw[List.map_cons] at r
    cases r with
    |cons h t=>exact .cons (pN h) (AG t)
abbrev KT(H:Hp):List (List Key×V)->List (List Key×Addr×Value)->Prop:=Paired fun p q=>p.1=q.1/\H q.2.1=some (.tup (p.1.map kV))/\RelV p.2 q.2.2
theorem KT.val{H:Hp}{kvs:List (List Key×V)}{xs:List (List Key×Addr×Value)}(r:KT H kvs xs)(k:List Key):iI (fZ kvs k) ((atKey xs k).map (·.2)):=by
  induction r with
  |nil=>exact True.intro
  | @cons p q ps qs h t ih =>
    obtain⟨h1,_,h2⟩:=h
    by_cases e:p.1=k
    · have e':q.1=k:=h1.symm.trans e
      have b:atKey (q::qs) k=some q.2:=by simp[atKey,List.find?_cons,e']
      rw[qd e,b];exact h2
    · have e':¬q.1=k:=fun z=>e (h1.trans z)
      have b:atKey (q::qs) k=atKey qs k:=by simp[atKey,List.find?_cons,e']
      rw[rY e,b];exact ih
section
variable{P:Program}{w:World}{H:Hp}{h:Heap}{a:Addr}
theorem CG{u:HO}(ok:cI P w H h)(e:Rd H a u):bW P w H h a u:=e.ok ok
theorem ou{kvs:List (Key×V)}(ok:cI P w H h)(e:Rd H a (.dK kvs)):kvs.length<=sizeLine/\(a==sysModules)=false/\∃vs,KV kvs vs/\h.DictOf (fq P w) a vs:=
 show bW P w H h a (.dK kvs) from CG ok e
theorem Cq{kvs:List (Key×V)}(ok:cI P w H h)(e:H a=some (.dK kvs)):kvs.length<=sizeLine/\(a==sysModules)=false/\∃vs,KV kvs vs/\h.DictOf (fq P w) a vs:=ou ok (.inl e)
theorem yH{ks:List Key}(ok:cI P w H h)(e:H a=some (.tup (ks.map kV))):(tupleKind (fq P w)).is h ks a:=by
 obtain⟨_,its,r,o,h1,h2,n,h3⟩:=(show bW P w H h a (.tup (ks.map kV)) from ok a _ e)
 exact⟨o,its.toArray,n,h1,h2,h3,by simpa using AG r⟩
theorem BA{kvs:List (List Key×V)}(ok:cI P w H h)(e:Rd H a (.dT kvs)):kvs.length<=sizeLine/\(a==sysModules)=false/\
    ∃xs,KT H kvs xs/\h.DictOfH (tupleKind (fq P w)) a xs:=by
  obtain⟨z,y,xs,r,o,es,ep,h1,h2,h3,h4,h5⟩:=(show bW P w H h a (.dT kvs) from CG ok e)
  refine⟨z,y,xs,r,o,es,ep,h1,h2,h3,h4,fun x hx=>?_,h5⟩
  have all:∀{l:List (List Key×V)} {m:List (List Key×Addr×Value)},KT H l m->∀x∈m,(tupleKind (fq P w)).is h x.1 x.2.1:=by
    intro l m q
    induction q with
    |nil=>intro x hx;exact nomatch hx
    | @cons p q ps qs hq t ih =>
      intro x hx
      rcases List.mem_cons.mp hx with e|hx
      · subst e
        exact yH ok (by rw[<-hq.1];exact hq.2.1)
      · exact ih x hx
  exact all r x hx
end
def uo(H:Hp)(a:Addr)(y:V)(r:Option V):Prop:=
 (∃kvs k,Rd H a (.dK kvs)/\y=kV k/\r=fZ kvs k)\/∃kvs k b,Rd H a (.dT kvs)/\y= .ref b/\H b=some (.tup (k.map kV))/\r=fZ kvs k
section
variable{X:Cx}{pins:List (Addr×Obj)}{σ:St}{H:Hp}{s:Shared}{a:Addr}{y v:V}{u r:Value}{o:Option V}{A:Around}{E:Value->Shared->Prop}
theorem Inv.big(I:Inv X pins σ H s):sysModules<s.heap.objs.size:=by
 have h:mainGlobals<s.heap.objs.size:=(I.mod.glob.keeps I.bk).lt
 exact Nat.lt_trans (by decide) h
theorem Wf{Q:Value->Shared->Prop}(hu:A.units+1<cLine)(I:Inv X pins σ H s)(g:uo H a y o)(ry:RelV y u)(h:∀s',Inv X pins σ H s'->Q (.bool o.isSome) s'):
  wpAny (model X.prog X.w) A (compareOp .In u (.ref a)) Q E s:=by
 rcases g with ⟨kvs,k,e,ey,l⟩|⟨kvs,k,b,e,ey,eb,l⟩
 ·subst ey
  obtain⟨z,hd,vs,rel,dd⟩:=ou I.hok e
  refine wpAny_in_of (pN ry) hd dd.mapOf ?_
  rw[<-(rel.val k).qB,<-l]
  exact h _ (I.tok _)
 ·subst ey
  cases (show u=Value.ref b from ry)
  obtain⟨z,hd,xs,rel,dd⟩:=BA I.hok e
  refine wpAny_in_heap (tupleKind_room_in1 hu) (yH I.hok eb) hd dd ?_
  have q:=(rel.val k).qB
  rw[Option.isSome_map] at q
  rw[<-q,<-l]
  exact h _ (I.tok _)
theorem Kr{Q:Value->Shared->Prop}(hu:A.units+1<cLine)(I:Inv X pins σ H s)(g:uo H a y o)(ry:RelV y u)(h:∀s',Inv X pins σ H s'->Q (.bool (!o.isSome)) s'):
  wpAny (model X.prog X.w) A (compareOp .NotIn u (.ref a)) Q E s:=by
 rcases g with ⟨kvs,k,e,ey,l⟩|⟨kvs,k,b,e,ey,eb,l⟩
 ·subst ey
  obtain⟨z,hd,vs,rel,dd⟩:=ou I.hok e
  refine wpAny_notIn_of (pN ry) hd dd.mapOf ?_
  rw[<-(rel.val k).qB,<-l]
  exact h _ (I.tok _)
 ·subst ey
  cases (show u=Value.ref b from ry)
  obtain⟨z,hd,xs,rel,dd⟩:=BA I.hok e
  refine wpAny_notIn_heap (tupleKind_room_in1 hu) (yH I.hok eb) hd dd ?_
  have q:=(rel.val k).qB
  rw[Option.isSome_map] at q
  rw[<-q,<-l]
  exact h _ (I.tok _)
theorem UI{h':Heap}{t':Nat}{ob:HO}(I:Inv X pins σ H s)(mu:pM (H a))(hs:Heap.SameBut a s.heap h')(he:∃q,h'.get? a=some q)(new:bW X.prog X.w (upd H a ob) h' a ob):
  Inv X pins σ (upd H a ob) {s with heap:=h',toks:=t'}:=
 I.write (x:=a) (e:=a) mu (.inl rfl) (fun b q hb z=>(hs.2 b hb).trans z) he new
theorem OF{P:Program}{w:World}{H':Hp}{h':Heap}{kvs:List (Key×V)}{vs:List (Key×Value)}(z:kvs.length<=sizeLine)(hd:(a==sysModules)=false)(rel:KV kvs vs)(dd:h'.DictOf (fq P w) a vs):
  bW P w H' h' a (.dK kvs):=⟨z,hd,vs,rel,dd⟩
end
theorem KQ{P:Program}{w:World}{H:Hp}(h:Heap)(hb:sysModules<h.objs.size):bW P w H (h.push {cls:= .type "dict",data:= .dict #[]}) h.objs.size (.dK []):=
 ⟨Nat.zero_le _,beq_eq_false_iff_ne.mpr (Ne.symm (Nat.ne_of_lt hb)),[], .nil,Heap.DictOf.new h⟩
def AK:TE:=fun _ H Q=>∀p,H p=none->Q (.ref p) (upd H p (.dK []))
section
variable{X:Cx}{pos:Pos}
theorem Tu:PE X (.Dict [] [] pos) AK:=fun pins s σ H Q I h=>
 wpAny_Dict_empty ⟨.ref s.heap.objs.size,_,I.laid (a:=s.heap.objs.size) (o:= .dK []) (t':=s.toks) (fun _ _ q=>Heap.get?_push_of_some _ q) (Nat.le_refl _) (KQ s.heap I.big),rfl,h _ (I.hok.fresh (Nat.le_refl _))⟩
end
end L2
/-THE LAST THEOREM (shape;LID,My.*are yours):
   My.Adr:a structure of the addresses that your layer names (classes,functions);My.Txt K t:a structure (Prop) of the equations over K;
   My.txt_mk:{K} {implicit addresses ..} (e1:nsIn K mainGlobals "law"=some (some (.ref f))) (e2:K.lookup f=some ⟨oc,od, .func (fnOf "law" "law" params body scope dV kV doc pm an cdv ct),sl⟩) (e3:codeIn K cdv "law"=true) .. :∃t,My.Txt K t
set_option maxRecDepth 100000 in
set_option maxHeartbeats 0 in
(the tactic k_is has no namespace:write k_is)-/
set_option maxRecDepth 100000
set_option maxHeartbeats 4000000
namespace L2
open PySem PySem.Spec PyProof.Rows
section
variable{X:Cx}
def mE:R2:=fun x y H Q=>∃a kvs k v,x= .ref a/\y=kV k/\Rd H a (.dK kvs)/\fZ kvs k=some v/\Q v H
theorem uG:sf X mE:=by
 intro value slice pins s σ H x y v u Q I rx ry h hs
 obtain⟨a,kvs,k,z,rfl,rfl,hH,hv,q⟩:=h
 cases rx
 obtain⟨hz,hd,vs,rel,dd⟩:=ou I.hok hH
 have hT:=dd.typeIs (s:=s)
 obtain⟨w',hw,rw'⟩:=iI.some_of (v:=z) (o:=valueAt vs k) (by rw[<-hv];exact rel.val k)
 unfold subscriptTail
 refine wpAny_bind ?_
 rw[getitemInPython_of_ne hT.not_modules]
 refine wpAny_bind (wpAny_specialOf hT PySem.F.slot_dict_getitem.lookup ?_)
 have fin:wpAny (model X.prog X.w) X.A (subscripted slice false (.ref a) u) (fun r s₃=>wpAny (model X.prog X.w) X.A (letTemporaryGo value (.ref a) r>>=fun _=>pure r) (EP X pins σ Q) X.xe s₃) X.xe s:=by
  rw[hs]
  refine wpAny_operating (wpAny_getItem_of (pN ry) dd.mapOf hw ?_)
  exact wpAny_bind (wpAny_letTemporaryGo (wpAny_pure ⟨z,H,I.tok _,rw',q⟩))
 first
  |exact wpAny_pure (wpAny_bind fin)
  |exact wpAny_bind (wpAny_pure (wpAny_bind fin))
  |exact wpAny_bind fin
def vV:V->V->V->Hp->(Hp->Prop)->Prop:=fun o i v H Q=>∃a kvs k,o= .ref a/\i=kV k/\H a=some (.dK kvs)/\kvs.length<sizeLine/\Q (upd H a (.dK (putK kvs k v)))
theorem set_dict:vC X vV:=by
 intro pins s σ H o i v ov iv u Q I ro ri rv h
 obtain⟨a,kvs,k,rfl,rfl,hH,WN,q⟩:=h
 cases ro
 obtain⟨z,hd,vs,rel,dd⟩:=Cq I.hok hH
 have hz:vs.length<=sizeLine:=by rw[<-rel.length];exact z
 have hl:(putK kvs k v).length<=sizeLine:=by have:=T9 kvs k v;omega
 refine wpAny_setItem_pairs (hsz:=hz) (pN ri) dd fun h' Dt hs=>?_
 have he:∃q,h'.get? a=some q:=let ⟨q,_,_,hq,_⟩:=Dt;⟨q,hq⟩
 exact⟨_,UI I (by rw[hH];exact True.intro) hs he (OF hl hd (rel.put k rv) Dt),q⟩
end
end L2
set_option maxRecDepth 100000
set_option maxHeartbeats 4000000
set_option maxRecDepth 100000
set_option maxHeartbeats 4000000
set_option maxRecDepth 100000
set_option maxHeartbeats 4000000
namespace L2
open PySem PySem.Spec PyProof.Rows
abbrev Ks:=List (Int×PyData)
def fN(ks:Ks)(k:Int):Option PyData:=(ks.find? fun p=>decide (p.1=k)).map (·.2)
def jH(ks:Ks)(k:Int):Bool:=ks.any fun p=>decide (p.1=k)
def nX(ks:Ks)(k:Int)(d:PyData):Ks:=if jH ks k then ks.map fun p=>if p.1=k then(p.1,d) else p else ks++[(k,d)]
theorem O9(ks:Ks)(k:Int):(fN ks k).isSome=jH ks k:=by
  unfold fN jH
  rw[Option.isSome_map]
  induction ks with
  |nil=>rfl
  | cons p r ih =>
    rw[List.find?_cons,List.any_cons]
    by_cases h:p.1=k
    · simp[h]
    · simp only[h,decide_false,Bool.false_or];exact ih
theorem KL{k:Int}:fN [] k=none:=rfl
theorem nu{p:Int×PyData}{r:Ks}{k:Int}:fN (p::r) k=if p.1=k then some p.2 else fN r k:=by
 unfold fN
 rw[List.find?_cons]
 by_cases h:p.1=k<;>simp[h]
theorem W9{ks:Ks}{k j:Int}{d:PyData}:fN (ks++[(k,d)]) j=match fN ks j with|some x=>some x|none=>if j=k then some d else none:=by
  induction ks with
  | nil =>
    rw[List.nil_append,nu,KL]
    by_cases h:k=j
    · subst h;simp
    · have h':¬j=k:=fun z=>h z.symm
      simp[h,h']
  | cons p r ih =>
    rw[List.cons_append,nu,nu,ih]
    by_cases h:p.1=j<;>simp[h]
section
variable{S:Addr->Prop}{H:Hp}
theorem aB.val:∀{ks:Ks} {ps:List (Key×V)} (k:Int),aB S H (ks.map cG) ps->match fN ks k with|some d=>∃v,fZ ps (Sum.inl k)=some v/\af S H d v|none=>fZ ps (Sum.inl k)=none
  |[],ps,k,h=>by unfold aB at h;subst h;exact HB
  | p :: r, ps, k, h => by
    rw[List.map_cons] at h
    unfold aB at h
    obtain⟨q,qs,rfl,h1,h2⟩:=h
    unfold bN at h1
    obtain⟨h3,h4⟩:=h1
    have h3:q.1=Sum.inl p.1:=h3
    rw[nu]
    have ih:=aB.val k h2
    by_cases e:p.1=k
    · rw[if_pos e]
      refine⟨q.2,?_,h4⟩
      rw[qd (by rw[h3,e])]
    · rw[if_neg e,rY (fun z=>e (by rw[h3] at z;exact Sum.inl.inj z))]
      exact ih
theorem aB.snoc:∀{ks:Ks} {ps:List (Key×V)} {k:Int} {d:PyData} {v:V},aB S H (ks.map cG) ps->af S H d v->aB S H ((ks++[(k,d)]).map cG) (ps++[(Sum.inl k,v)])
  | [], ps, k, d, v, h, hd => by
    unfold aB at h;subst h
    show aB S H [cG (k,d)] [(Sum.inl k,v)]
    unfold aB
    exact⟨_,_,rfl,by unfold bN;exact⟨rfl,hd⟩,by unfold aB;rfl⟩
  | p :: r, ps, k, d, v, h, hd => by
    rw[List.map_cons] at h
    unfold aB at h
    obtain⟨q,qs,rfl,h1,h2⟩:=h
    rw[List.cons_append,List.map_cons,List.cons_append]
    unfold aB
    exact⟨q,_,rfl,h1,aB.snoc h2 hd⟩
theorem aB.repl:∀{ks:Ks} {ps:List (Key×V)} {k:Int} {d:PyData} {v:V},aB S H (ks.map cG) ps->af S H d v->aB S H ((ks.map fun p=>if p.1=k then(p.1,d) else p).map cG) (ps.map fun kv=>if kv.1=Sum.inl k then(kv.1,v) else kv)
  |[],ps,k,d,v,h,hd=>by unfold aB at h;subst h;simp only[List.map_nil];unfold aB;rfl
  | p :: r, ps, k, d, v, h, hd => by
    rw[List.map_cons] at h
    unfold aB at h
    obtain⟨q,qs,rfl,h1,h2⟩:=h
    rw[List.map_cons,List.map_cons,List.map_cons]
    unfold bN at h1
    obtain⟨h3,h4⟩:=h1
    have h3:q.1=Sum.inl p.1:=h3
    unfold aB
    refine⟨_,_,rfl,?_,aB.repl h2 hd⟩
    by_cases e:p.1=k
    · rw[if_pos e,if_pos (by rw[h3,e])]
      unfold bN
      exact⟨h3,hd⟩
    · rw[if_neg e,if_neg (fun z=>e (by rw[h3] at z;exact Sum.inl.inj z))]
      unfold bN
      exact⟨h3,h4⟩
theorem aB.any:∀{ks:Ks} {ps:List (Key×V)} (k:Int),aB S H (ks.map cG) ps->(ps.any fun kv=>decide (kv.1=Sum.inl k))=jH ks k:=fun{ks ps} k h=>by
 rw[uC,<-O9]
 have:=aB.val k h
 cases hv:fN ks k with
 |none=>rw[hv] at this;rw[this];rfl
 |some d=>rw[hv] at this;obtain⟨v,e,_⟩:=this;rw[e];rfl
theorem aB.put{ks:Ks}{ps:List (Key×V)}{k:Int}{d:PyData}{v:V}(h:aB S H (ks.map cG) ps)(hd:af S H d v):aB S H ((nX ks k d).map cG) (putK ps (Sum.inl k) v):=by
 unfold nX putK
 rw[aB.any k h]
 split
 ·exact aB.repl h hd
 ·exact aB.snoc h hd
theorem aB.len:∀{ks:Ks} {ps:List (Key×V)},aB S H (ks.map cG) ps->ps.length=ks.length
  |[],ps,h=>by unfold aB at h;subst h;rfl
  | p :: r, ps, h => by
    rw[List.map_cons] at h
    unfold aB at h
    obtain⟨q,qs,rfl,_,h2⟩:=h
    simp[aB.len h2]
theorem aB.keys:∀{ks:Ks} {ps:List (Key×V)},aB S H (ks.map cG) ps->ps.map (·.1)=(ks.map (·.1)).map Sum.inl
  |[],ps,h=>by unfold aB at h;subst h;rfl
  | p :: r, ps, h => by
    rw[List.map_cons] at h
    unfold aB at h
    obtain⟨q,qs,rfl,h1,h2⟩:=h
    unfold bN at h1
    have h3:q.1=Sum.inl p.1:=h1.1
    simp[aB.keys h2,h3]
end
def qZ(G:Gx)(ρ:Rh)(te:TE)(Φ:Bool->Ks->Prop):Prop:=∀nb σ H (Q:VK),Wd G nb ρ σ H->
 (∀f a ps H' ks,Φ f ks->Step G.B H H'->H a=none->H' a=some (.dK ps)->aB (fun x=>G.S nb f x\/x=a) H' (ks.map cG) ps->Q (.ref a) H')->te σ H Q
section
variable{G:Gx}{ρ bM:Rh}{Φ Ψ:Pd}{ta tb te:TE}{t:TA}{i:Nat}{f g:Bool}{d e:PyData}{ks:Ks}{K:PySem.W.Frag}{E:DE}{Θ:Bool->Ks->Prop}
theorem Wd.grow{nb:Addr->Prop}{σ:St}{H H1:Hp}{a:Addr}{o:HO}(W:Wd G nb ρ σ H)(s1:Step G.B H H1)(ha:H a=none)(e:H1 a=some o):Wd G (fun x=>nb x\/x=a) ρ σ H1/\NB G.B a/\∀f x,G.S (fun x=>nb x\/x=a) f x->(G.S nb f x\/x=a):=by
  have hN:NB G.B a:=NB.new W.au ha
  have hA:∀f x,G.S (fun x=>nb x\/x=a) f x->(G.S nb f x\/x=a):=fun f x z=>by
    rcases z with (z|z)|z|z|z
    · exact .inl (.inl z)
    · exact .inr z
    · exact .inl (.inr (.inl z))
    · exact .inl (.inr (.inr (.inl z)))
    · exact .inl (.inr (.inr (.inr z)))
  have W1:=W.step s1
  refine⟨?_,hN,hA⟩
  refine⟨W1.au,fun x n=>?_,W1.old,fun x n q=>?_,W.gA,W.len,W.gB,fun h m=>(((W.cL h m).fresh ha).keep (s1.but fun x z=> .inl (.inr (.inr (.inl z))))).av (hA h.1),fun j s e'=>?_,W.apart,W.dI,W.cY⟩
  · rcases n with n|n
    · exact W1.live x n
    · subst n;rw[e];exact Option.some_ne_none _
  · rcases n with n|n
    · exact W.cZ x n q
    · subst n
      cases z:G.H0 x with
      |none=>rfl
      |some o=>rw[W.old x o q z] at ha;cases ha
  · obtain⟨x,e1,h⟩:=W.ok j s e'
    refine⟨x,e1,?_⟩
    cases s with
    |no=>trivial
    |d f d=>obtain⟨v,e,h⟩:=h;exact⟨v,e,((h.fresh ha).keep (s1.but fun x z=> .inl (.inr (.inr (.inl z))))).av (hA f)⟩
    |own c f es=>obtain⟨e,n,q,xs,hx,hd⟩:=h;exact⟨e, .inl n,q,xs,s1.1 _ _ q hx,((hd.fresh ha).keep (s1.but fun x z=> .inl (.inr (.inr (.inl z))))).av (hA f)⟩
    |au=>exact h
    |raw v=>exact h
    |bU c f es=>obtain⟨e,n,q,xs,hx,hd⟩:=h;exact⟨e, .inl n,q,xs,s1.1 _ _ q hx,((hd.fresh ha).keep (s1.but fun x z=> .inl (.inr (.inr (.inl z))))).av (hA f)⟩
    | cu c =>
      obtain⟨e,n,q⟩:=h
      refine⟨e,fun a ha=>⟨.inl (n a ha).1,(n a ha).2⟩,c.av (hA c.f) (c.keep (.of fun x o hx e=>s1.1 x o ?_ e) (c.fresh ha q))⟩
      rcases hx with hx|hx
      · exact Classical.byContradiction fun z=>hx (.inl (.inr (.inr (.inl z))))
      · exact(n x hx).2
theorem Vo{nb:Addr->Prop}{σ:St}{H H1:Hp}{a:Addr}{ps:List (Key×V)}(W:Wd G nb ρ σ H)(s1:Step G.B H H1)(ha:H a=none)(e:H1 a=some (.dK ps))(hd:aB (fun x=>G.S nb f x\/x=a) H1 (ks.map cG) ps):
  Wd G (fun x=>nb x\/x=a) (ρ.set i (.bU a f ks)) (σ.set i (some (.ref a))) H1:=by
 obtain⟨W2,hN,hA⟩:=W.grow s1 ha e
 refine W2.set ⟨rfl, .inr rfl,hN,ps,e,hd.av (hA f)⟩ (fun _ _ _ z=>by cases z) ?_ (fun x hx j t hj ht hc=>?_)
 rotate_left
 ·have hx:x=a:=List.mem_singleton.mp hx
  subst hx
  rcases hc with ⟨c,z⟩|⟨c,rfl⟩
  ·cases z
  ·exact fun z=>W.live x ((W.ok j _ ht).choose_spec.2.2.1 x z).1 ha
 rintro a' f' ds' ⟨rfl,rfl,rfl⟩ j c g cs hj hc z
 subst z
 obtain⟨x,e1,h1,h2,h3,ys,hy,_⟩:=W.ok j _ hc
 rw[hy] at ha;cases ha
theorem Sv.NH(h:qZ G ρ te fun f ks=>∀a,E.nx (ρ.set i (.bU a f ks))):Sv G ρ (eE te (dN i)) E:=fun nb σ H D W K=>h nb σ H _ W fun f a ps H1 ks q s1 ha e hd=>K.nx _ _ _ H1 (q a) (Vo W s1 ha e hd)
theorem qZ.new(h:Θ true []):qZ G ρ AK Θ:=fun nb σ H Q W z p hp=>z true p [] _ [] h (.same W.au (cV hp)) hp bq (by unfold aB;rfl)
@[reducible] def WM(p:Int×PyData):PyData:= .tuple [.int p.1,p.2]
theorem JQ{nb:Addr->Prop}{σ:St}{H:Hp}{a:Addr}{ps:List (Key×V)}{ks':Ks}(W:Wd G nb ρ σ H)(e:ρ[i]?=some (.bU a f ks))(hd:aB (G.S nb g) H (ks'.map cG) ps):Wd G nb (ρ.set i (.bU a g ks')) σ (upd H a (.dK ps)):=by
 obtain⟨x,e1,h1,h2,h3,ys,hy,_⟩:=W.ok i _ e
 subst h1
 have hil:i<ρ.length:=(List.getElem?_eq_some_iff.mp e).1
 have W0:Wd G nb (ρ.set i .no) (σ.set i (some (.ref a))) H:=W.set trivial fun _ _ _ z=>by cases z
 have W1:Wd G nb (ρ.set i .no) (σ.set i (some (.ref a))) (upd H a (.dK ps)):=W0.write h2 h3 (fun j c f' cs hc z=>by
   subst z
   have hij:i≠j:=fun z=>by subst z;rw[List.getElem?_set_self hil] at hc;cases hc
   rw[List.getElem?_set_ne hij] at hc
   obtain⟨_,_,_,_,_,ps,hp,_⟩:=W.ok j _ hc
   rw[hy] at hp;cases hp) (fun j c f' cs hc=>by
   by_cases hij:i=j
   ·subst hij;rw[List.getElem?_set_self hil] at hc;cases hc
   ·rw[List.getElem?_set_ne hij] at hc
    exact(W.dI i j _ _ _ _ _ _ hij e hc).symm) (fun j c hc z=>by
   have hij:i≠j:=fun z=>by subst z;rw[List.getElem?_set_self hil] at hc;cases hc
   rw[List.getElem?_set_ne hij] at hc
   exact W.cY j i c _ (Ne.symm hij) hc e a z (List.mem_singleton.mpr rfl))
 have W2:=W1.set (i:=i) (s:= .bU a g ks') (x:=some (.ref a)) ⟨rfl,h2,h3,ps,bq,hd.keep (aW.set (.inl h2))⟩ (fun _ _ _ z=>by cases z) (by
  rintro a' f' ds' ⟨rfl,rfl,rfl⟩ j c g' cs hj hc
  rw[List.getElem?_set_ne (Ne.symm hj)] at hc
  exact W.dI i j _ _ _ _ _ _ (Ne.symm hj) e hc) (fun x hx j t hj ht hc z=>by
  rw[List.getElem?_set_ne (Ne.symm hj)] at ht
  have hx:x=a:=List.mem_singleton.mp hx
  subst hx
  rcases hc with ⟨c,q⟩|⟨c,rfl⟩
  ·cases q
  ·exact W.cY j i c _ hj ht e x z (List.mem_singleton.mpr rfl))
 rw[List.set_set,List.set_set] at W2
 have:σ.set i (some (.ref a))=σ:=by
  apply List.ext_getElem?
  intro j
  by_cases hij:i=j
  ·subst hij;rw[List.getElem?_set_self (by rw[W.len];exact hil),e1]
  ·rw[List.getElem?_set_ne hij]
 rwa[this] at W2
theorem Sv.OT{a:Addr}(e:ρ[i]?=some (.bU a f ks))(h:Ev G ρ te fun g d=>Ev G ρ tb fun _ y=>∃k,y= .int k/\ks.length<10000/\E.nx (ρ.set i (.bU a (f && g) (nX ks k d)))):Sv G ρ (eE te (kL (dM i) tb vV)) E:=fun nb σ H D W KK=>
 h nb σ H _ W fun g v H1 d q s1 hv=>by
  obtain⟨x,e1,h1,h2,h3,ps,hp,hd⟩:=(W.step s1).ok i _ e
  subst h1
  refine⟨.ref a,e1,q nb σ H1 _ (W.step s1) fun g' u H2 y ⟨k,ey,hl,p⟩ s2 hu=>?_⟩
  subst ey
  have W2:=(W.step s1).step s2
  have hlen:=hd.len
  refine⟨a,ps, .inl k,rfl,hu.bP,s2.1 _ _ h3 hp,Nat.lt_of_lt_of_le (by rw[hlen];exact hl) (by decide),KK.nx nb _ _ _ p (JQ W2 e ?_)⟩
  exact aB.put ((hd.keep s2.cU).av (cE (fun z=>(Bool.and_eq_true _ _▸z).1) fun _ z=>z)) ((hv.keep s2.cU).av (cE (fun z=>(Bool.and_eq_true _ _▸z).2) fun _ z=>z))
namespace Ev
theorem Xp{a:Addr}(e:ρ[i]?=some (.bU a f ks))(h:Ev G ρ tb fun _ y=>∃k,y= .int k/\∃d,fN ks k=some d/\Φ f d):Ev G ρ (bV mE (dM i) tb) Φ:=fun nb σ H Q W z=>by
 obtain⟨x,e1,h1,h2,h3,ps,hp,hd⟩:=W.ok i _ e
 subst h1
 refine⟨.ref a,e1,h nb σ H _ W fun g w H1 y ⟨k,ey,d,hv,p⟩ s1 hw=>?_⟩
 subst ey
 have:=aB.val k (hd.keep s1.cU)
 rw[hv] at this
 obtain⟨v,hv',hD⟩:=this
 exact⟨a,ps, .inl k,v,rfl,hw.bP, .inl (s1.1 _ _ h3 hp),hv',z f _ H1 _ p s1 hD⟩
end Ev
end
def vf(ng:Bool):R2:=fun x y H Q=>∃a o,y= .ref a/\uo H a x o/\Q (.bl (o.isSome !=ng)) H
theorem KC{X:Cx}(hu:X.A.units+64<cLine):cQ X (compareOp .In) (vf false):=by
 intro pins s σ H x y v u Q I rx ry h
 obtain⟨a,o,rfl,g,q⟩:=h
 cases ry
 exact Wf (by omega) I g rx fun s' I'=>⟨.bl o.isSome,H,I',rfl,by simpa using q⟩
theorem MU{X:Cx}(hu:X.A.units+64<cLine):cQ X (compareOp .NotIn) (vf true):=by
 intro pins s σ H x y v u Q I rx ry h
 obtain⟨a,o,rfl,g,q⟩:=h
 cases ry
 exact Kr (by omega) I g rx fun s' I'=>⟨.bl (!o.isSome),H,I',rfl,by simpa using q⟩
section
variable{G:Gx}{ρ:Rh}{Φ:Pd}{ta tb te:TE}{i:Nat}{f:Bool}{ks:Ks}{K:PySem.W.Frag}{E:DE}
theorem Bf{nb:Addr->Prop}{σ:St}{H:Hp}{a:Addr}(W:Wd G nb ρ σ H)(e:ρ[i]?=some (.bU a f ks)):Wd G (fun x=>nb x/\x≠a) (ρ.set i (.d f (.dict (ks.map cG)))) σ H:=by
  obtain⟨x,e1,h1,h2,h3,xs,hx,hd⟩:=W.ok i _ e
  subst h1
  have hil:i<ρ.length:=(List.getElem?_eq_some_iff.mp e).1
  have W0:Wd G nb (ρ.set i .no) (σ.set i (some (.ref a))) H:=W.set trivial fun _ _ _ z=>by cases z
  have W1:Wd G (fun x=>nb x/\x≠a) (ρ.set i .no) (σ.set i (some (.ref a))) H:=by
    refine⟨W0.au,fun x n=>W0.live x n.1,W0.old,fun x n=>W0.cZ x n.1,W0.gA,W0.len,W0.gB,fun h m=>(W0.cL h m).av (cE (fun z=>z) fun _ z=>z.1),fun j s e'=>?_,W0.apart,W0.dI,W0.cY⟩
    obtain⟨x,jA,h⟩:=W0.ok j s e'
    refine⟨x,jA,?_⟩
    have hij:s≠ .no->i≠j:=fun n z=>by subst z;rw[List.getElem?_set_self hil] at e';cases e';exact n rfl
    cases s with
    |no=>trivial
    |d f d=>obtain⟨v,e,h⟩:=h;exact⟨v,e,h.av (cE (fun z=>z) fun _ z=>z.1)⟩
    | own c f es =>
      obtain⟨e2,n,q,ys,hy,hd'⟩:=h
      have hca:c≠a:=fun z=>by subst z;rw[hx] at hy;cases hy
      exact⟨e2,⟨n,hca⟩,q,ys,hy,hd'.av (cE (fun z=>z) fun _ z=>z.1)⟩
    |au=>exact h
    |raw v=>exact h
    | bU c f es =>
      obtain⟨e2,n,q,ps,hp,hd'⟩:=h
      have hij:=hij (by intro z;cases z)
      rw[List.getElem?_set_ne hij] at e'
      exact⟨e2,⟨n,(W.dI i j _ _ _ _ _ _ hij e e').symm⟩,q,ps,hp,hd'.av (cE (fun z=>z) fun _ z=>z.1)⟩
    | cu c =>
      obtain⟨e2,n,q⟩:=h
      have hij:=hij (by intro z;cases z)
      rw[List.getElem?_set_ne hij] at e'
      exact⟨e2,fun x hx=>⟨⟨(n x hx).1,fun z=>W.cY j i c _ (Ne.symm hij) e' e x hx (by rw[z];exact List.mem_singleton.mpr rfl)⟩,(n x hx).2⟩,c.av (cE (fun z=>z) fun _ z=>z.1) q⟩
  have W2:=W1.jq (i:=i) (f:=f) (d:= .dict (ks.map cG)) (v:= .ref a) (by
    unfold af
    refine⟨a,xs,rfl,fun z=>?_, .inl hx,hd.av (cE (fun z=>z) fun _ z=>z.1)⟩
    rcases z with z|z|z|z
    · exact z.2 rfl
    · exact W.gA a z (W.cZ a h2 h3)
    · exact z h3
    · exact z.2 (W.cZ a h2 h3))
  rw[List.set_set,List.set_set] at W2
  have:σ.set i (some (.ref a))=σ:=by
    apply List.ext_getElem?
    intro j
    by_cases hij:i=j
    · subst hij;rw[List.getElem?_set_self (by rw[W.len];exact hil),e1]
    · rw[List.getElem?_set_ne hij]
  rwa[this] at W2
theorem Sv.Wl{s:TS}{a:Addr}(i:Nat)(e:ρ[i]?=some (.bU a f ks))(h:Sv G (ρ.set i (.d f (.dict (ks.map cG)))) s E):Sv G ρ s E:=fun nb σ H D W K=>h _ σ H D (Bf W e) K
theorem Ev.Ge{ng:Bool}(h:Ev G ρ ta fun _ y=>∃k,y= .int k/\Ev G ρ tb fun _ x=>∃ks:Ks,x= .dict (ks.map cG)/\Φ true (.bool (jH ks k !=ng))):Ev G ρ (bV (vf ng) ta tb) Φ:=
 Ev.gP (h.mono fun f x ⟨k,ex,q⟩=>q.mono fun g y ⟨ks,ey,p⟩ nb σ H u v Q W hu hv z=>by
  subst ex ey
  unfold af at hv
  obtain⟨a,ps,rfl,n,hp,hd⟩:=hv
  refine⟨a,_,rfl,by rw[hu.bP];exact .inl ⟨ps, .inl k,hp,rfl,rfl⟩,?_⟩
  have:(fZ ps (Sum.inl k)).isSome=jH ks k:=by rw[<-uC];exact aB.any k hd
  rw[this]
  exact z true _ H _ p (.refl W.au) (.bl _))
theorem Ev.zD(h:Ev G ρ ta fun f x=>∃ks:Ks,x= .dict (ks.map cG)/\Ev G ρ tb fun _ y=>∃k,y= .int k/\∃d,fN ks k=some d/\Φ f d):Ev G ρ (bV mE ta tb) Φ:=
 Ev.gP (h.mono fun f x ⟨ks,ex,q⟩=>q.mono fun g y ⟨k,ey,d,hv',p⟩ nb σ H u v Q W hu hv z=>by
  subst ex ey
  unfold af at hu
  obtain⟨a,ps,rfl,n,hp,hd⟩:=hu
  have:=aB.val k hd
  rw[hv'] at this
  obtain⟨w,hw,hD⟩:=this
  exact⟨a,ps, .inl k,w,rfl,hv.bP,hp,hw,z f _ H _ p (.refl W.au) hD⟩)
end
end L2
set_option maxRecDepth 100000
set_option maxHeartbeats 4000000
namespace L2
abbrev Cn:=List (Int×Int)
structure BJ(cs:Cn):Prop where
 q9:∀c∈cs,0<=c.1/\c.1<=12/\0<=c.2/\c.2<=10^7
 nd:(cs.map (·.1)).Nodup
 len:cs.length<=14
 pos:∃c∈cs,0<c.1/\0<c.2
def Df:Cn->Rat->Rat
 |[],_=>0
 |c::r,v=>(if 0<c.1 then((c.1*c.2:Int):Rat)*v^(c.1.toNat-1) else 0)+Df r v
def Eo:Cn->Int
 |[]=>0
 |c::r=>c.1*c.2+Eo r
def CW(cs:Cn)(v:Rat):Rat:=Df cs v/(Eo cs:Int)
def QL(l c:Cn)(s v:Rat):Rat:=s*CW l (1-CW c (1-v))
section
variable{l c:Cn}{s:Rat}(hl:BJ l)(hc:BJ c)(s0:0<=s)
include hl hc s0
end
def A0(x:Rat):Int:= -((-x).floor)
end L2
namespace L2
structure Gw where
 l:Cn
 c:Cn
 s:Rat
 u:Int
def Gw.gr(g:Gw)(x:Int):Rat:=QL g.l g.c g.s ((x:Rat)/g.u)*g.u
def Gw.lo(g:Gw):Nat->Int
 |0=>(g.s*g.u).floor
 |k+1=>(g.gr (g.lo k)).floor
def Gw.hi(g:Gw):Nat->Int
 |0=>A0 (g.s*g.u)
 |k+1=>A0 (g.gr (g.hi k))
end L2
set_option maxRecDepth 100000
set_option maxHeartbeats 4000000
namespace L2
open PySem PySem.Spec PyProof.Rows
@[reducible] def Xh(g:Gw)(k:Nat):PyData:= .tuple [.int (g.lo k), .int (g.hi k)]
@[reducible] def WT(n:Nat):PyData:= .tuple [.str "falls", .int n]
@[reducible] def WX(x:Int):PyData:= .tuple [.str "stays", .int x]
@[reducible] def WQ:PyData:= .tuple [.str "open"]
def Uu(K:PySem.W.Frag)(n:Nat)(t:fY):TG:=fun v σ H Q=>∃a xs,v= .ref a/\aL K H a xs/\xs.length=n/\t xs σ H Q
theorem Gv.lst{G:Gx}{ρ:Rh}{f:Bool}{ds:List PyData}{K:PySem.W.Frag}{Θ:Rh->Prop}{n:Nat}{u:fY}(hl:ds.length=n)(h:jK G ρ u f ds Θ):Gv G ρ (Uu K n u) f (.list ds) Θ:=fun nb σ H v Q W hv z=>by
 obtain⟨a,xs,rfl,m,hx,hd⟩:=hv.cO
 exact⟨a,xs,rfl, .of hx,by rw[hd.length];exact hl,h nb σ H xs Q W hd z⟩
end L2
set_option maxRecDepth 100000
set_option maxHeartbeats 4000000
namespace L2
open PySem PySem.Spec PyProof.Rows PySem.W
section
variable{n:Nat}{cmp:Nat->Nat->(Bool->Shared->Prop)->Shared->Prop}{s:Shared}
variable(h0:0<n)(hc:∀i j C,i<n->j<n->(∀b,C b s)->cmp i j C s)
include h0 hc
end
theorem aC.pX{G:Gx}{ρ:Rh}{te tb:TE}{Θ:Bool->List PyData->Prop}(h:Ev G ρ te fun f d=>Ev G ρ tb fun _ y=>∃k,y= .int k/\k<=10000/\ -(10000)<=k/\∀g,Θ g (List.replicate k.toNat d)):aC G ρ (bV mL (lG (ck te cT)) tb) Θ:=fun nb σ H Q W z=>
 h nb σ H _ W fun f v H1 d' q s1 hv=>by
  refine⟨by show 1<=sizeLine;decide,fun p hp=>?_⟩
  have W1:=W.step s1
  have s2:Step G.B H1 (upd H1 p (.lst [v])):= .same W1.au (cV hp)
  refine q nb σ _ _ (W1.step s2) fun g u H2 d2 ⟨k,e2,h1,h2,p2⟩ s3 hu=>?_
  subst e2
  have hN:NB G.B p:=fun b l e z=>by
   subst z
   exact NB.kg (B:=G.B) (a:=p) s1.2 (fun z=>z _ _ e rfl) hp
  refine⟨p,k,[v],rfl,hu.bP,s3.1 _ _ hN bq,by omega,by omega,?_,fun a ha=>?_⟩
  ·show 1*k.toNat<=sizeLine
   exact Nat.le_trans (show 1*k.toNat<=10000 by omega) (by decide)
  ·have hv2:=(hv.keep s2.cU).keep s3.cU
   have hd:ai (G.S nb f) H2 (List.replicate k.toNat d') (List.replicate k.toNat [v]).flatten:=by
    induction k.toNat with
    |zero=>exact .nil
    |succ m ih=>rw[List.replicate_succ,List.replicate_succ,List.flatten_cons];exact .cons hv2 ih
   exact aC.fin (f:=f) W (s1.trans (s2.trans s3)) ha hd (p2 _) z
end L2
set_option maxRecDepth 100000
set_option maxHeartbeats 4000000
namespace L2
open PySem PySem.Spec PyProof.Rows
theorem Ev.lend{G:Gx}{ρ:Rh}{te:TE}{Φ:Pd}{a:Addr}{f:Bool}{ds:List PyData}(i:Nat)(e:ρ[i]?=some (.own a f ds))(h:Ev G (ρ.set i (.d f (.list ds))) te fun _ d=>gp d=true/\Φ true d):Ev G ρ te Φ:=fun nb σ H Q W z=>
 h _ σ H Q (Sv.share W e) fun f v H' d ⟨hs,p⟩ st hv=>z true v H' d p st (hv.gu hs)
theorem Tv.lend{G:Gx}{ρ:Rh}{t:TT}{Θ:Bool->Prop}{a:Addr}{f:Bool}{ds:List PyData}(i:Nat)(e:ρ[i]?=some (.own a f ds))(h:Tv G (ρ.set i (.d f (.list ds))) t Θ):Tv G ρ t Θ:=fun nb σ H Q W z=>
 h _ σ H Q (Sv.share W e) z
end L2
set_option maxRecDepth 100000
set_option maxHeartbeats 4000000
set_option maxRecDepth 100000
set_option maxHeartbeats 4000000
namespace L2
open PySem PySem.Spec PyProof.Rows
section
variable{X:Cx}
theorem Vals.ins{y:V}{u:Value}(r:RelV y u):∀{xs:List V} {us:List Value} (k:Nat),Vals xs us->Vals (xs.take k++y::xs.drop k) (us.take k++u::us.drop k)
 |_,_,0,h=> .cons r h
 |[],_,k+1,h=>by cases h;exact .cons r .nil
 |_::_,_,k+1, .cons a h=> .cons a (Vals.ins r k h)
def CM:V->List V->Hp->VK->Prop:=fun x vs H Q=>∃l xs y,∃i:Int,x= .ref l/\vs=[.int i,y]/\H l=some (.lst xs)/\0<=i/\i<=xs.length/\xs.length<10000/\Q .aN (upd H l (.lst (xs.take i.toNat++y::xs.drop i.toNat)))
theorem LD:Aj X "list.insert" CM:=by
  intro pins s σ H x vs v us Q I rx rv h
  obtain⟨l,xs,y,i,rfl,rfl,hH,h0,h1,hz,q⟩:=h
  cases rx
  cases rv with
  | cons r1 r2 =>
    obtain⟨t,rfl⟩:=r1
    obtain⟨u,rfl,ru⟩:=vals1 r2
    obtain⟨z,its,n,r,hl,e⟩:=I.kF hH
    have hfit:¬(!Builtin.List.listFitsIndex i)=true:=by
      have:=fitsIndex_both (k:=i) (by omega) (by omega)
      simpa using this
    refine call_meets PySem.F.slot_list_insert ⟨_,e,rfl⟩ PySem.F.entry_list_insert (PySem.F.args_list_insert_3 _ _ _) (AutoSeq1.list_insert_list_int_val_1 l its.toArray n i t u hfit (by rw[List.size_toArray];omega)) ⟨e,?_⟩
    refine⟨.aN,_,I.t9 (its':=its.take i.toNat++u::its.drop i.toNat) hH e ?_ (Vals.ins ru i.toNat r) ?_,rfl,q⟩
    · have hk:(if i<0 then(i+((its.toArray.size:Nat):Int)).toNat else min i.toNat its.toArray.size)=i.toNat:=by
        rw[if_neg (by omega),List.size_toArray];omega
      simp only[hk]
      apply Array.ext'
      simp[List.take_of_length_le]
    · rw[List.length_append,List.length_cons,List.length_take,List.length_drop]
      have:sizeLine=sizeLine:=rfl
      rw[sizeLine_eq]
      omega
end
section
variable{G:Gx}{ρ:Rh}{te:TE}{E:DE}{i j:Nat}{f:Bool}{ds:List PyData}{K:PySem.W.Frag}
theorem ai.ins{nb:Addr->Prop}{H:Hp}{d:PyData}{x:V}(hd:af nb H d x):∀{ds:List PyData} {xs:List V} (k:Nat),ai nb H ds xs->ai nb H (ds.take k++d::ds.drop k) (xs.take k++x::xs.drop k)
 |_,_,0,h=> .cons hd h
 |[],_,k+1,h=>by unfold ai at h;subst h;exact .cons hd .nil
 |e::ds,_,k+1,h=>by unfold ai at h;obtain⟨y,ys,rfl,h1,h2⟩:=h;exact .cons h1 (ai.ins hd k h2)
theorem Sv.insert{a:Addr}{tb:TE}(e:ρ[i]?=some (.own a f ds))(h:Ev G ρ te fun _ y=>∃k:Int,y= .int k/\0<=k/\k<=ds.length/\ds.length<10000/\Ev G ρ tb fun g d=>E.nx (ρ.set i (.own a (f && g) (ds.take k.toNat++d::ds.drop k.toNat)))):
  Sv G ρ (pF (zJ K "list" CM (dM i) (ck te (ck tb cT)))) E:=fun nb σ H D W KK=>by
 obtain⟨x,e1,h1,h2,h3,xs,hx,hd⟩:=W.ok i _ e
 subst h1
 refine⟨.ref a,e1, .inl ⟨rfl,_,aL.of hx⟩,h nb σ H _ W fun g0 v H1 y ⟨k,ey,k0,k1,hl,q⟩ s1 hv=>?_⟩
 subst ey
 have hk:=hv.bP
 subst hk
 refine q nb σ H1 _ (W.step s1) fun g u H2 d p s2 hu=>?_
 have W2:=(W.step s1).step s2
 have oX:=s2.1 _ _ h3 (s1.1 _ _ h3 hx)
 have hd2:=(hd.keep s1.cU).keep s2.cU
 have hlen:=hd.length
 refine⟨a,xs,u,k,rfl,rfl,oX,k0,by omega,by omega,KK.nx nb _ _ _ p (p5 W2 e ?_)⟩
 exact ai.ins (hu.av (cE (fun z=>(Bool.and_eq_true _ _▸z).2) fun _ z=>z)) _ (hd2.av (cE (fun z=>(Bool.and_eq_true _ _▸z).1) fun _ z=>z))
end
end L2
set_option maxRecDepth 100000
set_option maxHeartbeats 4000000
namespace L2
open PySem PySem.Spec PyProof.Rows
theorem Vb{H:Hp}{a:Addr}{xs ys:List (Key×V)}(h:Rd H a (.dK xs))(g:Rd H a (.dK ys)):xs=ys:=by
 rcases h with h|⟨o,h⟩<;>rcases g with g|⟨u,g⟩<;>rw[h] at g<;>cases g<;>rfl
theorem pB.fn:∀{d e:PyData} {k:Key},pB d k->pB e k->d=e
  | .int i, e, k, h, g => by
    have h:k= .inl i:=h
    cases e<;>first|exact g.elim|(have g:k=_:=g;rw[h] at g;injection g with g;subst g;rfl)|(have g:k=_:=g;rw[h] at g;cases g)
  | .str i, e, k, h, g => by
    have h:k= .inr i:=h
    cases e<;>first|exact g.elim|(have g:k=_:=g;rw[h] at g;injection g with g;subst g;rfl)|(have g:k=_:=g;rw[h] at g;cases g)
  | .none,_,_,h,_=>h.elim
  | .bool _,_,_,h,_=>h.elim
  | .list _,_,_,h,_=>h.elim
  | .tuple _,_,_,h,_=>h.elim
  | .dict _,_,_,h,_=>h.elim
mutual
theorem af.fn{S S':Addr->Prop}{H:Hp}:∀{d e:PyData} {v:V},af S H d v->af S' H e v->d=e
  | .none, e, v, h, g => by
    unfold af at h;subst h
    cases e<;>unfold af at g<;>first|rfl|(cases g;done)|(obtain⟨_,_,z,_⟩:=g;cases z)
  | .bool b, e, v, h, g => by
    unfold af at h;subst h
    cases e<;>unfold af at g<;>first|(cases g;done)|(cases g;rfl)|(obtain⟨_,_,z,_⟩:=g;cases z)
  | .int b, e, v, h, g => by
    unfold af at h;subst h
    cases e<;>unfold af at g<;>first|(cases g;done)|(cases g;rfl)|(obtain⟨_,_,z,_⟩:=g;cases z)
  | .str b, e, v, h, g => by
    unfold af at h;subst h
    cases e<;>unfold af at g<;>first|(cases g;done)|(cases g;rfl)|(obtain⟨_,_,z,_⟩:=g;cases z)
  | .list ds, e, v, h, g => by
    unfold af at h
    obtain⟨a,xs,rfl,n,hx,hd⟩:=h
    cases e<;>unfold af at g<;>first|(cases g;done)|skip
    all_goals (obtain⟨a',xs',z,n',hx',hd'⟩:=g;cases z)
    all_goals first
      |(rcases hx' with hx'|⟨o,hx'⟩<;>rw[hx] at hx'<;>cases hx';done)
      |(rw[hx] at hx';cases hx';done)
      |(rw[hx] at hx';cases hx';rw[ai.fn hd hd'])
  | .tuple ds, e, v, h, g => by
    unfold af at h
    obtain⟨a,xs,rfl,n,hx,hd⟩:=h
    cases e<;>unfold af at g<;>first|(cases g;done)|skip
    all_goals (obtain⟨a',xs',z,n',hx',hd'⟩:=g;cases z)
    all_goals first
      |(rcases hx' with hx'|⟨o,hx'⟩<;>rw[hx] at hx'<;>cases hx';done)
      |(rw[hx] at hx';cases hx';done)
      |(rw[hx] at hx';cases hx';rw[ai.fn hd hd'])
  | .dict ds, e, v, h, g => by
    unfold af at h
    obtain⟨a,xs,rfl,n,hx,hd⟩:=h
    cases e<;>unfold af at g<;>first|(cases g;done)|skip
    all_goals (obtain⟨a',xs',z,n',hx',hd'⟩:=g;cases z)
    all_goals first
      |(rcases hx with hx|⟨o,hx⟩<;>rw[hx] at hx'<;>cases hx';done)
      |(rw[aB.fn hd (by rw[Vb hx hx'];exact hd')])
theorem ai.fn{S S':Addr->Prop}{H:Hp}:∀{ds es:List PyData} {vs:List V},ai S H ds vs->ai S' H es vs->ds=es
  | [], es, vs, h, g => by
    unfold ai at h;subst h
    cases es with
    |nil=>rfl
    |cons e es=>unfold ai at g;obtain⟨_,_,z,_⟩:=g;cases z
  | d :: ds, es, vs, h, g => by
    unfold ai at h
    obtain⟨y,ys,rfl,h1,h2⟩:=h
    cases es with
    |nil=>unfold ai at g;cases g
    | cons e es =>
      unfold ai at g
      obtain⟨y',ys',z,g1,g2⟩:=g
      cases z
      rw[af.fn h1 g1,ai.fn h2 g2]
theorem aB.fn{S S':Addr->Prop}{H:Hp}:∀{ds es:List (PyData×PyData)} {vs:List (Key×V)},aB S H ds vs->aB S' H es vs->ds=es
  | [], es, vs, h, g => by
    unfold aB at h;subst h
    cases es with
    |nil=>rfl
    |cons e es=>unfold aB at g;obtain⟨_,_,z,_⟩:=g;cases z
  | d :: ds, es, vs, h, g => by
    unfold aB at h
    obtain⟨y,ys,rfl,h1,h2⟩:=h
    cases es with
    |nil=>unfold aB at g;cases g
    | cons e es =>
      unfold aB at g
      obtain⟨y',ys',z,g1,g2⟩:=g
      cases z
      rw[bN.fn h1 g1,aB.fn h2 g2]
theorem bN.fn{S S':Addr->Prop}{H:Hp}:∀{d e:PyData×PyData} {v:Key×V},bN S H d v->bN S' H e v->d=e
  | (k, d), (k', e), v, h, g => by
    unfold bN at h g
    rw[pB.fn h.1 g.1,af.fn h.2 g.2]
end
mutual
theorem af.out{S:Addr->Prop}{H:Hp}{c:Addr}{D:PyData}(hc:af S H D (.ref c)):∀{d:PyData} {v:V},sizeOf d<sizeOf D->af S H d v->af (fun x=>S x\/x=c) H d v
  | .none,_,_,h=>by unfold af at h⊢;exact h
  | .bool _,_,_,h=>by unfold af at h⊢;exact h
  | .int _,_,_,h=>by unfold af at h⊢;exact h
  | .str _,_,_,h=>by unfold af at h⊢;exact h
  | .list ds, v, hs, h => by
    have h0:=h
    unfold af at h⊢
    obtain⟨a,xs,rfl,n,hx,hd⟩:=h
    refine⟨a,xs,rfl,fun z=>z.elim n fun z=>?_,hx,ai.out hc (by simp at hs;omega) hd⟩
    subst z
    rw[af.fn hc h0] at hs
    exact absurd hs (Nat.lt_irrefl _)
  | .tuple ds, v, hs, h => by
    have h0:=h
    unfold af at h⊢
    obtain⟨a,xs,rfl,n,hx,hd⟩:=h
    refine⟨a,xs,rfl,fun z=>z.elim n fun z=>?_,hx,ai.out hc (by simp at hs;omega) hd⟩
    subst z
    rw[af.fn hc h0] at hs
    exact absurd hs (Nat.lt_irrefl _)
  | .dict ds, v, hs, h => by
    have h0:=h
    unfold af at h⊢
    obtain⟨a,xs,rfl,n,hx,hd⟩:=h
    refine⟨a,xs,rfl,fun z=>z.elim n fun z=>?_,hx,aB.out hc (by simp at hs;omega) hd⟩
    subst z
    rw[af.fn hc h0] at hs
    exact absurd hs (Nat.lt_irrefl _)
theorem ai.out{S:Addr->Prop}{H:Hp}{c:Addr}{D:PyData}(hc:af S H D (.ref c)):∀{ds:List PyData} {vs:List V},sizeOf ds<sizeOf D->ai S H ds vs->ai (fun x=>S x\/x=c) H ds vs
  |[],_,_,h=>by unfold ai at h⊢;exact h
  | d :: ds, _, hs, h => by
    unfold ai at h⊢
    obtain⟨y,ys,e,h1,h2⟩:=h
    exact⟨y,ys,e,af.out hc (by simp at hs;omega) h1,ai.out hc (by simp at hs;omega) h2⟩
theorem aB.out{S:Addr->Prop}{H:Hp}{c:Addr}{D:PyData}(hc:af S H D (.ref c)):∀{ds:List (PyData×PyData)} {vs:List (Key×V)},sizeOf ds<sizeOf D->aB S H ds vs->aB (fun x=>S x\/x=c) H ds vs
  |[],_,_,h=>by unfold aB at h⊢;exact h
  | d :: ds, _, hs, h => by
    unfold aB at h⊢
    obtain⟨y,ys,e,h1,h2⟩:=h
    exact⟨y,ys,e,bN.out hc (by simp at hs;omega) h1,aB.out hc (by simp at hs;omega) h2⟩
theorem bN.out{S:Addr->Prop}{H:Hp}{c:Addr}{D:PyData}(hc:af S H D (.ref c)):∀{d:PyData×PyData} {v:Key×V},sizeOf d<sizeOf D->bN S H d v->bN (fun x=>S x\/x=c) H d v
  | (k, d), _, hs, h => by
    unfold bN at h⊢
    exact⟨h.1,af.out hc (by simp at hs;omega) h.2⟩
end
def fD(G:Gx)(ρ:Rh)(te:TE)(Φ:PyData->Prop):Prop:=∀nb σ H (Q:VK),Wd G nb ρ σ H->(∀v H' d,Φ d->Step G.B H H'->af (fun a=>H a≠none) H' d v->Q v H')->te σ H Q
section
variable{G:Gx}{ρ:Rh}{ta tb te:TE}{t:TA}{E:DE}{i j k m:Nat}{f:Bool}{K:PySem.W.Frag}{Φ:PyData->Prop}
theorem Wd.Bx{nb:Addr->Prop}{σ:St}{H H1:Hp}{a:Addr}(W:Wd G nb ρ σ H)(s:Step G.B H H1)(h:H a≠none):H1 a≠none:=fun e=>h (W.none_of s e)
theorem fD.ju{n:Nat}{F:DF}(hm:cF F)(e:ρ[i]?=some .au)(h:Av G ρ t fun es=>es.length+1=n/\F (es.map (·.2)) fun f d=>f=true/\Φ d):fD G ρ (fW (er n F) [] E0 (ck (dM i) t)) Φ:=fun nb σ H Q W z=>by
 obtain⟨b,l,hB,e1,B⟩:=W.qi e
 refine⟨.ref b,e1,h nb σ H _ W fun es vs H1 ⟨hl,p⟩ s1 q1=>?_⟩
 have W1:=W.step s1
 show er n F ((V.ref b::vs)++[]) H1 Q E0
 rw[List.append_nil]
 have hb:∀f,G.S nb f b:=fun f=> .inr (.inr (.inl fun n=>n b l hB rfl))
 refine⟨by rw[List.length_cons,q1.len,hl],b,l,vs,G.S nb (gY es),es.map (·.2),rfl,W1.au b l hB,W1.gC,hb _,q1.all fun z=>z,hm _ _ _ p fun f d ⟨hf,hp⟩ v H' bt B' hd=>z v H' d hp (s1.trans (.rM hB bt B')) (hd.av fun a q=>?_)⟩
 exact .inr ⟨hf,W.Bx s1 q⟩
theorem fD.bI{n:Nat}{F:DF}(hm:cF F)(h:Av G ρ t fun es=>es.length=n/\F (es.map (·.2)) fun f d=>f=true/\Φ d):fD G ρ (fW (aZ n F) [] E0 t) Φ:=fun nb σ H Q W z=>
 h nb σ H _ W fun es vs H1 ⟨hl,p⟩ s1 q1=>by
  have W1:=W.step s1
  rw[List.append_nil]
  refine⟨by rw[q1.len,hl],G.S nb (gY es),es.map (·.2),W1.gC,q1.all fun z=>z,hm _ _ _ p fun f d ⟨hf,hp⟩ v H' sm hd=>z v H' d hp (s1.trans (.same W1.au sm)) (hd.av fun a q=>?_)⟩
  exact .inr ⟨hf,W.Bx s1 q⟩
theorem Wd.Nv{nb:Addr->Prop}{σ:St}{H H1:Hp}{c:Addr}{ds:List PyData}(W:Wd G nb ρ σ H)(s1:Step G.B H H1)(h:af (fun a=>H a≠none) H1 (.list ds) (.ref c)):
  Wd G (fun x=>nb x\/x=c) (ρ.set i (.own c true ds)) (σ.set i (some (.ref c))) H1:=by
 have h0:=h
 obtain⟨c',xs,e,n,hx,hd⟩:=h.cO
 cases e
 have hc:H c=none:=Classical.byContradiction fun z=>n z
 refine Sv.qt W s1 hc hx ((ai.out h0 (by simp) hd).av fun x z=>?_)
 rcases z with z|z
 ·exact .inl (W.gC x z)
 ·exact .inr z
end
end L2
set_option maxRecDepth 100000
set_option maxHeartbeats 1000000
set_option maxRecDepth 100000
set_option maxHeartbeats 4000000
set_option maxRecDepth 100000
set_option maxHeartbeats 4000000
set_option maxRecDepth 100000
set_option maxHeartbeats 4000000
namespace L2
open PySem PySem.Spec PyProof.Rows
section
variable{G:Gx}{ρ:Rh}{ta tb te:TE}{t:TA}{E:DE}{i j m n:Nat}{f:Bool}{K K2 K3:PySem.W.Frag}{Φ:Pd}
theorem fD.U6{Ψ:PyData->Prop}{a:Addr}{ks:Ks}(i:Nat)(e:ρ[i]?=some (.bU a f ks))(h:fD G (ρ.set i (.d f (.dict (ks.map cG)))) te Ψ):fD G ρ te Ψ:=fun nb σ H Q W z=>h _ σ H Q (Bf W e) z
theorem Ev.Fv(h:fD G ρ te fun d=>Φ true d):Ev G ρ te Φ:=fun nb σ H Q W z=>h nb σ H Q W fun v H' d p st hd=>z true v H' d p st (hd.av fun a q=>W.gC a q)
end
@[reducible] def Xo(S:List Int):Ks:=S.map fun x=>(x,PyData.bool true)
end L2
set_option maxRecDepth 100000
set_option maxHeartbeats 4000000
namespace L2
open PySem PySem.Spec PyProof.Rows
section
variable{G:Gx}{ρ:Rh}{Φ:Pd}{t:TA}{te:TE}
theorem Sv.Sg{i:Nat}{E:DE}(h:fD G ρ te fun d=>(∃ds,d= .list ds/\∀a,E.nx (ρ.set i (.own a true ds)))\/(gp d=true/\E.nx (ρ.set i (.d true d)))):Sv G ρ (eE te (dN i)) E:=fun nb σ H D W K=>
 h nb σ H _ W fun v H1 d hd st hv=>by
  rcases hd with ⟨ds,rfl,q⟩|⟨hs,q⟩
  ·have h0:=hv
   obtain⟨c,xs,rfl,_⟩:=hv.cO
   exact K.nx _ _ _ _ (q c) (Wd.Nv (i:=i) W st h0)
  ·exact K.nx nb _ _ _ q ((W.step st).jq (i:=i) (f:=true) (hv.gu hs))
end
end L2
set_option maxRecDepth 100000
set_option maxHeartbeats 4000000
namespace L2
open PySem PySem.Spec PyProof.Rows
section
variable{X:Cx}{pins:List (Addr×Obj)}{σ:List (Option V)}{H:Hp}{s:Shared}{h':Heap}
theorem Inv.OH{t':Nat}{ch:List Addr}{T:Addr}{o:HO}(I:Inv X pins σ H s)(k:∀b u,b∉ch->s.heap.get? b=some u->h'.get? b=some u)(f:∀b∈ch,fG X pins H b)(hT:s.heap.objs.size<=T)(w9:T∉ch)
  (new:bW X.prog X.w (upd H T o) h' T o):Inv X pins σ (upd H T o) {s with heap:=h',toks:=t'}:=by
 have hn:=I.hok.fresh hT
 have ne:∀b u,H b=some u->b∉ch:=fun b u q z=>by rw[(f b z).1] at q;cases q
 have nT:∀b u,H b=some u->b≠T:=fun b u q z=>by rw[z,hn] at q;cases q
 have nl:X.env.locals∉ch:=fun z=>(f _ z).2.1 rfl
 refine I.step (g':=s.gens) (d':=s.drawn) (ch:=ch) (fun b hb=>?_) (fun b o _ _ hc q _=>k b o hc q) (fun b o _ _ hc q _=>⟨o.slots,k b o hc q⟩)
  (fun b o hc q n=>?_) (fun b o hc q=>⟨o,k b o hc q⟩) (fun b xs q=>by rw[aF (nT b _ q)];exact q) (fun b o u q=>by rw[aF (nT b _ q)];exact q) (fun b ps q=>⟨#[],by rw[aF (nT b _ q),q];simp⟩) (fun m hm=>?_) (fun b u q=>?_) I.bare
 ·obtain⟨e0,e1,e2,e3,e4,e5⟩:=f b hb
  exact⟨e3,e1,e4,e5⟩
 ·rw[aF (fun z=>absurd (Nat.lt_of_lt_of_le (Heap.lt_size q) (by rw[z];exact hT)) (Nat.lt_irrefl _))];exact n
 ·obtain⟨o,es,ep,ho,r⟩:=hm
  exact⟨o,es,ep,k _ o nl ho,r⟩
 ·by_cases hb:b=T
  ·subst hb;rw[bq] at q;cases q;exact new
  ·rw[aF hb] at q
   refine(I.hok b u q).stay (fun c v hc z=>?_) (fun c z=>by rw[aF (nT c _ z)];exact z) fun c xs z=>by rw[aF (nT c _ z)];exact z
   rcases hc with y|y
   ·subst y;exact k _ v (ne _ u q) z
   ·exact k c v (ne c _ y) z
theorem Inv.IW{t':Nat}{ch:List Addr}(I:Inv X pins σ H s)(k:∀b u,b∉ch->s.heap.get? b=some u->h'.get? b=some u)(f:∀b∈ch,fG X pins H b):Inv X pins σ H {s with heap:=h',toks:=t'}:=by
 have ne:∀b u,H b=some u->b∉ch:=fun b u q z=>by rw[(f b z).1] at q;cases q
 have nl:X.env.locals∉ch:=fun z=>(f _ z).2.1 rfl
 refine I.step (g':=s.gens) (d':=s.drawn) (ch:=ch) (fun b hb=>?_) (fun b o _ _ hc q _=>k b o hc q) (fun b o _ _ hc q _=>⟨o.slots,k b o hc q⟩)
  (fun _ _ _ _ n=>n) (fun b o hc q=>⟨o,k b o hc q⟩) (fun _ _ q=>q) (fun _ _ _ q=>q) (fun b ps q=>⟨#[],by rw[q];simp⟩) (fun m hm=>?_) (fun b u q=>?_) I.bare
 ·obtain⟨e0,e1,e2,e3,e4,e5⟩:=f b hb
  exact⟨e3,e1,e4,e5⟩
 ·obtain⟨o,es,ep,ho,r⟩:=hm
  exact⟨o,es,ep,k _ o nl ho,r⟩
 ·refine(I.hok b u q).stay (fun c v hc z=>?_) (fun c z=>z) fun c xs z=>z
  rcases hc with y|y
  ·subst y;exact k _ v (ne _ u q) z
  ·exact k c v (ne c _ y) z
end
def rz(K:PySem.W.Frag)(a b:Addr):It:=
 ⟨fun i H=>∃xs ys x y,aL K H a xs/\aL K H b ys/\xs[i]?=some x/\ys[i]?=some y,fun i H v H'=>∃p x y,v= .ref p/\H p=none/\(∀xs,aL K H a xs->xs[i]?=some x)/\(∀ys,aL K H b ys->ys[i]?=some y)/\H'=upd H p (.tup [x,y]),fun i H=>∃xs ys,aL K H a xs/\aL K H b ys/\min xs.length ys.length=i⟩
def Fq(z TI TO i1 i2 a b:Addr)(i:Nat)(h:Heap):Prop:=IsZip h z TI TO .none/\IsPair h TI (.ref i1) (.ref i2)/\(∃u v,IsPair h TO u v)/\h.IsListIter i1 a i/\h.IsListIter i2 b i
theorem Bt{X:Cx}{z TI TO i1 i2 a b:Addr}{h:Heap}{i:Nat}{xs ys:Array Value}(h1:h.IsList a xs)(h2:h.IsList b ys)(st:Fq z TI TO i1 i2 a b i h)(hd:[z,TI,TO,i1,i2].Nodup):ZipApart z TI TO i1 i2 a b:=by
 obtain⟨s1,s2,⟨u,v,s3⟩,s4,s5⟩:=st
 have n1:∀{l:Addr} {xs:Array Value},h.IsList l xs->l≠z/\l≠TO/\l≠i1/\l≠i2:=fun{l xs} hl=>by
  obtain⟨ol,l1,l2,l3⟩:=hl
  refine⟨fun q=>?_,fun q=>?_,fun q=>?_,fun q=>?_⟩
  ·subst q;rw[s1] at l1;cases l1;exact absurd l2 (by simp)
  ·subst q;rw[s3] at l1;cases l1;exact absurd l2 (by simp)
  ·subst q
   obtain⟨oi,e1,e2,e3⟩:=s4
   rw[e1] at l1;cases l1;rw[e2] at l2;exact absurd l2 (by simp)
  ·subst q
   obtain⟨oi,e1,e2,e3⟩:=s5
   rw[e1] at l1;cases l1;rw[e2] at l2;exact absurd l2 (by simp)
 obtain⟨a1,a2,a3,a4⟩:=n1 h1
 obtain⟨b1,b2,b3,b4⟩:=n1 h2
 simp only[List.nodup_cons,List.mem_cons,List.not_mem_nil,not_or,or_false,not_false_eq_true,List.nodup_nil,and_true] at hd
 obtain⟨⟨d1,d2,d3,d4⟩,⟨d5,d6,d7⟩,⟨d8,d9⟩,PY⟩:=hd
 exact⟨Ne.symm d1,Ne.symm d2,Ne.symm d3,Ne.symm d4,d5,d6,d7,d8,d9,PY,a1,a2,a3,a4,b1,b2,b3,b4⟩
theorem IV{P:Program}{w:World}{K:PySem.W.Frag}{elts:List Expr}{k:Nat}{pos:Pos}(z TI TO i1 i2 a b:Addr)(hd:[z,TI,TO,i1,i2].Nodup):
  Turn P w K (.Tuple elts k pos) (rz K a b) [z,TI,TO,i1,i2] z (Fq z TI TO i1 i2 a b) where
 mem:=by simp
 obj:=fun i h st c hc=>by
  obtain⟨s1,s2,⟨u,v,s3⟩,⟨o4,e4,c4,d4⟩,⟨o5,e5,c5,d5⟩⟩:=st
  have hc:c=z\/c=TI\/c=TO\/c=i1\/c=i2:=by simpa using hc
  rcases hc with q|q|q|q|q
  ·subst q;exact⟨_,s1,fun v z=>by have z':Data.fields _=Data.cell v:=z;cases z'⟩
  ·subst q;exact⟨_,s2,fun v z=>by have z':Data.seq _ _=Data.cell v:=z;cases z'⟩
  ·subst q;exact⟨_,s3,fun v z=>by have z':Data.seq _ _=Data.cell v:=z;cases z'⟩
  ·subst q;exact⟨o4,e4,fun v z=>by rw[d4] at z;cases z⟩
  ·subst q;exact⟨o5,e5,fun v z=>by rw[d5] at z;cases z⟩
 keep:=fun i h h' st k=>by
  obtain⟨s1,s2,⟨u,v,s3⟩,s4,s5⟩:=st
  exact⟨k z (by simp) _ s1,k TI (by simp) _ s2,⟨u,v,k TO (by simp) _ s3⟩,s4.at fun o q=>k i1 (by simp) o q,s5.at fun o q=>k i2 (by simp) o q⟩
 item:=by
  intro X hP hw hK hc i pins s σ H E I hf st hg
  subst hP hw hK
  obtain⟨xs,ys,x,y,hq1,hq2,hx,hy⟩:=hg
  obtain⟨its,rv,p,hz⟩:=I.list hq1
  obtain⟨its2,qu,p2,hz2⟩:=I.list hq2
  obtain⟨u,hu,ru⟩:=rv.get hx
  obtain⟨u2,Bj,HQ⟩:=qu.get hy
  have D:=Bt (X:=X) p.isList p2.isList st hd
  have W:=WalksT.zip2 (prog:=X.prog) (w:=X.w) (I.ok.hd hc) z TI TO i1 i2 a b D its.toArray its2.toArray
  have hi:i<min its.toArray.size its2.toArray.size:=by
   have h1:=(List.getElem?_eq_some_iff.mp hu).1
   have h2:=(List.getElem?_eq_some_iff.mp Bj).1
   rw[List.size_toArray,List.size_toArray]
   omega
  obtain⟨s1,s2,s3,s4,s5⟩:=id st
  refine W.item i s _ _ hi ⟨s1,s2,s3,s4,s5,p.isList,p2.isList⟩ fun T vals h' tk hv hT zM lI kp=>⟨.ref T,rfl,?_⟩
  refine W.go elts k pos i T _ _ _ lI fun h'' st' nL=>?_
  obtain⟨x',y',hx',hy',uz⟩:=hv
  have e1:x'=u:=by
   have:its.toArray[i]?=some u:=by simpa using hu
   rw[hx'] at this;exact Option.some.inj this
  have e2:y'=u2:=by
   have:its2.toArray[i]?=some u2:=by simpa using Bj
   rw[hy'] at this;exact Option.some.inj this
  subst e1 e2 uz
  have zu:=W.apart i T h' lI
  have hTI:T≠TI:=fun q=>by
   rw[q] at hT
   exact absurd (Heap.lt_size s2) (Nat.not_lt.mpr hT)
  obtain⟨_,_,_,_,_,_,_,t1,t2,t3,t4⟩:=lI
  obtain⟨oT,g1,g2,nT,g3⟩:=zM
  have n9:=nL T oT zu g1
  have w9:T∉[z,TI,TO,i1,i2]:=by simp[t1,hTI,t2,t3,t4]
  refine⟨.ref T,upd H T (.tup [x,y]),I.OH (ch:=[z,TI,TO,i1,i2]) (fun c v hc q=>nL c v (fun m=>hc (by simp at m⊢;rcases m with m|m|m|m<;>simp[m])) (kp c v (fun m=>hc (by simp at m⊢;rcases m with m|m|m|m<;>simp[m])) q)) hf hT w9 ?_,rfl,⟨T,x,y,rfl,I.hok.fresh hT,fun zs hy=>by rw[I.rC hy hq1];exact hx,fun zs hy'=>by rw[I.rC hy' hq2];exact hy,rfl⟩,?_,fun c hc=>?_⟩
  ·exact⟨by show 2<=sizeLine;decide,[x',y'], .cons ru (.cons HQ .nil),oT,n9,g2,nT,g3⟩
  ·obtain⟨q1,q2,q3,q4,q5,_,_⟩:=st'
   exact⟨q1,q2,q3,q4,q5⟩
  ·rw[aF (fun q=>w9 (by rw[<-q];exact hc)),(hf c hc).1]
 done:=by
  intro X hP hw hK hc i pins s σ H E I hf st hg
  subst hP hw hK
  obtain⟨xs,ys,hq1,hq2,hx⟩:=hg
  obtain⟨its,rv,p,hz⟩:=I.list hq1
  obtain⟨its2,qu,p2,hz2⟩:=I.list hq2
  have D:=Bt (X:=X) p.isList p2.isList st hd
  have W:=WalksT.zip2 (prog:=X.prog) (w:=X.w) (I.ok.hd hc) z TI TO i1 i2 a b D its.toArray its2.toArray
  have l1:=rv.length
  have l2:=qu.length
  have hn:min its.toArray.size its2.toArray.size=i:=by rw[List.size_toArray,List.size_toArray,<-l1,<-l2];exact hx
  obtain⟨s1,s2,s3,s4,s5⟩:=id st
  refine W.done s _ _ (by rw[hn];exact⟨s1,s2,s3,s4,s5,p.isList,p2.isList⟩) fun h' tk kp=>⟨rfl,?_⟩
  exact I.IW (ch:=[z,TI,TO,i1,i2]) (fun c v hc q=>kp c v (fun m=>hc (by simp at m⊢;rcases m with m|m|m|m<;>simp[m])) q) hf
 self:=fun _ _ _ _ _ st h=>wpAny_pyIter_zip st.1 h
def FO(K:PySem.W.Frag)(ta tb:TE):TI:=fun σ H R=>ta σ H fun x H1=>tb σ H1 fun y H2=>∃a b,x= .ref a/\y= .ref b/\(∃xs,aL K H2 a xs)/\(∃ys,aL K H2 b ys)/\R (rz K a b) H2
theorem Ub{X:Cx}{K:PySem.W.Frag}{elts:List Expr}{k:Nat}{tpos:Pos}{l1 l2:Expr}{ta tb:TE}{p pos:Pos}(hK:X.K=K)(hg:Gl X "zip")(hm:X.mg "zip"=none)(ha:PE X l1 ta)(hb:PE X l2 tb)(hs:starEach [l1,l2] X.env=[(false,eval l1 X.env),(false,eval l2 X.env)]:=by rfl)(hs2:starEach [l2] X.env=[(false,eval l2 X.env)]:=by rfl)(hpl:(backTo pos (starEach [l2] X.env)).any (·.1)=false:=by rfl):
    PI X (.Tuple elts k tpos) (.Call (.Name "zip" p) [l1,l2] [] pos) (FO K ta tb):=by
  subst hK
  intro pins s σ H R I h
  have hA:PA X [l1,l2] (ck ta (ck tb cT)):=aa ha (aa hb ak (by rw[hs2];rfl)) (by rw[hs,hs2])
  refine Call_ (jw I hg hm boot_zip (PyProof.Rows.callWith_type1 (aP (hA pos pins s σ H (fun vs H1=>match vs with|[x,y]=>∃a b,x= .ref a/\y= .ref b/\(∃xs,aL X.K H1 a xs)/\(∃ys,aL X.K H1 b ys)/\R (rz X.K a b) H1|_=>False) I h) fun us s1 ⟨vs,H1,I1,r1,q1⟩=>?_) (by rw[hs,hs2]) hpl))
  cases r1 with
  |nil=>exact q1.elim
  | cons r rr =>
    cases rr with
    |nil=>exact q1.elim
    |cons r2 rr=>
    cases rr with
    |cons _ _=>exact q1.elim
    |nil=>
    obtain⟨a,b,e1,e2,⟨xs,hq⟩,⟨ys,hq2⟩,q⟩:=q1
    subst e1 e2
    cases r
    cases r2
    obtain⟨its,rv,p,hz⟩:=I1.list hq
    obtain⟨its2,qu,p2,hz2⟩:=I1.list hq2
    refine call_zip_2 p.isList p2.isList fun h' hz hTI hTO hi1 hi2 hsz hk=>?_
    refine wpAny_pyIter_zip hz ?_
    have I2:Inv X pins σ H1 {s1 with heap:=h'}:=I1.kept (t':=s1.toks) hk
    refine⟨s1.heap.objs.size+4,[s1.heap.objs.size+4,s1.heap.objs.size+2,s1.heap.objs.size+3,s1.heap.objs.size,s1.heap.objs.size+1],_,_,H1,rfl,I2,IV _ _ _ _ _ a b (by simp),⟨hz,hTI,⟨_,_,hTO⟩,hi1,hi2⟩,fun b hb=>?_,q⟩
    have hb':s1.heap.objs.size<=b:=by
      simp only[List.mem_cons,List.not_mem_nil,or_false] at hb
      rcases hb with z|z|z|z|z<;>subst z
      · exact Nat.le_add_right _ _
      · exact Nat.le_add_right _ _
      · exact Nat.le_add_right _ _
      · exact Nat.le_refl _
      · exact Nat.le_add_right _ _
    exact I1.lF hb' (I1.hok.fresh hb')
theorem R.V1{K:PySem.W.Frag}{a b:Addr}{xs ys:List V}{g:TG}{tc:TT}{te:TE}{acc:Addr}{Qe:Hp->Prop}{σ:St}{H:Hp}(hlen:ys.length=xs.length)(Pv:Nat->St->Hp->Prop)(h0:Pv 0 σ H)(hl:∀i σ H,i<=xs.length->Pv i σ H->aL K H a xs/\aL K H b ys)
  (hs:∀i x y σ H p,xs[i]?=some x->ys[i]?=some y->Pv i σ H->H p=none->g (.ref p) σ (upd H p (.tup [x,y])) fun σ2 H2=>tc σ2 H2 fun b H3=>if b=true then te σ2 H3 fun v H4=>∃ys,H4 acc=some (.lst ys)/\ys.length<sizeLine/\Pv (i+1) σ2 (upd H4 acc (.lst (ys++[v]))) else Pv (i+1) σ2 H3)
  (hd:∀σ H,Pv xs.length σ H->Qe H):kN (rz K a b) g tc te acc Qe σ H:=by
 refine⟨fun i m σ H=>m=xs.length-i/\i<=xs.length/\Pv i σ H,⟨xs.length,by simp,Nat.zero_le _,h0⟩,?_⟩
 rintro i m σ H ⟨rfl,hi,p⟩
 obtain⟨q,q2⟩:=hl i σ H hi p
 by_cases hlt:i<xs.length
 ·refine .inr ⟨⟨xs,ys,xs[i],ys[i]'(by omega),q,q2,by simp[hlt],List.getElem?_eq_getElem _⟩,Pv (i+1),fun σ' H' p'=>⟨xs.length-(i+1),by omega,rfl,hlt,p'⟩,fun x H' y=>?_⟩
  obtain⟨pp,y,y2,e,hn,hy,NG,e2⟩:=y
  subst e e2
  exact hs i y y2 σ H pp (hy xs q) (NG ys q2) p hn
 ·have e:i=xs.length:=by omega
  subst e
  exact .inl ⟨⟨xs,ys,q,q2,by omega⟩,hd σ H p⟩
section
variable{G:Gx}{ρ bM:Rh}{te:TE}{s:TS}{gt:TG}{E:DE}{K:PySem.W.Frag}{Θ:Bool->List PyData->Prop}{tc:TT}{mp:List (Option Nat)}
theorem aC.VZ{t1 t2:TE}(hm:(mp.filterMap id).Nodup)(dz:iW mp ρ=bM)(h:Ev G ρ t1 fun f1 x=>∃es,x= .list es/\cN es=true/\es.length<=10000/\∀v,Ev (G.hd f1 (.list es) v) ρ t2 fun f2 y=>∃fE,y= .list fE/\cN fE=true/\fE.length=es.length/\∀v2,fF ((G.hd f1 (.list es) v).hd f2 (.list fE) v2) bM es.length (fun i d=>∃e e2,es[i]?=some e/\fE[i]?=some e2/\d= .tuple [e,e2]) true gt tc te Θ):aC G ρ (jN (FO K t1 t2) gt tc te mp) Θ:=fun nb σ H Q W z=>
 h nb σ H _ W fun f1 v H0 x ⟨es,ex,hs,hn,q⟩ s0 hv=>by
  subst ex
  have Wa:=(W.step s0).hd hv
  refine q v nb σ H0 _ Wa fun f2 v2 H1 y ⟨fE,ey,hs2,hlen,q⟩ s1 hv2=>?_
  subst ey
  obtain⟨fl,I,h0,ht,he⟩:=q v2
  have W0:=(Wa.step s1).hd hv2
  obtain⟨_,hv'⟩:=(Wa.step s1).eU
  obtain⟨a,xs,rfl,n,hx,hd⟩:=hv'.cO
  obtain⟨b,tL,rfl,n2,oX,hd2⟩:=hv2.cO
  have l1:=hd.length
  have l2:=hd2.length
  refine⟨a,b,rfl,rfl,⟨xs, .of hx⟩,⟨tL, .of oX⟩,fun acc hacc=>?_⟩
  have jO:Wd ((G.hd f1 (.list es) (.ref a)).hd f2 (.list fE) (.ref b)) nb bM (L2.dZ mp σ) H1:=by rw[<-dz];exact W0.dZ hm
  have W1:=jO.more hacc (o:= .lst [])
  have yX:Step G.B H H1:=s0.trans s1
  have hN:=NB.new yX.2 hacc
  have hno:=qK jO hacc
  have iS:Step G.B H1 (upd H1 acc (.lst [])):= .same yX.2 (cV hacc)
  have jG:NB G.B a:=Classical.byContradiction fun z=>n (.inr (.inr (.inl z)))
  have BX:NB G.B b:=Classical.byContradiction fun z=>n2 (.inr (.inr (.inl z)))
  refine R.V1 (xs:=xs) (ys:=tL) (by omega) (fun i σ H=>∃ds ys,Wd ((G.hd f1 (.list es) (.ref a)).hd f2 (.list fE) (.ref b)) (fun x=>nb x\/x=acc) bM σ H/\Step G.B H1 H/\H acc=some (.lst ys)/\ai (G.S (fun x=>nb x\/x=acc) fl) H ds ys/\ds.length<=i/\I i ds/\H a=some (.lst xs)/\H b=some (.lst tL)) ⟨[],[],W1,iS,bq, .nil,Nat.le_refl _,h0,iS.1 _ _ jG hx,iS.1 _ _ BX oX⟩ ?_ ?_ ?_
  ·rintro i σ H hi ⟨ds,ys,W,st,_,_,_,_,ha,hb⟩
   exact⟨.of ha, .of hb⟩
  ·rintro i x y σ H p hi hi2 ⟨ds,ys,W,st,hy,hd',hl,hI,ha,hb⟩ hp
   have hil:i<es.length:=by have:=(List.getElem?_eq_some_iff.mp hi).1;omega
   obtain⟨x',hx',dx⟩:=hd.get (List.getElem?_eq_getElem hil)
   rw[hi] at hx';cases hx'
   obtain⟨y',hy',dy⟩:=hd2.get (List.getElem?_eq_getElem (show i<fE.length by omega))
   rw[hi2] at hy';cases hy'
   have st2:Step ((G.hd f1 (.list es) (.ref a)).hd f2 (.list fE) (.ref b)).B H (upd H p (.tup [x,y])):= .same W.au (cV hp)
   have hap:acc≠p:=fun z=>by subst z;rw[hp] at hy;cases hy
   have sx:=List.all_eq_true.mp hs _ (List.getElem_mem hil)
   have sy:=List.all_eq_true.mp hs2 _ (List.getElem_mem (show i<fE.length by omega))
   refine sE (G:=(G.hd f1 (.list es) (.ref a)).hd f2 (.list fE) (.ref b)) hn hil (W.step st2) (.inr rfl) hN hno (st.trans st2) hacc (by rw[aF hap];exact hy) (hd'.keep st2.cU) hl (.tup (W.fresh hp) bq (.cons (dx.gu sx) (.cons (dy.gu sy) .nil))) (ht i _ ds ⟨_,_,List.getElem?_eq_getElem hil,List.getElem?_eq_getElem (show i<fE.length by omega),rfl⟩ hl hI) fun σ' H' ds' xs' W' st' hx' hd' hl' hI'=>⟨ds',xs',W',st',hx',hd',hl',hI',st'.1 _ _ jG hx,st'.1 _ _ BX oX⟩
  ·rintro σ H' ⟨ds,ys,W',st,hy,hd',hl,hI,_⟩
   rw[show xs.length=es.length by omega] at hl hI
   exact rA W yX hacc st hy hd' (he ds hl hI) z
end
end L2
set_option maxRecDepth 100000
set_option maxHeartbeats 4000000
namespace L2
open PySem PySem.Spec PyProof.Rows
abbrev jR(h:Heap)(e it:Addr)(i:Int)(z:Value)(b:Bool)(old:Value):Prop:=
 h.get? e=some {cls:= .type "enumerate",dict:=none,data:= .fields #[z, .bool b, .ref it,rawInt i, .none,old],slots:= #[]}
def mz(h:Heap)(e it:Addr)(i:Int):Prop:=∃(z:Value) (b:Bool) (old:Value),(z= .none\/∃a:Int,z=rawInt a)/\jR h e it i z b old
section
variable{prog:Program}{w:World}{A:Around}{E:Value->Shared->Prop}{s:Shared}
theorem K9{M:Model}{a:Addr}{Q:Option Obj->Shared->Prop}(h:Q (s.heap.get? a) s):wpAny M A (loadIfAlive a) Q E s:=fun Γ p _=>by
 show Sem.wp M Γ (.loadIfAlive a .pure) _ _ _ _
 rw[Sem.wp_loadIfAlive]
 exact h
theorem MC{e it l:Addr}{i:Nat}{items:Array Value}{x:Value}{Q:Option Value->Shared->Prop}(he:mz s.heap e it i)(hit:s.heap.IsListIter it l i)(hl:s.heap.IsList l items)(hx:items[i]?=some x)(hne:e≠it)
    (hQ:∀h',mz h' e it ((i:Int)+1)->h'.IsListIter it l (i+1)->h'.get? s.heap.objs.size=some {cls:= .type "tuple",data:= .seq #[.int i s.toks,x]}->h'.objs.size=s.heap.objs.size+1->
      (∀b o,b≠e->b≠it->s.heap.get? b=some o->h'.get? b=some o)->Q (some (.ref s.heap.objs.size)) {s with heap:=h',toks:=s.toks+1}):wpAny (model prog w) A (pyNext (.ref e)) Q E s:=by
  obtain⟨z,fb,old,hz,he⟩:=he
  have hT:s.TypeIs (.ref e) "enumerate":=⟨_,he,rfl⟩
  unfold pyNext
  refine wpAny_bind (wpAny_attempt (wpAny_callSpecial?_slot (name:=Str.ofString "__next__") hT F.slot_enumerate_next (wpAny_call_entry F.slot_enumerate_next hT F.entry_enumerate_next ?_ (F.args_enumerate_next_1 _))))
  obtain⟨hp,gg,dd,tk,ss⟩:=s
  show wpAny _ _ (field (.ref e) 2>>=_) _ _ ⟨hp,gg,dd,tk,ss⟩
  refine wpAny_bind (wpAny_field he rfl (x:= .ref it) rfl ?_)
  refine wpAny_bind (wpAny_nextOf_list_item hit hl hx fun k1 j1 m1=>?_)
  replace m1:Heap.SameBut it hp k1:=m1
  have n1:jR k1 e it i z fb old:=(m1.2 e hne).trans he
  show wpAny _ _ (field (.ref e) 3>>=_) _ _ ⟨k1,gg,dd,tk,ss⟩
  refine wpAny_bind (wpAny_field n1 rfl (x:=rawInt i) rfl ?_)
  show wpAny _ _ (field (.ref e) 4>>=_) _ _ ⟨k1,gg,dd,tk,ss⟩
  refine wpAny_bind (wpAny_field n1 rfl (x:= .none) rfl ?_)
  show wpAny _ _ (mkInt i>>=_) _ _ ⟨k1,gg,dd,tk,ss⟩
  refine wpAny_bind (wpAny_mkInt ?_)
  show wpAny _ _ (setField (.ref e) 3 (rawInt ((i:Int)+1))>>=_) _ _ ⟨k1,gg,dd,tk+1,ss⟩
  refine wpAny_bind (wpAny_setField_rec n1 (by simp) fun k2 n2 m2=>?_)
  replace m2:Heap.SameBut e k1 k2:=m2
  replace n2:jR k2 e it ((i:Int)+1) z fb old:=n2
  show wpAny _ _ (setField (.ref e) 4 .none>>=_) _ _ ⟨k2,gg,dd,tk+1,ss⟩
  refine wpAny_bind (wpAny_setField_rec n2 (by simp) fun k3 n3 m3=>?_)
  replace m3:Heap.SameBut e k2 k3:=m3
  replace n3:jR k3 e it ((i:Int)+1) z fb old:=n3
  show wpAny _ _ (newTuple [.int i tk,x]>>=_) _ _ ⟨k3,gg,dd,tk+1,ss⟩
  refine wpAny_bind (wpAny_newTuple ?_)
  have n4:jR (k3.push {cls:= .type "tuple",data:= .seq #[.int i tk,x]}) e it ((i:Int)+1) z fb old:=Heap.get?_push_of_some _ n3
  generalize hk:k3.push {cls:= .type "tuple",data:= .seq #[.int i tk,x]}=k4 at n4
  have hsz:k3.objs.size=hp.objs.size:=by rw[m3.1,m2.1,m1.1]
  have hel:e<hp.objs.size:=Heap.lt_size he
  have t4:k4.get? hp.objs.size=some {cls:= .type "tuple",data:= .seq #[.int i tk,x]}:=by rw[<-hk,<-hsz];exact Heap.get?_push_size _ rfl
  have z4:k4.objs.size=hp.objs.size+1:=by rw[<-hk,Heap.size_push,hsz]
  have o4:∀b o,b≠e->b≠it->hp.get? b=some o->k4.get? b=some o:=fun b o c1 c2 q=>by
    rw[<-hk];exact Heap.get?_push_of_some _ (m3.extBut b o c1 (m2.extBut b o c1 (m1.extBut b o c2 q)))
  have j4:k4.IsListIter it l (i+1):=by
    rw[<-hk];obtain⟨o,ho,r⟩:=(j1.extBut m2.extBut (Ne.symm hne)).extBut m3.extBut (Ne.symm hne);exact⟨o,Heap.get?_push_of_some _ ho,r⟩
  rw[hsz]
  show wpAny _ _ (Builtin.SmallTypes.ownedTupleIsFree (.ref e)>>=_) _ _ ⟨k4,gg,dd,tk+1,ss⟩
  clear hk n3 m3 n2 m2 n1 m1 j1 hsz k3 k2 k1
  have fin:∀k5,mz k5 e it ((i:Int)+1)->Heap.SameBut e k4 k5->Q (some (.ref hp.objs.size)) ⟨k5,gg,dd,tk+1,ss⟩:=fun k5 r m=>by
    refine hQ k5 r (j4.extBut m.extBut (Ne.symm hne)) (m.extBut _ _ (Nat.ne_of_gt hel) t4) (by rw[m.1];exact z4) fun b o c1 c2 q=>m.extBut b o c1 (o4 b o c1 c2 q)
  have free:∀(QQ:Fin->Shared->Prop) (EE:Value->Shared->Prop),(∀k5,mz k5 e it ((i:Int)+1)->Heap.SameBut e k4 k5->QQ (.done (.ret (.ref hp.objs.size))) ⟨k5,gg,dd,tk+1,ss⟩)->wpAny (model prog w) A.in1 (do
      rule "enumerate.__next__.owned-tuple-again"
      let old<-field (.ref e) 5
      setField (.ref e) 5 x
      Builtin.SmallTypes.ownedTupleHandOut (.ref e) (.ref hp.objs.size)
      letGo [old] [.ref hp.objs.size]
      ret (.ref hp.objs.size)) QQ EE ⟨k4,gg,dd,tk+1,ss⟩:=by
    intro QQ EE hF
    refine wpAny_bind (wpAny_rule ?_)
    refine wpAny_bind (wpAny_field n4 rfl (x:=old) rfl ?_)
    refine wpAny_bind (wpAny_setField_rec n4 (by simp) fun k5 n5 m5=>?_)
    replace m5:Heap.SameBut e k4 k5:=m5
    replace n5:jR k5 e it ((i:Int)+1) z fb x:=n5
    refine wpAny_bind ?_
    unfold Builtin.SmallTypes.ownedTupleHandOut
    refine wpAny_bind (wpAny_setField_rec n5 (by simp) fun k6 n6 m6=>?_)
    replace m6:Heap.SameBut e k5 k6:=m6
    replace n6:jR k6 e it ((i:Int)+1) (rawInt hp.objs.size) fb x:=n6
    refine wpAny_setField_rec n6 (by simp) fun k7 n7 m7=>?_
    replace m7:Heap.SameBut e k6 k7:=m7
    replace n7:jR k7 e it ((i:Int)+1) (rawInt hp.objs.size) false x:=n7
    refine wpAny_bind (wpAny_letGo (wpAny_pure (hF k7 ⟨_,_,_, .inr ⟨_,rfl⟩,n7⟩ ?_)))
    exact⟨by rw[m7.1,m6.1,m5.1],fun b hb=>((m7.2 b hb).trans (m6.2 b hb)).trans (m5.2 b hb)⟩
  refine wpAny_bind ?_
  unfold Builtin.SmallTypes.ownedTupleIsFree
  rcases hz with rfl|⟨a,rfl⟩
  · refine wpAny_bind (wpAny_field n4 rfl (x:= .none) rfl (wpAny_pure ?_))
    exact free _ _ fun k5 r m=>⟨_,rfl,wpAny_pure (fin k5 r m)⟩
  · refine wpAny_bind (wpAny_field n4 rfl (x:=rawInt a) rfl ?_)
    refine wpAny_bind (K9 ?_)
    cases hal:k4.get? a.toNat with
    | none =>
      refine wpAny_pure ?_
      exact free _ _ fun k5 r m=>⟨_,rfl,wpAny_pure (fin k5 r m)⟩
    | some ob =>
      refine wpAny_bind (wpAny_field n4 rfl (x:= .bool fb) rfl ?_)
      cases fb with
      |true=>exact wpAny_pure (wpAny_pure ⟨_,rfl,wpAny_pure (fin k4 ⟨_,_,_, .inr ⟨a,rfl⟩,n4⟩ ⟨rfl,fun _ _=>rfl⟩)⟩)
      | false =>
        refine wpAny_bind (wpAny_setField_rec n4 (by simp) fun k5 n5 m5=>?_)
        exact wpAny_pure (wpAny_pure ⟨_,rfl,wpAny_pure (fin k5 ⟨_,_,_, .inr ⟨a,rfl⟩,n5⟩ m5)⟩)
theorem OL{e it l:Addr}{i:Nat}{items:Array Value}{Q:Option Value->Shared->Prop}(hh:A.handled=none)(he:mz s.heap e it i)(hit:s.heap.IsListIter it l i)(hl:s.heap.IsList l items)(hx:items[i]?=none)
  (hQ:∀h',Heap.ExtBut it s.heap h'->Q none {s with heap:=h'}):wpAny (model prog w) A (pyNext (.ref e)) Q E s:=by
 obtain⟨z,fb,old,hz,he⟩:=he
 have hT:s.TypeIs (.ref e) "enumerate":=⟨_,he,rfl⟩
 unfold pyNext
 refine wpAny_bind (wpAny_attempt (wpAny_callSpecial?_slot (name:=Str.ofString "__next__") hT F.slot_enumerate_next (wpAny_call_entry F.slot_enumerate_next hT F.entry_enumerate_next ?_ (F.args_enumerate_next_1 _))))
 show wpAny _ _ (field (.ref e) 2>>=_) _ _ _
 refine wpAny_bind (wpAny_field he rfl (x:= .ref it) rfl ?_)
 refine wpAny_bind (wpAny_nextOf_list_end hh hit hl hx fun k1 y q1 q2=>?_)
 obtain⟨o,ho,hc⟩:=q2
 refine wpAny_bind (wpAny_isInstance (T:="StopIteration") (b:=true) ⟨o,ho,hc⟩ isSubtype_stop ?_)
 exact wpAny_pure (hQ _ q1)
def sZ(h:Heap)(n0:Nat)(items:Array Value)(acc:Array Value)(i:Nat):Prop:=acc.size=i/\∀(j:Nat) v,acc[j]?=some v->∃(T:Addr) (t:Nat) (x:Value),v= .ref T/\items[j]?=some x/\n0<=T/\h.get? T=some {cls:= .type "tuple",data:= .seq #[.int j t,x]}
theorem P8{R:Result->Shared->Prop}(hh:A.handled=none){e it l S:Addr}{items:Array Value}{n0:Nat}(hei:e≠it)(hle:l≠e)(hli:l≠it)(AM:S≠e)(uE:S≠it)(SI:l≠S)(KZ:e<n0)(hi0:it<n0)(qV:S<n0)(hn:items.size<=sizeLine)(res:Value):
    ∀(k i:Nat) (s:Shared) (acc:Array Value) (c:Nat),items.size-i=k->i<=items.size->n0<=s.heap.objs.size->mz s.heap e it i->s.heap.IsListIter it l i->s.heap.IsList l items->s.heap.get? S=some {cls:= .type "list",dict:=none,data:= .seq acc c,slots:= #[]}->sZ s.heap n0 items acc i->
    (∀h' tk acc' c',(∀b o,b≠S->b≠e->b≠it->s.heap.get? b=some o->h'.get? b=some o)->h'.get? S=some {cls:= .type "list",dict:=none,data:= .seq acc' c',slots:= #[]}->sZ h' n0 items acc' items.size->R (.ok (.ret res)) {s with heap:=h',toks:=tk})->
    codeAny (model prog w) A (.builtin "list.extend.loop" ⟨[.ref S, .ref e,res],[]⟩) R s:=by
  intro k
  induction k with
  | zero =>
    intro i s acc c hk hi hsz he hit hl hS hacc hR
    have hin:i=items.size:=by omega
    subst hin
    refine codeAny_builtin F.entry_extend_loop ?_
    rw[Around.under_plainId F.plain_extend_loop _]
    show wpAny _ A.in1 (pyNext (.ref e)>>=_) _ _ s
    refine wpAny_bind (OL hh he hit hl (by simp) fun k1 q1=>?_)
    refine wpAny_pure (hR k1 _ acc c (fun b o _ _ c3 q=>q1 b o c3 q) (q1 _ _ uE hS) ⟨hacc.1,fun j v q=>?_⟩)
    obtain⟨T,t,x,h1,h2,h3,h4⟩:=hacc.2 j v q
    exact⟨T,t,x,h1,h2,h3,q1 _ _ (Nat.ne_of_gt (Nat.lt_of_lt_of_le hi0 h3)) h4⟩
  | succ k ih =>
    intro i s acc c hk hi hsz he hit hl hS hacc hR
    have hlt:i<items.size:=by omega
    refine codeAny_builtin F.entry_extend_loop ?_
    rw[Around.under_plainId F.plain_extend_loop _]
    show wpAny _ A.in1 (pyNext (.ref e)>>=_) _ _ s
    refine wpAny_bind (MC he hit hl (Array.getElem?_eq_getElem hlt) hei fun k1 r1 j1 t1 z1 o1=>?_)
    have zW:=o1 S _ AM uE hS
    show wpAny _ A.in1 (updateSeq S (·.push (.ref s.heap.objs.size))>>=_) _ _ _
    refine wpAny_bind ?_
    have iy:∀b o,b≠S->k1.get? b=some o->(k1.update S (Obj.mapSeq (·.push (.ref s.heap.objs.size)))).get? b=some o:=fun b o hb q=>(Heap.get?_update_other _ _ (Ne.symm hb)).trans q
    obtain⟨zz,fb,old,hz,r1⟩:=r1
    refine wpAny_updateSeq zW rfl (wpAny_pure ⟨plainId_quiet F.plain_extend_loop _,ih (i+1) _ (acc.push (.ref s.heap.objs.size)) _ (by omega) hlt ?_ ⟨zz,fb,old,hz,iy e _ (Ne.symm AM) r1⟩ ?_ ?_ (Heap.get?_update_self _ zW rfl) ⟨by rw[Array.size_push,hacc.1],fun j v q=>?_⟩ fun k2 tk acc' c' o2 h2 a2=>hR k2 tk acc' c' (fun b o c1 c2 c3 q=>o2 b o c1 c2 c3 (iy b o c1 (o1 b o c2 c3 q))) h2 a2⟩) (by rw[hacc.1];omega) (by show(acc.push (Value.ref s.heap.objs.size)).size<=sizeLine+1;rw[Array.size_push,hacc.1];omega)
    · show n0<=(k1.update S (Obj.mapSeq (·.push (.ref s.heap.objs.size)))).objs.size
      rw[(Heap.SameBut.update ..).1,z1]
      omega
    · exact j1.at fun o q=>iy it o (Ne.symm uE) q
    · exact(hl.at fun o q=>o1 l o hle hli q).at fun o q=>iy l o SI q
    · rw[Array.getElem?_push] at q
      split at q
      · rename_i hj
        cases q
        have:j=i:=by rw[hj,hacc.1]
        subst this
        exact⟨_,_,_,rfl,Array.getElem?_eq_getElem hlt,hsz,iy _ _ (Nat.ne_of_gt (Nat.lt_of_lt_of_le qV hsz)) t1⟩
      · obtain⟨T,t,x,h1,h2,h3,h4⟩:=hacc.2 j v q
        exact⟨T,t,x,h1,h2,h3,iy _ _ (Nat.ne_of_gt (Nat.lt_of_lt_of_le qV h3)) (o1 _ _ (Nat.ne_of_gt (Nat.lt_of_lt_of_le KZ h3)) (Nat.ne_of_gt (Nat.lt_of_lt_of_le hi0 h3)) h4)⟩
end
section
variable{prog:Program}{w:World}{A:Around}{E:Value->Shared->Prop}{s:Shared}
theorem MT:typeLookup (.type "enumerate") "__len__"=pure none:=by rw[typeLookup_type,builtinLookup_eq_fast];kernel_rfl
theorem QH:typeLookup (.type "enumerate") "__length_hint__"=pure none:=by rw[typeLookup_type,builtinLookup_eq_fast];kernel_rfl
theorem So{r:Addr}{Q:Bool->Shared->Prop}(hT:s.TypeIs (.ref r) "enumerate")(h:Q true s):wpAny (model prog w) A (Builtin.List.listLengthHint (.ref r)) Q E s:=by
 unfold Builtin.List.listLengthHint
 refine wpAny_bind (wpAny_specialOf hT MT ?_)
 refine wpAny_ite_split (fun hab=>absurd hab (by decide)) (fun _=>?_)
 refine wpAny_ite_split (fun hab=>absurd hab (by decide)) (fun _=>?_)
 exact wpAny_bind (wpAny_specialOf hT QH (wpAny_pure h))
theorem PV{Q:Value->Shared->Prop}(hh:A.handled=none){e it l:Addr}{old:Value}{items:Array Value}(he:IsEnum s.heap e it 0 old)(hit:s.heap.IsListIter it l 0)(hl:s.heap.IsList l items)(hei:e≠it)(hle:l≠e)(hli:l≠it)(hn:items.size<=sizeLine)
  (hQ:∀h' tk acc' c',(∀b o,b≠e->b≠it->s.heap.get? b=some o->h'.get? b=some o)->h'.get? s.heap.objs.size=some {cls:= .type "list",dict:=none,data:= .seq acc' c',slots:= #[]}->sZ h' (s.heap.objs.size+1) items acc' items.size->Q (.ref s.heap.objs.size) {s with heap:=h',toks:=tk}):
  wpAny (model prog w) A (call (.type "list") [.ref e]) Q E s:=by
 have e0:e<s.heap.objs.size:=Heap.lt_size he
 have i0:it<s.heap.objs.size:=by obtain⟨_,q,_⟩:=hit;exact Heap.lt_size q
 have l0:l<s.heap.objs.size:=by obtain⟨_,q,_⟩:=hl;exact Heap.lt_size q
 refine callType_codes (Q₁:=fun obj s₁=>obj= .ref s.heap.objs.size/\s₁={s with heap:=s.heap.push {cls:= .type "list",data:= .seq #[]}}) PySem.F.called_list (PySem.F.typeCall_list_1 _) PySem.F.entry_list_init (code_list_new _ ⟨rfl,rfl⟩) fun obj s₁ h₁=>?_
 obtain⟨rfl,rfl⟩:=h₁
 have q1:(s.heap.push {cls:= .type "list",data:= .seq #[]}).get? s.heap.objs.size=some {cls:= .type "list",data:= .seq #[]}:=Heap.get?_push_size _ rfl
 refine⟨⟨_,q1,rfl⟩,PySem.F.args_list_init_2 _ _,?_⟩
 have o1:∀b o,s.heap.get? b=some o->(s.heap.push {cls:= .type "list",data:= .seq #[]}).get? b=some o:=fun b o q=>Heap.get?_push_of_some _ q
 have z1:(s.heap.push {cls:= .type "list",data:= .seq #[]}).objs.size=s.heap.objs.size+1:=Heap.size_push ..
 generalize s.heap.push {cls:= .type "list",data:= .seq #[]}=k1 at q1 o1 z1
 generalize hS:s.heap.objs.size=S at*
 show wpAny _ _ (do let old<-Builtin.List.listItems (.ref S);Builtin.List.listUpdate (.ref S) (fun _=> #[]);letGo old.toList.reverse;Builtin.List.listExtendWith (.ref S) (.ref e) .none) _ _ _
 refine wpAny_bind ?_
 unfold Builtin.List.listItems
 refine wpAny_bind (wpAny_seqItems q1 rfl (wpAny_pure ?_))
 show wpAny _ _ (updateSeq S (fun _=> #[])>>=fun _=>letGo (#[]:Array Value).toList.reverse>>=fun _=>Builtin.List.listExtendWith (.ref S) (.ref e) .none) _ _ _
 refine wpAny_bind (wpAny_updateSeq q1 rfl ?_)
 have q2:=Heap.get?_update_self (Obj.mapSeq (fun _=>(#[]:Array Value))) q1 rfl
 have o2:∀b o,b≠S->k1.get? b=some o->(k1.update S (Obj.mapSeq (fun _=>(#[]:Array Value)))).get? b=some o:=fun b o hb q=>(Heap.get?_update_other _ _ (Ne.symm hb)).trans q
 have z2:(k1.update S (Obj.mapSeq (fun _=>(#[]:Array Value)))).objs.size=S+1:=by rw[(Heap.SameBut.update ..).1,z1]
 refine wpAny_bind (wpAny_letGo ?_)
 generalize k1.update S (Obj.mapSeq (fun _=>(#[]:Array Value)))=k2 at q2 o2 z2
 have ne:e≠S:=Nat.ne_of_lt e0
 have ni:it≠S:=Nat.ne_of_lt i0
 have nl:l≠S:=Nat.ne_of_lt l0
 have r2:IsEnum k2 e it 0 old:=o2 _ _ ne (o1 _ _ he)
 have j2:k2.IsListIter it l 0:=hit.at fun o q=>o2 _ _ ni (o1 _ _ q)
 have m2:k2.IsList l items:=hl.at fun o q=>o2 _ _ nl (o1 _ _ q)
 unfold Builtin.List.listExtendWith
 refine wpAny_bind (wpAny_typeOf (T:="enumerate") ⟨_,r2,rfl⟩ ?_)
 have h1:Builtin.List.listSameRef (.ref S) (.ref e)=false:=by simp[Builtin.List.listSameRef,Ne.symm ne]
 simp only[h1,show(Value.type "enumerate"==Value.type "list")=false by decide,show(Value.type "enumerate"==Value.type "tuple")=false by decide,Bool.or_false,Bool.false_eq_true,if_false]
 refine wpAny_bind (wpAny_pyIter_enum r2 ?_)
 refine wpAny_bind (wpAny_holding (So ⟨_,r2,rfl⟩ ?_))
 refine wpAny_ite_split (fun _=>?_) (fun hab=>absurd rfl hab)
 refine wpAny_bind (wpAny_rule ?_)
 refine wpAny_bind ?_
 show wpAny _ _ (updateSeq S (·.push .none)>>=fun _=>updateSeq S (·.pop)) _ _ _
 refine wpAny_bind (wpAny_updateSeq q2 rfl ?_)
 have q3:=Heap.get?_update_self (Obj.mapSeq (·.push Value.none)) q2 rfl
 have o3:∀b o,b≠S->k2.get? b=some o->(k2.update S (Obj.mapSeq (·.push Value.none))).get? b=some o:=fun b o hb q=>(Heap.get?_update_other _ _ (Ne.symm hb)).trans q
 have z3:(k2.update S (Obj.mapSeq (·.push Value.none))).objs.size=S+1:=by rw[(Heap.SameBut.update ..).1,z2]
 generalize k2.update S (Obj.mapSeq (·.push Value.none))=k3 at q3 o3 z3
 refine wpAny_updateSeq (hz:=by seq_fits) q3 rfl ?_
 have q4:=Heap.get?_update_self (Obj.mapSeq (·.pop)) q3 rfl
 have o4:∀b o,b≠S->k3.get? b=some o->(k3.update S (Obj.mapSeq (·.pop))).get? b=some o:=fun b o hb q=>(Heap.get?_update_other _ _ (Ne.symm hb)).trans q
 have z4:(k3.update S (Obj.mapSeq (·.pop))).objs.size=S+1:=by rw[(Heap.SameBut.update ..).1,z3]
 refine wpAny_pure ⟨plainId_quiet PySem.F.plain_extend_loop _,?_⟩
 refine P8 (A:=A.in1) (n0:=S+1) (items:=items) (l:=l) (it:=it) hh hei hle hli (Ne.symm ne) (Ne.symm ni) nl (Nat.lt_succ_of_lt e0) (Nat.lt_succ_of_lt i0) (Nat.lt_succ_self _) hn .none items.size 0 {s with heap:=k3.update S (Obj.mapSeq (·.pop))} #[] _ (by omega) (Nat.zero_le _) ?_ ⟨_,_,_, .inl rfl,o4 _ _ ne (o3 _ _ ne r2)⟩ (j2.at fun o q=>o4 _ _ ni (o3 _ _ ni q)) (m2.at fun o q=>o4 _ _ nl (o3 _ _ nl q)) q4 ⟨rfl,fun j v q=>by simp at q⟩ fun h' tk acc' c' iy qS qA=>?_
 ·exact Nat.le_of_eq z4.symm
 exact⟨rfl,hQ h' tk acc' c' (fun b o c1 c2 q=>by
  have c0:b≠S:=fun z=>by subst z;exact absurd (Heap.lt_size q) (by rw[hS];exact Nat.lt_irrefl _)
  exact iy b o c0 c1 c2 (o4 _ _ c0 (o3 _ _ c0 (o2 _ _ c0 (o1 _ _ q))))) qS qA⟩
end
section
variable{X:Cx}{pins:List (Addr×Obj)}{σ:List (Option V)}{H H':Hp}{s:Shared}{h':Heap}
theorem Inv.KG{t':Nat}(I:Inv X pins σ H s)(k:∀b u,s.heap.get? b=some u->h'.get? b=some u)(sm:bf H H')(new:∀b u,H' b=some u->H b=some u\/(s.heap.objs.size<=b/\bW X.prog X.w H' h' b u)):Inv X pins σ H' {s with heap:=h',toks:=t'}:=by
  refine I.step (g':=s.gens) (d':=s.drawn) (ch:=[]) (fun b hb=>by cases hb) (fun b o _ _ _ q _=>k b o q) (fun b o _ _ _ q _=>⟨o.slots,k b o q⟩)
    (fun b o _ q n=>?_) (fun b o _ q=>⟨o,k b o q⟩) (fun b xs q=>sm b _ q) (fun b o u q=>sm b _ q) (fun b ps q=>⟨#[],by rw[sm b _ q];simp⟩) (fun m hm=>?_) (fun b u q=>?_) I.bare
  · cases e:H' b with
    |none=>rfl
    | some u =>
      rcases new b u e with z|⟨z,_⟩
      · rw[n] at z;cases z
      · exact absurd (Nat.lt_of_lt_of_le (Heap.lt_size q) z) (Nat.lt_irrefl _)
  · obtain⟨o,es,ep,ho,r⟩:=hm
    exact⟨o,es,ep,k _ o ho,r⟩
  · rcases new b u q with z|⟨_,z⟩
    · exact(I.hok b u z).stay (fun c v _ y=>k c v y) (fun c y=>sm c _ y) fun c xs y=>sm c _ y
    · exact z
end
def EJ(K:PySem.W.Frag)(tl:TE):TE:=fun σ H Q=>tl σ H fun x H1=>∃a xs,x= .ref a/\aL K H1 a xs/\∀(S:Addr) (Ts:List Addr) (H':Hp),Ts.length=xs.length->H1 S=none->bf H1 H'->H' S=some (.lst (Ts.map V.ref))->(∀(j:Nat) T x,Ts[j]?=some T->xs[j]?=some x->H1 T=none/\T≠S/\H' T=some (.tup [.int j,x]))->Q (.ref S) H'
theorem Hs{X:Cx}{K:PySem.W.Frag}{l:Expr}{tl:TE}{p1 p2 pos1 pos2:Pos}(hK:X.K=K)(hc:X.calm=true)(HY:Gl X "list")(hm1:X.mg "list"=none)(Pg:Gl X "enumerate")(hm2:X.mg "enumerate"=none)(hl:PE X l tl)(hs:starEach [l] X.env=[(false,eval l X.env)]:=by rfl)
    (hs1:starEach [.Call (.Name "enumerate" p2) [l] [] pos2] X.env=[(false,eval (.Call (.Name "enumerate" p2) [l] [] pos2) X.env)]:=by rfl):
    PE X (.Call (.Name "list" p1) [.Call (.Name "enumerate" p2) [l] [] pos2] [] pos1) (EJ K tl):=by
  subst hK
  intro pins s σ H Q I h
  have ha:PA X [l] (ck tl cT):=aa hl ak (by rw[hs];rfl)
  refine Call_ (jw I HY hm1 boot_list (PyProof.Rows.callWith_type1 ?_ hs1 rfl))
  rw[hs1]
  refine Calls.spliced_cons ?_
  refine Call_ (jw I Pg hm2 boot_enumerate (PyProof.Rows.callWith_type1 (aP (ha pos2 pins s σ H (fun vs H1=>match vs with|[x]=>∃a xs,x= .ref a/\aL X.K H1 a xs/\∀(S:Addr) (Ts:List Addr) (H':Hp),Ts.length=xs.length->H1 S=none->bf H1 H'->H' S=some (.lst (Ts.map V.ref))->(∀(j:Nat) T x,Ts[j]?=some T->xs[j]?=some x->H1 T=none/\T≠S/\H' T=some (.tup [.int j,x]))->Q (.ref S) H'|_=>False) I h) fun us s1 ⟨vs,H1,I1,r1,q1⟩=>?_) hs rfl))
  cases r1 with
  |nil=>exact q1.elim
  | cons r rr =>
    cases rr with
    |cons _ _=>exact q1.elim
    |nil=>
    obtain⟨a,xs,e2,hq,q⟩:=q1
    subst e2
    cases r
    obtain⟨its,rv,p,hz⟩:=I1.list hq
    obtain⟨m,hn,_⟩:=I1.loc
    refine enum_rows (h₀:={objs:= #[]}) (L:=X.env.locals) (m:=m) ⟨hn,fun b o z=>?_,Nat.zero_le _⟩ p.isList fun h' e1 e2 e3 e4 kp ne n1 n2 _ _=>?_
    · cases z
    refine Calls.spliced_nil ?_
    have I2:Inv X pins σ H1 {s1 with heap:=h'}:=I1.kept (t':=s1.toks) kp
    have hlt:s1.heap.objs.size+1<h'.objs.size:=Heap.lt_size e1
    have hal:a<s1.heap.objs.size:=by obtain⟨_,e,_⟩:=p.isList;exact Heap.lt_size e
    have hlen:=rv.length
    refine PV (I.ok.hd hc) e1 e2 e3 ne n1 n2 (by rw[List.size_toArray,<-hlen];exact hz) fun h2 tk acc c k2 hS hA=>?_
    have U8:∃Ts:List Addr,acc.toList=Ts.map Value.ref:=by
      have:∀L:List Value,(∀v∈L,∃T,v=Value.ref T)->∃Ts:List Addr,L=Ts.map Value.ref:=by
        intro L
        induction L with
        |nil=>exact fun _=>⟨[],rfl⟩
        | cons v L ih =>
          intro hv
          obtain⟨T,rfl⟩:=hv v (List.mem_cons_self ..)
          obtain⟨Ts,rfl⟩:=ih fun w hw=>hv w (List.mem_cons_of_mem _ hw)
          exact⟨T::Ts,rfl⟩
      refine this _ fun v hv=>?_
      obtain⟨j,hj⟩:=List.getElem?_of_mem hv
      obtain⟨T,_,_,e,_⟩:=hA.2 j v (by rw[<-Array.getElem?_toList];exact hj)
      exact⟨T,e⟩
    obtain⟨Ts,qQ⟩:=U8
    have iV:Ts.length=xs.length:=by
      have h1:=hA.1
      rw[<-Array.length_toList,qQ,List.length_map,List.size_toArray] at h1
      omega
    have at':∀(j:Nat) T x,Ts[j]?=some T->xs[j]?=some x->h'.objs.size+1<=T/\∃t u,RelV x u/\h2.get? T=some {cls:= .type "tuple",data:= .seq #[.int j t,u]}:=fun j T x hT hx=>by
      obtain⟨T',t,u,e,hu,hge,ho⟩:=hA.2 j (.ref T) (by rw[<-Array.getElem?_toList,qQ,List.getElem?_map,hT];rfl)
      cases e
      obtain⟨u',Oj,ru⟩:=rv.get hx
      have:u'=u:=by
        rw[List.getElem?_toArray] at hu
        rw[Oj] at hu
        exact Option.some.inj hu
      subst this
      exact⟨hge,t,u',ru,ho⟩
    have inj:∀(i j:Nat) T,Ts[i]?=some T->Ts[j]?=some T->i=j:=fun i j T h1 h3=>by
      have hi:=(List.getElem?_eq_some_iff.mp h1).1
      have hj:=(List.getElem?_eq_some_iff.mp h3).1
      obtain⟨_,t,u,_,g1⟩:=at' i T _ h1 (List.getElem?_eq_getElem (by omega))
      obtain⟨_,t',u',_,g2⟩:=at' j T _ h3 (List.getElem?_eq_getElem (by omega))
      rw[g1] at g2
      injection g2 with g2
      injection g2 with _ _ g2
      injection g2 with g2 _
      injection g2 with g2
      injection g2 with g2 _
      injection g2 with g2 _
      exact Int.ofNat.inj g2
    have hge:∀T∈Ts,h'.objs.size+1<=T:=fun T hT=>by
      obtain⟨j,hj⟩:=List.getElem?_of_mem hT
      have hj':=(List.getElem?_eq_some_iff.mp hj).1
      exact(at' j T _ hj (List.getElem?_eq_getElem (by omega))).1
    have hsz:s1.heap.objs.size<=h'.objs.size:=by omega
    have fS:H1 h'.objs.size=none:=I1.hok.fresh hsz
    have fT:∀T∈Ts,H1 T=none:=fun T hT=>I1.hok.fresh (Nat.le_trans hsz (Nat.le_of_succ_le (hge T hT)))
    have xE:∀T∈Ts,T≠h'.objs.size:=fun T hT z=>absurd (hge T hT) (by rw[z];exact Nat.not_succ_le_self _)
    obtain⟨H',eS,eT,eO⟩:∃H':Hp,H' h'.objs.size=some (.lst (Ts.map V.ref))/\(∀(j:Nat) T x,Ts[j]?=some T->xs[j]?=some x->H' T=some (.tup [.int j,x]))/\∀b,b≠h'.objs.size->b∉Ts->H' b=H1 b:=by
      refine⟨fun b=>if b=h'.objs.size then some (.lst (Ts.map V.ref)) else match Ts.findIdx? (fun T=>T==b) with|some j=>(xs[j]?).map fun x=>HO.tup [.int j,x]|none=>H1 b,if_pos rfl,fun j T x hT hx=>?_,fun b h1 h3=>?_⟩
      · have hTm:=List.mem_of_getElem? hT
        show(if _ then _ else _)=_
        rw[if_neg (xE T hTm)]
        have:Ts.findIdx? (fun T'=>T'==T)=some j:=by
          cases e:Ts.findIdx? (fun T'=>T'==T) with
          | none =>
            rw[List.findIdx?_eq_none_iff] at e
            have:=e T hTm
            simp at this
          | some i =>
            rw[List.findIdx?_eq_some_iff_getElem] at e
            obtain⟨hi,h4,_⟩:=e
            have:Ts[i]=T:=by simpa using h4
            rw[inj i j T (by rw[List.getElem?_eq_getElem hi,this]) hT]
        rw[this]
        show(xs[j]?).map _=_
        rw[hx]
        rfl
      · show(if _ then _ else _)=_
        rw[if_neg h1]
        have:Ts.findIdx? (fun T'=>T'==b)=none:=by
          rw[List.findIdx?_eq_none_iff]
          intro T hT
          have:T≠b:=fun z=>h3 (z▸hT)
          simpa using this
        rw[this]
    have sm:bf H1 H':=fun b u hb=>by
      rw[eO b (fun z=>by rw[z,fS] at hb;cases hb) (fun z=>by rw[fT b z] at hb;cases hb)]
      exact hb
    refine⟨.ref h'.objs.size,H',?_,rfl,q _ Ts H' iV fS sm eS fun j T x h1 h3=>⟨fT T (List.mem_of_getElem? h1),xE T (List.mem_of_getElem? h1),eT j T x h1 h3⟩⟩
    have kk:∀b u,s1.heap.get? b=some u->h2.get? b=some u:=fun b u hb=>k2 b u (Nat.ne_of_lt (Nat.lt_succ_of_lt (Heap.lt_size hb))) (Nat.ne_of_lt (Heap.lt_size hb)) (kp b u hb)
    refine I1.KG (t':=tk) kk sm fun b u hb=>?_
    by_cases c1:b=h'.objs.size
    · subst c1
      rw[eS] at hb;cases hb
      refine .inr ⟨hsz,by rw[List.length_map,iV];exact hz,Ts.map Value.ref,c,?_,?_⟩
      · clear eS eT eO sm q hA hS qQ at' inj hge fT xE iV
        induction Ts with
        |nil=>exact .nil
        |cons T Ts ih=>exact .cons rfl ih
      · rw[<-qQ,Array.toArray_toList];exact hS
    · by_cases c2:b∈Ts
      · obtain⟨j,hj⟩:=List.getElem?_of_mem c2
        have hj':=(List.getElem?_eq_some_iff.mp hj).1
        have hx:xs[j]?=some (xs[j]'(by omega)):=List.getElem?_eq_getElem (by omega)
        rw[eT j b _ hj hx] at hb;cases hb
        obtain⟨g1,t,w,ru,ho⟩:=at' j b _ hj hx
        exact .inr ⟨Nat.le_trans hsz (Nat.le_of_succ_le g1),by show 2<=sizeLine;decide,[.int j t,w], .cons ⟨t,rfl⟩ (.cons ru .nil),_,ho,rfl,_,rfl⟩
      · rw[eO b c1 c2] at hb
        exact .inl hb
section
variable{G:Gx}{ρ:Rh}{te:TE}{K:PySem.W.Frag}{Θ:Bool->List PyData->Prop}
theorem aC.SN(h:Ev G ρ te fun _ x=>∃ds,x= .list ds/\cN ds=true/\Θ true (ds.zipIdx.map fun q=> .tuple [.int q.2,q.1])):aC G ρ (EJ K te) Θ:=fun nb σ H Q W z=>
 h nb σ H _ W fun f v H1 x ⟨ds,ex,hsc,q⟩ s1 hv=>by
  subst ex
  obtain⟨a,xs,rfl,n,hx,hd⟩:=hv.cO
  have hl:=hd.length
  refine⟨a,xs,rfl, .of hx,fun S Ts H' iV hS sm eS eT=>?_⟩
  have st:Step G.B H H':=s1.trans (.same s1.2 sm)
  have qV:H S=none:=by
   cases e:H S with
   |none=>rfl
   |some o=>rw[s1.1 S o (NB.new s1.2 hS) e] at hS;cases hS
  refine z true S _ H' _ q st qV eS ?_
  refine ai.EB (by rw[List.length_map,List.length_map,List.length_zipIdx];omega) fun j d w hj hw=>?_
  rw[List.getElem?_map,List.getElem?_zipIdx] at hj
  rw[List.getElem?_map] at hw
  obtain⟨T,hT,rfl⟩:=Option.map_eq_some_iff.mp hw
  have hjl:j<ds.length:=by have:=(List.getElem?_eq_some_iff.mp hT).1;omega
  rw[List.getElem?_eq_getElem hjl] at hj
  have ed:d= .tuple [.int j,ds[j]]:=by simpa using hj.symm
  subst ed
  obtain⟨x,VD,dx⟩:=hd.get (List.getElem?_eq_getElem hjl)
  obtain⟨g1,g2,g3⟩:=eT j T x hT VD
  have sx:=List.all_eq_true.mp hsc _ (List.getElem_mem hjl)
  have lT:H T=none:=by
   cases e:H T with
   |none=>rfl
   |some o=>rw[s1.1 T o (NB.new s1.2 g1) e] at g1;cases g1
  refine .tup (fun y=>?_) g3 (.cons (.int _) (.cons (dx.gu sx) .nil))
  rcases y with y|y
  ·exact W.fresh lT y
  ·exact g2 y
end
end L2
set_option maxRecDepth 100000
set_option maxHeartbeats 4000000
namespace L2
open PySem PySem.Spec PyProof.Rows
def ao:(Nat->Int)->List Int->Int
 |_,[]=>0
 |f,x::xs=>f 0*x+ao (fun i=>f (i+1)) xs
def mulR(p c:Int)(r:List Int):List Int:=r.map fun x=>c*x%p
def dQ(p c:Int)(r o:List Int):List Int:=List.zipWith (fun x y=>(x-c*y)%p) r o
def gI(r:List Int)(i:Nat):Int:=r.getD i 0
structure bB(p:Int)(w:Nat)(r:List Int):Prop where
 len:r.length=w
 rg:∀x∈r,0<=x/\x<p
theorem bB.g{p:Int}{w i:Nat}{r:List Int}(h:bB p w r)(hp:0<p):0<=gI r i/\gI r i<p:=by
 unfold gI
 rw[List.getD_eq_getElem?_getD]
 cases e:r[i]? with
 |none=>exact⟨Int.le_refl 0,hp⟩
 |some x=>exact h.rg x (List.mem_of_getElem? e)
theorem bB.at{p:Int}{w i:Nat}{r:List Int}(h:bB p w r)(hi:i<w):r[i]?=some (gI r i):=by
 unfold gI
 rw[List.getD_eq_getElem?_getD,List.getElem?_eq_getElem (by rw[h.len];exact hi)]
 rfl
theorem wO(p c:Int):∀(f:Nat->Int) (r:List Int),∃k,ao f (mulR p c r)=c*ao f r+p*k
  |_,[]=>⟨0,by simp[ao,mulR]⟩
  | f, x :: xs => by
    obtain⟨k,hk⟩:=wO p c (fun i=>f (i+1)) xs
    refine⟨k-f 0*(c*x/p),?_⟩
    show f 0*(c*x%p)+ao _ (mulR p c xs)=c*(f 0*x+ao _ xs)+_
    rw[hk,Int.emod_def]
    grind
theorem wG(p c:Int):∀(f:Nat->Int) (r o:List Int),r.length=o.length->∃k,ao f (dQ p c r o)=ao f r-c*ao f o+p*k
  |_,[],[],_=>⟨0,by simp[ao,dQ]⟩
  |_,[],_::_,h=>by simp at h
  |_,_::_,[],h=>by simp at h
  | f, x :: xs, y :: ys, h => by
    obtain⟨k,hk⟩:=wG p c (fun i=>f (i+1)) xs ys (by simpa using h)
    refine⟨k-f 0*((x-c*y)/p),?_⟩
    show f 0*((x-c*y)%p)+ao _ (dQ p c xs ys)=(f 0*x+ao _ xs)-c*(f 0*y+ao _ ys)+_
    rw[hk,Int.emod_def]
    grind
theorem FN{p c:Int}{r:List Int}{i:Nat}(hi:i<r.length):gI (mulR p c r) i=c*gI r i%p:=by
 unfold gI mulR
 rw[List.getD_eq_getElem?_getD,List.getElem?_map,List.getD_eq_getElem?_getD,List.getElem?_eq_getElem hi]
 rfl
theorem Pa{p c:Int}{r o:List Int}{i:Nat}(hi:i<r.length)(ho:i<o.length):gI (dQ p c r o) i=(gI r i-c*gI o i)%p:=by
 unfold gI dQ
 rw[List.getD_eq_getElem?_getD,List.getElem?_zipWith,List.getD_eq_getElem?_getD,List.getD_eq_getElem?_getD,List.getElem?_eq_getElem hi,List.getElem?_eq_getElem ho]
 rfl
theorem bB.mul{p c:Int}{w:Nat}{r:List Int}(h:bB p w r)(hp:0<p):bB p w (mulR p c r):=by
 refine⟨by unfold mulR;rw[List.length_map,h.len],fun x hx=>?_⟩
 obtain⟨y,_,rfl⟩:=List.mem_map.mp hx
 exact⟨Int.emod_nonneg _ (by omega),Int.emod_lt_of_pos _ hp⟩
theorem bB.less{p c:Int}{w:Nat}{r o:List Int}(h:bB p w r)(h2:bB p w o)(hp:0<p):bB p w (dQ p c r o):=by
 refine⟨by unfold dQ;rw[List.length_zipWith,h.len,h2.len];omega,fun x hx=>?_⟩
 obtain⟨i,hi⟩:=List.getElem?_of_mem hx
 unfold dQ at hi
 rw[List.getElem?_zipWith] at hi
 cases e1:r[i]?<;>cases e2:o[i]?<;>rw[e1,e2] at hi<;>simp at hi
 subst hi
 exact⟨Int.emod_nonneg _ (by omega),Int.emod_lt_of_pos _ hp⟩
theorem Ry{p:Int}{w:Nat}{r o:List Int}(h:bB p w r)(h2:bB p w o):dQ p 0 r o=r:=by
 apply List.ext_getElem
 ·unfold dQ;rw[List.length_zipWith,h.len,h2.len];omega
 ·intro i h3 h4
  have e:(dQ p 0 r o)[i]'h3=(r[i]-0*o[i]'(by rw[h2.len,<-h.len];exact h4))%p:=List.getElem_zipWith ..
  rw[e]
  obtain⟨a,b⟩:=h.rg _ (List.getElem_mem h4)
  rw[Int.zero_mul,Int.sub_zero,Int.emod_eq_of_lt a b]
def ff(p inv:Int)(R:List (List Int))(k pl:Nat):List (List Int):=
 (R.map fun r=>dQ p (gI r pl) r (mulR p inv (R.getD k []))).set k (mulR p inv (R.getD k []))
def iK(p:Int)(w:Nat)(R:List (List Int)):Prop:=∀r∈R,bB p w r
def jS(p:Int)(R R':List (List Int)):Prop:=∀f:Nat->Int,(∀r∈R,p∣ao f r)↔∀r∈R',p∣ao f r
theorem jS.refl(p:Int)(R:List (List Int)):jS p R R:=fun _=>Iff.rfl
theorem jS.trans{p:Int}{R R' Dm:List (List Int)}(a:jS p R R')(b:jS p R' Dm):jS p R Dm:=fun f=>(a f).trans (b f)
section
variable{p inv:Int}{w k pl:Nat}{R:List (List Int)}
theorem sM:(ff p inv R k pl).length=R.length:=by unfold ff;rw[List.length_set,List.length_map]
theorem DQ{i:Nat}{r:List Int}(h:(ff p inv R k pl)[i]?=some r)(hk:k<R.length):∃r0,R[i]?=some r0/\((i=k/\r=mulR p inv r0)\/(i≠k/\r=dQ p (gI r0 pl) r0 (mulR p inv (R.getD k [])))):=by
 unfold ff at h
 by_cases c:k=i
 ·subst c
  rw[List.getElem?_set_self (by rw[List.length_map];exact hk)] at h
  refine⟨R[k],List.getElem?_eq_getElem hk, .inl ⟨rfl,?_⟩⟩
  rw[List.getD_eq_getElem?_getD,List.getElem?_eq_getElem hk] at h
  exact(Option.some.inj h).symm
 ·rw[List.getElem?_set_ne c,List.getElem?_map] at h
  obtain⟨r0,e,h⟩:=Option.map_eq_some_iff.mp h
  exact⟨r0,e, .inr ⟨fun z=>c z.symm,h.symm⟩⟩
theorem OQ(hR:iK p w R)(hp:0<p)(hk:k<R.length):iK p w (ff p inv R k pl):=fun r hr=>by
 obtain⟨i,hi⟩:=List.getElem?_of_mem hr
 obtain⟨r0,e,⟨_,rfl⟩|⟨_,rfl⟩⟩:=DQ hi hk
 ·exact(hR r0 (List.mem_of_getElem? e)).mul hp
 ·have:bB p w (R.getD k []):=by rw[List.getD_eq_getElem?_getD,List.getElem?_eq_getElem hk];exact hR _ (List.getElem_mem hk)
  exact(hR r0 (List.mem_of_getElem? e)).less (this.mul hp) hp
theorem Hx(hR:iK p w R)(hp:0<p)(hk:k<R.length)(hinv:∃j,inv*gI (R.getD k []) pl=1+p*j):jS p R (ff p inv R k pl):=by
 have hkk:R.getD k []=R[k]:=by rw[List.getD_eq_getElem?_getD,List.getElem?_eq_getElem hk];rfl
 have iR:bB p w R[k]:=hR _ (List.getElem_mem hk)
 obtain⟨j,hj⟩:=hinv
 rw[hkk] at hj
 intro f
 obtain⟨k1,e1⟩:=wO p inv f R[k]
 constructor
 ·intro h r hr
  obtain⟨i,hi⟩:=List.getElem?_of_mem hr
  obtain⟨r0,e,⟨_,rfl⟩|⟨_,rfl⟩⟩:=DQ hi hk
  ·obtain⟨k2,e2⟩:=wO p inv f r0
   rw[e2]
   exact Int.dvd_add (Int.dvd_mul_of_dvd_right (h r0 (List.mem_of_getElem? e))) (Int.dvd_mul_right ..)
  ·rw[hkk]
   obtain⟨k2,e2⟩:=wG p (gI r0 pl) f r0 (mulR p inv R[k]) (by rw[(hR r0 (List.mem_of_getElem? e)).len,(iR.mul hp).len])
   rw[e2,e1]
   refine Int.dvd_add (Int.dvd_sub (h r0 (List.mem_of_getElem? e)) (Int.dvd_mul_of_dvd_right ?_)) (Int.dvd_mul_right ..)
   exact Int.dvd_add (Int.dvd_mul_of_dvd_right (h _ (List.getElem_mem hk))) (Int.dvd_mul_right ..)
 ·intro h
  have hown:p∣ao f (mulR p inv R[k]):=by
   refine h _ ?_
   have:(ff p inv R k pl)[k]?=some (mulR p inv R[k]):=by
    unfold ff
    rw[List.getElem?_set_self (by rw[List.length_map];exact hk),hkk]
   exact List.mem_of_getElem? this
  intro r hr
  obtain⟨i,hi⟩:=List.getElem?_of_mem hr
  by_cases c:i=k
  ·subst c
   rw[List.getElem?_eq_getElem hk] at hi
   cases hi
   rw[e1] at hown
   obtain⟨q,hq⟩:=hown
   refine⟨gI R[i] pl*(q-k1)-ao f R[i]*j,?_⟩
   have:ao f R[i]=(inv*gI R[i] pl-p*j)*ao f R[i]:=by rw[hj];grind
   rw[this]
   grind
  ·have hm:dQ p (gI r pl) r (mulR p inv R[k])∈ff p inv R k pl:=by
    have:(ff p inv R k pl)[i]?=some (dQ p (gI r pl) r (mulR p inv R[k])):=by
     unfold ff
     rw[List.getElem?_set_ne (fun z=>c z.symm),List.getElem?_map,hi,hkk]
     rfl
    exact List.mem_of_getElem? this
   obtain⟨k2,e2⟩:=wG p (gI r pl) f r (mulR p inv R[k]) (by rw[(hR r hr).len,(iR.mul hp).len])
   have h3:=h _ hm
   rw[e2] at h3
   have:ao f r=(ao f r-gI r pl*ao f (mulR p inv R[k])+p*k2)+gI r pl*ao f (mulR p inv R[k])-p*k2:=by omega
   rw[this]
   exact Int.dvd_sub (Int.dvd_add h3 (Int.dvd_mul_of_dvd_right hown)) (Int.dvd_mul_right ..)
theorem ic{R:List (List Int)}{i:Nat}(hi:i<R.length):R.getD i []=R[i]:=by rw[List.getD_eq_getElem?_getD,List.getElem?_eq_getElem hi];rfl
theorem D6{i d:Nat}(hR:iK p w R)(hp:0<p)(hk:k<R.length)(hi:i<R.length)(hd:d<w):
  gI ((ff p inv R k pl).getD i []) d=if i=k then inv*gI (R.getD k []) d%p else(gI (R.getD i []) d-gI (R.getD i []) pl*(inv*gI (R.getD k []) d%p))%p:=by
 have iR:bB p w R[k]:=hR _ (List.getElem_mem hk)
 have DX:bB p w R[i]:=hR _ (List.getElem_mem hi)
 unfold ff
 rw[List.getD_eq_getElem?_getD]
 by_cases c:i=k
 ·subst c
  rw[if_pos rfl,List.getElem?_set_self (by rw[List.length_map];exact hi),ic hi]
  exact FN (by rw[DX.len];exact hd)
 ·rw[if_neg c,List.getElem?_set_ne (fun z=>c z.symm),List.getElem?_map,List.getElem?_eq_getElem hi,ic hk,ic hi]
  show gI (dQ p (gI R[i] pl) R[i] (mulR p inv R[k])) d=_
  rw[Pa (by rw[DX.len];exact hd) (by rw[(iR.mul hp).len];exact hd),FN (by rw[iR.len];exact hd)]
end
theorem pre_of{D D1 D2:List Nat}{x d:Nat}(e:D++[d]=D1++x::D2)(hx:x∈D)(hn:x∉D1):∃D3,D=D1++x::D3:=by
 rcases List.eq_nil_or_concat D2 with rfl|⟨D3,y,rfl⟩
 ·have h:=List.append_inj' e rfl
  rw[h.1] at hx
  exact absurd hx hn
 ·have e':D++[d]=(D1++x::D3)++[y]:=by rw[e];simp
  exact⟨D3,(List.append_inj' e' rfl).1⟩
structure eg(p:Int)(w:Nat)(R0 R:List (List Int))(T:List (Nat×Nat))(D:List Nat):Prop where
 ok:iK p w R
 len:R.length=R0.length
 sp:jS p R0 R
 nd:(T.map (·.1)).Nodup
 rg:∀q∈T,q.1<R.length/\q.2∈D
 one:∀q∈T,∀i<R.length,gI (R.getD i []) q.2=if i=q.1 then 1 else 0
 zero:∀i<R.length,i∉T.map (·.1)->∀d∈D,gI (R.getD i []) d=0
 ah:∀D1 D2 q,q∈T->D=D1++q.2::D2->q.2∉D1->∀d∈D1,gI (R.getD q.1 []) d=0
section
variable{p inv:Int}{w k d:Nat}{R R0:List (List Int)}{T:List (Nat×Nat)}{D:List Nat}
theorem eg.init(h:iK p w R):eg p w R R [] []:=⟨h,rfl, .refl _ _, .nil,(fun q hq=>by cases hq),(fun q hq=>by cases hq),(fun _ _ _ d hd=>by cases hd),fun _ _ q hq=>by cases hq⟩
theorem eg.skip(h:eg p w R0 R T D)(hz:∀i<R.length,i∉T.map (·.1)->gI (R.getD i []) d=0):eg p w R0 R T (D++[d]):=
 ⟨h.ok,h.len,h.sp,h.nd,fun q hq=>⟨(h.rg q hq).1,List.mem_append_left _ (h.rg q hq).2⟩,h.one,fun i hi hn e he=>by
  rcases List.mem_append.mp he with z|z
  ·exact h.zero i hi hn e z
  ·rw[List.mem_singleton.mp z];exact hz i hi hn,fun D1 D2 q hq e hn x hx=>by
  obtain⟨D3,e3⟩:=pre_of e (h.rg q hq).2 hn
  exact h.ah D1 D3 q hq e3 hn x hx⟩
theorem eg.take(h:eg p w R0 R T D)(hp:1<p)(KA:∀e∈D,e<w)(Tq:d<w)(hk:k<R.length)(fK:k∉T.map (·.1))(hne:gI (R.getD k []) d≠0)(hinv:∃j,inv*gI (R.getD k []) d=1+p*j):eg p w R0 (ff p inv R k d) (T++[(k,d)]) (D++[d]):=by
 have hp0:0<p:=by omega
 have e1:inv*gI (R.getD k []) d%p=1:=by
  obtain⟨j,hj⟩:=hinv
  rw[hj,Int.add_mul_emod_self_left,Int.emod_eq_of_lt (by omega) hp]
 have hk0:∀e∈D,gI (R.getD k []) e=0:=fun e he=>h.zero k hk fK e he
 have sj:∀e∈D,∀i<R.length,gI ((ff p inv R k d).getD i []) e=if i=k then 0 else gI (R.getD i []) e:=fun e he i hi=>by
  rw[D6 h.ok hp0 hk hi (KA e he),hk0 e he]
  by_cases c:i=k
  ·rw[if_pos c,if_pos c,Int.mul_zero,Int.zero_emod]
  ·rw[if_neg c,if_neg c,Int.mul_zero,Int.zero_emod,Int.mul_zero,Int.sub_zero]
   have hr:bB p w (R.getD i []):=by rw[ic hi];exact h.ok _ (List.getElem_mem hi)
   obtain⟨a,b⟩:=hr.g (i:=e) hp0
   exact Int.emod_eq_of_lt a b
 have E3:∀i<R.length,gI ((ff p inv R k d).getD i []) d=if i=k then 1 else 0:=fun i hi=>by
  rw[D6 h.ok hp0 hk hi Tq,e1]
  by_cases c:i=k
  ·rw[if_pos c,if_pos c]
  ·rw[if_neg c,if_neg c,Int.mul_one,Int.sub_self,Int.zero_emod]
 refine⟨OQ h.ok hp0 hk,by rw[sM,h.len],h.sp.trans (Hx h.ok hp0 hk hinv),?_,fun q hq=>?_,fun q hq i hi=>?_,fun i hi hn e he=>?_,fun D1 D2 q hq e hn x hx=>?_⟩
 ·rw[List.map_append,List.nodup_append]
  refine⟨h.nd,by simp,fun a ha b hb=>?_⟩
  rw[List.map_singleton,List.mem_singleton] at hb
  rw[hb]
  exact fun z=>fK (by rw[show a=k from z] at ha;exact ha)
 ·rw[sM]
  rcases List.mem_append.mp hq with z|z
  ·exact⟨(h.rg q z).1,List.mem_append_left _ (h.rg q z).2⟩
  ·rw[List.mem_singleton.mp z];exact⟨hk,List.mem_append_right _ (by simp)⟩
 ·rw[sM] at hi
  rcases List.mem_append.mp hq with z|z
  ·rw[sj _ (h.rg q z).2 i hi]
   have SY:k≠q.1:=fun y=>fK (y▸List.mem_map_of_mem z)
   by_cases c:i=k
   ·rw[if_pos c,if_neg (by rw[c];exact SY)]
   ·rw[if_neg c,h.one q z i hi]
  ·rw[List.mem_singleton.mp z];exact E3 i hi
 ·rw[sM] at hi
  rw[List.map_append,List.mem_append,not_or] at hn
  have hik:i≠k:=fun y=>hn.2 (by rw[y];simp)
  rcases List.mem_append.mp he with z|z
  ·rw[sj e z i hi,if_neg hik]
   exact h.zero i hi hn.1 e z
  ·rw[List.mem_singleton.mp z,E3 i hi,if_neg hik]
 ·rcases List.mem_append.mp hq with z|z
  ·obtain⟨D3,e3⟩:=pre_of e (h.rg q z).2 hn
   have wJ:x∈D:=by rw[e3];exact List.mem_append_left _ hx
   rw[sj x wJ q.1 (h.rg q z).1,if_neg (fun y=>fK (by rw[<-y];exact List.mem_map_of_mem z))]
   exact h.ah D1 D3 q z e3 hn x hx
  ·rw[List.mem_singleton.mp z] at e hn⊢
   have wJ:x∈D:=by
    have hx':x∈D++[d]:=by rw[e];exact List.mem_append_left _ hx
    rcases List.mem_append.mp hx' with y|y
    ·exact y
    ·rw[List.mem_singleton.mp y] at hx;exact absurd hx hn
   rw[sj x wJ k hk,if_pos rfl]
end
theorem xO(f g:Nat->Int):∀r:List Int,ao (fun i=>f i+g i) r=ao f r+ao g r
  |[]=>by simp[ao]
  | x :: xs => by
    show(f 0+g 0)*x+ao _ xs=(f 0*x+ao _ xs)+(g 0*x+ao _ xs)
    rw[xO (fun i=>f (i+1)) (fun i=>g (i+1)) xs]
    grind
theorem kH:∀(f:Nat->Int) (r:List Int),(∀i<r.length,f i*gI r i=0)->ao f r=0
  |_,[],_=>rfl
  | f, x :: xs, h => by
    show f 0*x+ao _ xs=0
    rw[kH (fun i=>f (i+1)) xs fun i hi=>h (i+1) (by simpa using hi)]
    have:f 0*x=0:=h 0 (by simp)
    omega
theorem mT:∀(f:Nat->Int) (r:List Int) (pl:Nat),pl<r.length->(∀i<r.length,i≠pl->f i*gI r i=0)->ao f r=f pl*gI r pl
  |_,[],_,h,_=>by simp at h
  | f, x :: xs, 0, _, h => by
    show f 0*x+ao _ xs=f 0*x
    rw[kH (fun i=>f (i+1)) xs fun i hi=>h (i+1) (by simpa using hi) (by omega)]
    omega
  | f, x :: xs, pl + 1, hl, h => by
    show f 0*x+ao _ xs=f (pl+1)*gI xs pl
    rw[mT (fun i=>f (i+1)) xs pl (by simpa using hl) fun i hi c=>h (i+1) (by simpa using hi) (by omega)]
    have:f 0*x=0:=h 0 (by simp) (by omega)
    omega
theorem qD:∀(f:Nat->Int) (r:List Int) (i:Nat) (x:Int),i<r.length->ao f (r.set i x)=ao f r+f i*(x-gI r i)
  |_,[],_,_,h=>by simp at h
  | f, y :: ys, 0, x, _ => by
    show f 0*x+ao _ ys=f 0*y+ao _ ys+f 0*(x-y)
    grind
  | f, y :: ys, i + 1, x, h => by
    show f 0*y+ao _ (ys.set i x)=f 0*y+ao _ ys+f (i+1)*(x-gI ys i)
    rw[qD (fun i=>f (i+1)) ys i x (by simpa using h)]
    grind
theorem sH:∀(f:Nat->Int) (n:Nat),ao f (List.replicate n 0)=0
  |_,0=>rfl
  | f, n + 1 => by
    show f 0*0+ao _ (List.replicate n 0)=0
    rw[sH]
    omega
theorem Ev.inv{G:Gx}{ρ:Rh}{t:TA}{Φ:Pd}(h:Av G ρ t fun es=>∃p b:Int,es.map (·.2)=[.int p, .int b]/\eW p/\p<10^40/\b%p≠0/\∀u:Int,0<=u->u<p->(∃k,u*b=1+p*k)->Φ true (.int u)):
  Ev G ρ (fW pS [] E0 t) Φ:=fun nb σ H Q W z=>
 h nb σ H _ W fun es vs H1 ⟨p,b,e,h1,h2,h3,q⟩ s1 q1=>by
  have hd:=q1.all (f:=false) (fun z=>by cases z)
  rw[e] at hd
  unfold ai at hd
  obtain⟨x,ys,rfl,d1,hd⟩:=hd
  unfold ai at hd
  obtain⟨y,zs,rfl,d2,hd⟩:=hd
  unfold ai at hd
  subst hd
  rw[d1.bP,d2.bP]
  exact⟨p,b,rfl,h1,h2,h3,fun u u0 u1 u2=>z true _ H1 _ (q u u0 u1 u2) s1 (.int u)⟩
structure dw(p n:Int)(cs:List aH):Prop where
 hp:eW p
 cM:p<10^40
 n0:1<=n
 n1:n<=400
 cl:cs.length<=500
 ok:∀prs∈cs,(prs.map (·.1)).Nodup/\prs.length<=1000/\∀pr∈prs,0<=pr.1/\pr.1<n/\0<=pr.2/\pr.2<p
def fj(r:List Int)(prs:aH):List Int:=prs.foldl (fun r pr=>r.set pr.1.toNat pr.2) r
def jZ(n m c:Nat)(prs:aH):List Int:=(fj (List.replicate (n+m) 0) prs).set (n+c) 1
def dB(n m:Nat)(cs:List aH):List (List Int):=cs.zipIdx.map fun q=>jZ n m q.2 q.1
theorem oQ:∀(prs:aH) (r:List Int),(fj r prs).length=r.length
  |[],_=>rfl
  | pr :: prs, r => by
    show(fj (r.set pr.1.toNat pr.2) prs).length=_
    rw[oQ prs,List.length_set]
theorem CZ:∀(prs:aH) (r:List Int) (x:Int),x∈fj r prs->x∈r\/x∈prs.map (·.2)
  |[],_,x,h=> .inl h
  | pr :: prs, r, x, h => by
    rcases CZ prs (r.set pr.1.toNat pr.2) x h with z|z
    · rcases List.mem_or_eq_of_mem_set z with y|y
      · exact .inl y
      · exact .inr (by rw[y];simp)
    · exact .inr (by rw[List.map_cons];exact List.mem_cons_of_mem _ z)
theorem B3:∀(prs:aH) (r:List Int) (i:Nat),(∀pr∈prs,pr.1.toNat≠i)->gI (fj r prs) i=gI r i
  |[],_,_,_=>rfl
  | pr :: prs, r, i, h => by
    show gI (fj (r.set pr.1.toNat pr.2) prs) i=_
    rw[B3 prs _ i fun q hq=>h q (List.mem_cons_of_mem _ hq)]
    unfold gI
    rw[List.getD_eq_getElem?_getD,List.getElem?_set_ne (h pr (List.mem_cons_self ..)),List.getD_eq_getElem?_getD]
theorem DP(f:Nat->Int):∀(prs:aH) (r:List Int),(prs.map (·.1)).Nodup->(∀pr∈prs,0<=pr.1/\pr.1.toNat<r.length/\gI r pr.1.toNat=0)->ao f (fj r prs)=ao f r+(prs.map fun pr=>f pr.1.toNat*pr.2).sum
  |[],r,_,_=>by simp[fj]
  | pr :: prs, r, hn, h => by
    rw[List.map_cons,List.nodup_cons] at hn
    obtain⟨h0,h1,h2⟩:=h pr (List.mem_cons_self ..)
    show ao f (fj (r.set pr.1.toNat pr.2) prs)=_
    rw[DP f prs _ hn.2 fun q hq=>?_,qD f r _ _ h1,h2,List.map_cons,List.sum_cons]
    · grind
    · obtain⟨g0,g1,g2⟩:=h q (List.mem_cons_of_mem _ hq)
      refine⟨g0,by rw[List.length_set];exact g1,?_⟩
      have:pr.1.toNat≠q.1.toNat:=fun z=>hn.1 (by
        have e:pr.1=q.1:=by omega
        rw[e];exact List.mem_map_of_mem hq)
      unfold gI
      rw[List.getD_eq_getElem?_getD,List.getElem?_set_ne this,<-List.getD_eq_getElem?_getD]
      exact g2
theorem rO(n i:Nat):gI (List.replicate n 0) i=0:=by
 unfold gI
 rw[List.getD_eq_getElem?_getD,List.getElem?_replicate]
 split<;>rfl
section
variable{p n:Int}{cs:List aH}{prs:aH}{m c:Nat}
theorem C6(f:Nat->Int)(hn:(prs.map (·.1)).Nodup)(h:∀pr∈prs,0<=pr.1/\pr.1<n)(n0:0<=n)(hc:c<m):ao f (jZ n.toNat m c prs)=(prs.map fun pr=>f pr.1.toNat*pr.2).sum+f (n.toNat+c):=by
 unfold jZ
 have h1:gI (fj (List.replicate (n.toNat+m) 0) prs) (n.toNat+c)=0:=by
  rw[B3 _ _ _ fun pr br=>by have:=h pr br;omega,rO]
 rw[qD _ _ _ _ (by rw[oQ,List.length_replicate];omega),h1,DP f prs _ hn fun pr br=>?_,sH]
 ·omega
 ·have:=h pr br
  exact⟨this.1,by rw[List.length_replicate];omega,rO ..⟩
theorem Hw(hp:1<p)(h:∀pr∈prs,0<=pr.2/\pr.2<p):bB p (n.toNat+m) (jZ n.toNat m c prs):=by
 unfold jZ
 refine⟨by rw[List.length_set,oQ,List.length_replicate],fun x hx=>?_⟩
 rcases List.mem_or_eq_of_mem_set hx with z|z
 ·rcases CZ _ _ _ z with y|y
  ·rw[List.mem_replicate] at y;omega
  ·obtain⟨pr,br,rfl⟩:=List.mem_map.mp y
   exact h pr br
 ·omega
theorem Ca{r:List Int}(h:r∈dB n.toNat m cs):∃c prs,cs[c]?=some prs/\r=jZ n.toNat m c prs:=by
 obtain⟨q,hq,rfl⟩:=List.mem_map.mp h
 obtain⟨i,hi⟩:=List.getElem?_of_mem hq
 rw[List.getElem?_zipIdx] at hi
 obtain⟨x,e,h2⟩:=Option.map_eq_some_iff.mp hi
 subst h2
 exact⟨_,x,by simpa using e,by simp⟩
theorem nM:(dB n.toNat m cs).length=cs.length:=by unfold dB;rw[List.length_map,List.length_zipIdx]
theorem VJ{c:Nat}(h:cs[c]?=some prs):jZ n.toNat m c prs∈dB n.toNat m cs:=by
 unfold dB
 refine List.mem_map.mpr ⟨(prs,c),?_,rfl⟩
 refine List.mem_of_getElem? (i:=c) ?_
 rw[List.getElem?_zipIdx,h]
 simp
theorem dw.rows(h:dw p n cs):iK p (n.toNat+cs.length) (dB n.toNat cs.length cs):=fun r hr=>by
 obtain⟨c,prs,e,rfl⟩:=Ca hr
 exact Hw h.hp.1 fun pr br=>((h.ok prs (List.mem_of_getElem? e)).2.2 pr br).2.2
end
def aT(wd:Wo)(i:Nat):Int:=match wd[i]? with
 |some (some x)=>x
 |_=>0
theorem EK(wd:Wo):∀(xs:List Int) (k:Nat),((xs.zipIdx k).map fun q=>fP wd ((q.2:Int),q.1)).sum=ao (fun i=>aT wd (k+i)) xs
  |[],_=>rfl
  | x :: xs, k => by
    rw[List.zipIdx_cons,List.map_cons,List.sum_cons,EK wd xs (k+1)]
    show _=aT wd (k+0)*x+ao _ xs
    have e:(fun i=>aT wd (k+1+i))=fun i=>aT wd (k+(i+1)):=by funext i;rw[show k+1+i=k+(i+1) by omega]
    rw[e]
    congr 1
    unfold fP aT
    simp only[Int.toNat_natCast,Nat.add_zero]
    cases wd[k]? with
    |none=>simp
    |some o=>cases o<;>simp[Int.mul_comm]
theorem rq:∀(f:Nat->Int) (r:List Int) (n:Nat),(∀i,n<=i->f i=0)->ao f (r.take n)=ao f r
  |_,[],_,_=>by simp
  | f, x :: xs, 0, h => by
    rw[List.take_zero,kH f (x::xs) fun i _=>by rw[h i (Nat.zero_le _),Int.zero_mul]]
    rfl
  | f, x :: xs, n + 1, h => by
    show f 0*x+ao _ (xs.take n)=f 0*x+ao _ xs
    rw[rq (fun i=>f (i+1)) xs n fun i hi=>h (i+1) (by omega)]
theorem V4{wd:Wo}{r:List Int}{n:Nat}(hw:wd.length=n):aV ((r.take n).zipIdx.map fun q=>((q.2:Int),q.1)) wd=ao (aT wd) r:=by
 unfold aV
 rw[List.map_map]
 have:=EK wd (r.take n) 0
 simp only[Nat.zero_add] at this
 rw[<-rq (aT wd) r n fun i hi=>?_]
 ·exact this
 ·unfold aT
  rw[List.getElem?_eq_none (by omega)]
def dO(wd:Wo):List Nat:=(List.range wd.length).filter fun i=>wd[i]?==some none
theorem kB{wd:Wo}{i:Nat}:i∈dO wd↔wd[i]?=some none:=by
 unfold dO
 rw[List.mem_filter,List.mem_range,beq_iff_eq]
 exact⟨fun h=>h.2,fun h=>⟨(List.getElem?_eq_some_iff.mp h).1,h⟩⟩
structure FI(p n:Int)(wd:Wo)(R:List (List Int))(T:List (Nat×Nat))(i:Nat)(v:List Int):Prop where
 len:v.length=n.toNat
 rg:∀x∈v,0<=x/\x<p
 known:∀(j:Nat) x,wd[j]?=some (some x)->gI v j=x
 nq:∀q∈T,q.1<i->gI v q.2= -(ao (aT wd) (R.getD q.1 []))%p
 rest:∀j,wd[j]?=some none->(∀q∈T,q.2=j->i<=q.1)->gI v j=0
 free:∀k<i,k∉T.map (·.1)->p∣ao (aT wd) (R.getD k [])
theorem eg.inj{p:Int}{w:Nat}{R0 R:List (List Int)}{T:List (Nat×Nat)}{D:List Nat}(h:eg p w R0 R T D){a b:Nat×Nat}(ha:a∈T)(hb:b∈T)(e:a.2=b.2):a.1=b.1:=by
 have h1:=h.one a ha a.1 (h.rg a ha).1
 have h2:=h.one b hb a.1 (h.rg a ha).1
 rw[if_pos rfl] at h1
 rw[<-e,h1] at h2
 by_cases c:a.1=b.1
 ·exact c
 ·rw[if_neg c] at h2;omega
theorem kr{r:List Int}{i:Nat}{x:Int}(hi:i<r.length)(j:Nat):gI (r.set i x) j=if j=i then x else gI r j:=by
 unfold gI
 rw[List.getD_eq_getElem?_getD]
 by_cases c:j=i
 ·subst c;rw[List.getElem?_set_self hi,if_pos rfl];rfl
 ·rw[List.getElem?_set_ne (fun z=>c z.symm),if_neg c,List.getD_eq_getElem?_getD]
section
variable{p n:Int}{wd:Wo}{R R0:List (List Int)}{T:List (Nat×Nat)}{i w:Nat}{v:List Int}
theorem FI.init(hp:0<p)(hwl:wd.length=n.toNat)(cB:∀x,some x∈wd->0<=x/\x<p):FI p n wd R T 0 (wd.map fun o=>o.getD 0):=by
 refine⟨by rw[List.length_map];exact hwl,fun x hx=>?_,fun j x e=>?_,(fun q _ h=>absurd h (Nat.not_lt_zero _)),fun j e _=>?_,(fun k h=>absurd h (Nat.not_lt_zero _))⟩
 ·obtain⟨o,ho,rfl⟩:=List.mem_map.mp hx
  cases o with
  |none=>exact⟨Int.le_refl 0,hp⟩
  |some y=>exact cB y ho
 ·unfold gI;rw[List.getD_eq_getElem?_getD,List.getElem?_map,e];rfl
 ·unfold gI;rw[List.getD_eq_getElem?_getD,List.getElem?_map,e];rfl
theorem FI.take(h:FI p n wd R T i v)(hp:0<p)(hwl:wd.length=n.toNat)(hS:eg p w R0 R T (dO wd)){pl:Nat}(hq:(i,pl)∈T):FI p n wd R T (i+1) (v.set pl (-(ao (aT wd) (R.getD i []))%p)):=by
  have kC:wd[pl]?=some none:=kB.mp (hS.rg _ hq).2
  have hpl:pl<v.length:=by rw[h.len,<-hwl];exact(List.getElem?_eq_some_iff.mp kC).1
  refine⟨by rw[List.length_set];exact h.len,fun x hx=>?_,fun j x e=>?_,fun q nF hlt=>?_,fun j e hj=>?_,fun k hk fK=>?_⟩
  · rcases List.mem_or_eq_of_mem_set hx with z|z
    · exact h.rg x z
    · rw[z];exact⟨Int.emod_nonneg _ (by omega),Int.emod_lt_of_pos _ hp⟩
  · rw[kr hpl,if_neg (fun z=>by rw[z,kC] at e;cases e)]
    exact h.known j x e
  · rw[kr hpl]
    by_cases c:q.2=pl
    · have:=hS.inj nF hq c
      rw[if_pos c,this]
    · rw[if_neg c]
      refine h.nq q nF ?_
      have:q.1≠i:=fun z=>c (by
        have hk:=hS.nd
        have h1:(q.1,q.2)∈T:=nF
        rw[z] at h1
        have:∀(T:List (Nat×Nat)),(T.map (·.1)).Nodup->∀a b:Nat×Nat,a∈T->b∈T->a.1=b.1->a=b:=by
          intro T
          induction T with
          |nil=>intro _ a b ha;cases ha
          | cons t T ih =>
            intro hn a b ha hb e
            rw[List.map_cons,List.nodup_cons] at hn
            rcases List.mem_cons.mp ha with y|y<;>rcases List.mem_cons.mp hb with y2|y2
            · rw[y,y2]
            · exact absurd (List.mem_map.mpr ⟨b,y2,by rw[<-e,y]⟩) hn.1
            · exact absurd (List.mem_map.mpr ⟨a,y,by rw[e,y2]⟩) hn.1
            · exact ih hn.2 a b y y2 e
        have:=this T hk _ _ h1 hq rfl
        exact congrArg Prod.snd this)
      omega
  · rw[kr hpl]
    by_cases c:j=pl
    · have:=hj _ hq c.symm
      exact absurd this (by show¬i+1<=i;omega)
    · rw[if_neg c]
      exact h.rest j e fun q nF z=>by have:=hj q nF z;omega
  · by_cases c:k=i
    · exact absurd (c▸List.mem_map.mpr ⟨_,hq,rfl⟩) fK
    · exact h.free k (by omega) fK
theorem FI.pass(h:FI p n wd R T i v)(hi:i∉T.map (·.1))(hz:p∣ao (aT wd) (R.getD i [])):FI p n wd R T (i+1) v:=by
 refine⟨h.len,h.rg,h.known,fun q hq hlt=>?_,fun j e hj=>h.rest j e fun q hq z=>by have:=hj q hq z;omega,fun k hk fK=>?_⟩
 ·have:q.1≠i:=fun z=>hi (z▸List.mem_map_of_mem hq)
  exact h.nq q hq (by omega)
 ·by_cases c:k=i
  ·subst c;exact hz
  ·exact h.free k (by omega) fK
theorem FI.rows(h:FI p n wd R T R.length v)(hp:0<p)(hwl:wd.length=n.toNat)(hS:eg p w R0 R T (dO wd))(hw:n.toNat<=w):∀r∈R,p∣ao (gI v) r:=by
  intro r hr
  obtain⟨k,hk⟩:=List.getElem?_of_mem hr
  have kP:=(List.getElem?_eq_some_iff.mp hk).1
  have hg:R.getD k []=r:=by rw[List.getD_eq_getElem?_getD,hk];rfl
  have hrl:=(hS.ok r hr).len
  obtain⟨hf,rB⟩:∃hf:Nat->Int,∀i,hf i=if wd[i]?=some none then gI v i else 0:=⟨_,fun _=>rfl⟩
  have split:gI v=fun i=>aT wd i+hf i:=by
    funext i
    rw[rB]
    unfold aT
    cases e:wd[i]? with
    | none =>
      have:gI v i=0:=by
        unfold gI
        have:wd.length<=i:=List.getElem?_eq_none_iff.mp e
        rw[List.getD_eq_getElem?_getD,List.getElem?_eq_none (by rw[h.len];omega)]
        rfl
      rw[this];simp
    | some o =>
      cases o with
      |none=>simp
      |some x=>rw[h.known i x e];simp
  rw[split,xO]
  by_cases c:k∈T.map (·.1)
  · obtain⟨q,hq,rfl⟩:=List.mem_map.mp c
    have kC:wd[q.2]?=some none:=kB.mp (hS.rg q hq).2
    have hq2:q.2<r.length:=by
      have:=(List.getElem?_eq_some_iff.mp kC).1
      omega
    have h1:=hS.one q hq q.1 kP
    rw[if_pos rfl,hg] at h1
    rw[mT hf r q.2 hq2 fun i hi hne=>?_,h1,rB,if_pos kC,Int.mul_one,h.nq q hq kP,hg,Int.emod_def]
    · exact⟨-(-(ao (aT wd) r)/p),by grind⟩
    · rw[rB]
      by_cases cl:wd[i]?=some none
      · rw[if_pos cl]
        by_cases ct:∃q'∈T,q'.2=i
        · obtain⟨q',hq',e⟩:=ct
          have h2:=hS.one q' hq' q.1 kP
          have:q.1≠q'.1:=fun z=>hne (by
            have h3:=hS.one q' hq' q'.1 (hS.rg q' hq').1
            have h4:=hS.nd
            rw[<-e]
            have key:∀(T:List (Nat×Nat)),(T.map (·.1)).Nodup->∀a b:Nat×Nat,a∈T->b∈T->a.1=b.1->a=b:=by
              intro T
              induction T with
              |nil=>intro _ a b ha;cases ha
              | cons t T ih =>
                intro hn a b ha hb e
                rw[List.map_cons,List.nodup_cons] at hn
                rcases List.mem_cons.mp ha with y|y<;>rcases List.mem_cons.mp hb with y2|y2
                · rw[y,y2]
                · exact absurd (List.mem_map.mpr ⟨b,y2,by rw[<-e,y]⟩) hn.1
                · exact absurd (List.mem_map.mpr ⟨a,y,by rw[e,y2]⟩) hn.1
                · exact ih hn.2 a b y y2 e
            exact congrArg Prod.snd (key T h4 q' q hq' hq z.symm))
          rw[if_neg this,hg,e] at h2
          rw[h2,Int.mul_zero]
        · rw[h.rest i cl fun q' hq' e=>absurd ⟨q',hq',e⟩ ct,Int.zero_mul]
      · rw[if_neg cl,Int.zero_mul]
  · rw[kH hf r fun i hi=>?_,Int.add_zero]
    · have:=h.free k kP c
      rw[hg] at this
      exact this
    · rw[rB]
      by_cases cl:wd[i]?=some none
      · have:=hS.zero k kP c i (kB.mpr cl)
        rw[hg] at this
        rw[this,Int.mul_zero]
      · rw[if_neg cl,Int.zero_mul]
end
structure dW(p n:Int)(cs:List aH)(wd:Wo)(v:List Int):Prop where
 len:v.length=n.toNat
 rg:∀x∈v,0<=x/\x<p
 known:∀(j:Nat) x,wd[j]?=some (some x)->gI v j=x
 kJ:∀prs∈cs,p∣aV prs (v.map some)
theorem qv{v:List Int}{n:Int}(hv:v.length=n.toNat):∀(prs:aH),(∀pr∈prs,0<=pr.1/\pr.1<n)->aV prs (v.map some)=(prs.map fun pr=>gI v pr.1.toNat*pr.2).sum
  |[],_=>rfl
  | pr :: prs, h => by
    show fP _ pr+aV prs _=_
    rw[qv hv prs fun q hq=>h q (List.mem_cons_of_mem _ hq),List.map_cons,List.sum_cons]
    congr 1
    obtain⟨h0,h1⟩:=h pr (List.mem_cons_self ..)
    unfold fP gI
    rw[List.getElem?_map,List.getD_eq_getElem?_getD,List.getElem?_eq_getElem (show pr.1.toNat<v.length by omega)]
    exact Int.mul_comm ..
theorem FI.word{p n:Int}{cs:List aH}{wd:Wo}{R:List (List Int)}{T:List (Nat×Nat)}{v:List Int}(hN:dw p n cs)(h:FI p n wd R T R.length v)(hwl:wd.length=n.toNat)(hS:eg p (n.toNat+cs.length) (dB n.toNat cs.length cs) R T (dO wd)):dW p n cs wd v:=by
 have p2:=hN.hp.1
 have n0:=hN.n0
 refine⟨h.len,h.rg,h.known,fun prs bZ=>?_⟩
 have key:=(hS.sp (gI v)).mpr (h.rows (by omega) hwl hS (by omega))
 obtain⟨c,hc⟩:=List.getElem?_of_mem bZ
 have hcl:=(List.getElem?_eq_some_iff.mp hc).1
 have:=key _ (VJ (n:=n) (m:=cs.length) hc)
 obtain⟨g1,g2,g3⟩:=hN.ok prs bZ
 have br:∀pr∈prs,0<=pr.1/\pr.1<n:=fun pr br=>⟨(g3 pr br).1,(g3 pr br).2.1⟩
 rw[C6 (gI v) g1 br (by omega) hcl] at this
 have z:gI v (n.toNat+c)=0:=by
  unfold gI
  rw[List.getD_eq_getElem?_getD,List.getElem?_eq_none (by rw[h.len];omega)]
  rfl
 rw[z,Int.add_zero] at this
 rw[qv h.len prs br]
 exact this
def co(prs:aH)(j:Nat):Int:=(prs.map fun pr=>if pr.1.toNat=j then pr.2 else 0).sum
def cD:List aH->List Int->Nat->Int
 |prs::cs,x::xs,j=>co prs j*x+cD cs xs j
 |_,_,_=>0
theorem C8(p u:Int)(j:Nat):∀(cs:List aH) (xs:List Int),∃k,cD cs (mulR p u xs) j=u*cD cs xs j+p*k
  |[],_=>⟨0,by simp[cD]⟩
  |_::_,[]=>⟨0,by simp[cD,mulR]⟩
  | prs :: cs, x :: xs => by
    obtain⟨k,hk⟩:=C8 p u j cs xs
    refine⟨k-co prs j*(u*x/p),?_⟩
    show co prs j*(u*x%p)+cD cs (mulR p u xs) j=u*(co prs j*x+cD cs xs j)+_
    rw[hk,Int.emod_def]
    grind
theorem Ff:∀(n:Nat) (f:Nat->Int) (r:List Int),n<=r.length->ao f r=ao f (r.take n)+ao (fun i=>f (n+i)) (r.drop n)
  |0,f,r,_=>by simp[ao]
  |n+1,f,[],h=>by simp at h
  | n + 1, f, x :: xs, h => by
    show f 0*x+ao _ xs=(f 0*x+ao _ (xs.take n))+ao _ (xs.drop n)
    rw[Ff n (fun i=>f (i+1)) xs (by simpa using h),Int.add_assoc]
    congr 2
    congr 1
    funext i
    rw[show n+i+1=n+1+i by omega]
theorem Ck(j:Nat):∀(cs:List aH) (xs:List Int),xs.length=cs.length->ao (fun i=> -(co (cs.getD i []) j)) xs= -cD cs xs j
  |[],[],_=>rfl
  |[],_::_,h=>by simp at h
  |_::_,[],h=>by simp at h
  | prs :: cs, x :: xs, h => by
    show-(co prs j)*x+ao (fun i=> -(co (cs.getD i []) j)) xs= -(co prs j*x+cD cs xs j)
    rw[Ck j cs xs (by simpa using h)]
    grind
theorem EG{p n:Int}{cs:List aH}{R:List (List Int)}{T:List (Nat×Nat)}{D:List Nat}(hN:dw p n cs)(hS:eg p (n.toNat+cs.length) (dB n.toNat cs.length cs) R T D){r:List Int}(hr:r∈R){j:Nat}(hj:j<n.toNat):p∣gI r j-cD cs (r.drop n.toNat) j:=by
 have n0:=hN.n0
 obtain⟨f,ef⟩:∃f:Nat->Int,∀i,f i=if i=j then 1 else if n.toNat<=i then-(co (cs.getD (i-n.toNat) []) j) else 0:=⟨_,fun _=>rfl⟩
 have h0:∀r∈dB n.toNat cs.length cs,p∣ao f r:=fun r0 hr0=>by
  obtain⟨c,prs,e,rfl⟩:=Ca hr0
  obtain⟨g1,g2,g3⟩:=hN.ok prs (List.mem_of_getElem? e)
  have hcl:=(List.getElem?_eq_some_iff.mp e).1
  rw[C6 f g1 (fun pr br=>⟨(g3 pr br).1,(g3 pr br).2.1⟩) (by omega) hcl,ef (n.toNat+c),if_neg (by omega),if_pos (by omega),show n.toNat+c-n.toNat=c by omega]
  have e1:cs.getD c []=prs:=by rw[List.getD_eq_getElem?_getD,e];rfl
  have e2:(prs.map fun pr=>f pr.1.toNat*pr.2).sum=co prs j:=by
   unfold co
   congr 1
   apply List.map_congr_left
   intro pr br
   have:=g3 pr br
   rw[ef]
   by_cases c:pr.1.toNat=j
   ·rw[if_pos c,if_pos c,Int.one_mul]
   ·rw[if_neg c,if_neg c,if_neg (by omega),Int.zero_mul]
  rw[e1,e2]
  exact⟨0,by omega⟩
 have h1:=(hS.sp f).mp h0 r hr
 have hl:=(hS.ok r hr).len
 rw[Ff n.toNat f r (by omega),mT f (r.take n.toNat) j (by rw[List.length_take];omega) fun i hi hne=>?_] at h1
 ·have e3:(fun i=>f (n.toNat+i))=fun i=> -(co (cs.getD i []) j):=by
   funext i
   rw[ef,if_neg (by omega),if_pos (by omega),show n.toNat+i-n.toNat=i by omega]
  have e4:gI (r.take n.toNat) j=gI r j:=by
   unfold gI
   rw[List.getD_eq_getElem?_getD,List.getElem?_take_of_lt hj,List.getD_eq_getElem?_getD]
  rw[e3,Ck j cs (r.drop n.toNat) (by rw[List.length_drop];omega),ef,if_pos rfl,e4,Int.one_mul] at h1
  exact h1
 ·rw[List.length_take] at hi
  rw[ef,if_neg hne,if_neg (by omega),Int.zero_mul]
theorem wC{p u:Int}:∀(f:Nat->Int) (a b:List Int),a.length=b.length->(∀i<a.length,p∣gI a i-u*gI b i)->p∣ao f a-u*ao f b
  |_,[],[],_,_=>by simp[ao]
  |_,[],_::_,h,_=>by simp at h
  |_,_::_,[],h,_=>by simp at h
  | f, x :: xs, y :: ys, h, hh => by
    obtain⟨k,hk⟩:=wC (u:=u) (fun i=>f (i+1)) xs ys (by simpa using h) fun i hi=>hh (i+1) (by simpa using hi)
    obtain⟨k2,hk2⟩:=hh 0 (by simp)
    have hk2:x-u*y=p*k2:=hk2
    refine⟨f 0*k2+k,?_⟩
    show(f 0*x+ao _ xs)-u*(f 0*y+ao _ ys)=_
    have e1:x=u*y+p*k2:=by omega
    have e2:ao (fun i=>f (i+1)) xs=u*ao (fun i=>f (i+1)) ys+p*k:=by omega
    rw[e2,e1]
    grind
structure rQ(p n:Int)(cs:List aH)(wd:Wo)(aD:List Int):Prop where
 len:aD.length=cs.length
 rg:∀x∈aD,0<=x/\x<p
 oF:∀rw:List Int,rw.length=n.toNat->(∀i<n.toNat,p∣gI rw i-cD cs aD i)->(∀i,wd[i]?=some none->p∣gI rw i)/\p∣ao (aT wd) rw-1
theorem Tw{p n:Int}{cs:List aH}{wd:Wo}{R:List (List Int)}{T:List (Nat×Nat)}{k:Nat}{u:Int}(hN:dw p n cs)(hwl:wd.length=n.toNat)(hS:eg p (n.toNat+cs.length) (dB n.toNat cs.length cs) R T (dO wd))(hk:k<R.length)(fK:k∉T.map (·.1))
  (hu:∃j,u*(ao (aT wd) (R.getD k [])%p)=1+p*j):rQ p n cs wd (mulR p u ((R.getD k []).drop n.toNat)):=by
 have p2:=hN.hp.1
 rw[ic hk] at hu⊢
 have hr:=hS.ok _ (List.getElem_mem hk)
 have hl:=hr.len
 have hd:bB p cs.length (R[k].drop n.toNat):=⟨by rw[List.length_drop];omega,fun x hx=>hr.rg x (List.mem_of_mem_drop hx)⟩
 refine⟨(hd.mul (by omega)).len,(hd.mul (by omega)).rg,fun mw hrl hrw=>?_⟩
 have oU:∀i<n.toNat,p∣gI mw i-u*gI R[k] i:=fun i hi=>by
  obtain⟨a,ha⟩:=hrw i hi
  obtain⟨b,hb⟩:=C8 p u i cs (R[k].drop n.toNat)
  obtain⟨c,hc⟩:=EG hN hS (List.getElem_mem hk) hi
  refine⟨a+b-u*c,?_⟩
  have e1:gI mw i=cD cs (mulR p u (R[k].drop n.toNat)) i+p*a:=by omega
  have e2:gI R[k] i=cD cs (R[k].drop n.toNat) i+p*c:=by omega
  rw[e1,e2,hb]
  grind
 refine⟨fun i hi=>?_,?_⟩
 ·have hil:i<n.toNat:=by have:=(List.getElem?_eq_some_iff.mp hi).1;omega
  have:=oU i hil
  have z:=hS.zero k hk fK i (kB.mpr hi)
  rw[ic hk] at z
  rw[z,Int.mul_zero,Int.sub_zero] at this
  exact this
 ·have h1:=wC (p:=p) (u:=u) (aT wd) mw (R[k].take n.toNat) (by rw[List.length_take];omega) fun i hi=>by
   have e4:gI (R[k].take n.toNat) i=gI R[k] i:=by
    unfold gI
    rw[List.getD_eq_getElem?_getD,List.getElem?_take_of_lt (by omega),List.getD_eq_getElem?_getD]
   rw[e4]
   exact oU i (by omega)
  rw[rq (aT wd) R[k] n.toNat fun i hi=>by unfold aT;rw[List.getElem?_eq_none (by omega)]] at h1
  obtain⟨a,ha⟩:=h1
  obtain⟨b,hb⟩:=hu
  rw[Int.emod_def] at hb
  refine⟨a+b+u*(ao (aT wd) R[k]/p),?_⟩
  grind
def kO:Sp:=fun vs H Q _=>∃(nb:Addr->Prop) (p n:Int) (cs:List aH) (v:V),vs=[v]/\jn nb H/\af nb H (bz p n cs) v/\cs.length<=10000/\
 ∀T L xs H',bf H H'->H T=none->H L=none->H' T=some (.tup [.int p, .int n, .ref L])->H' L=some (.lst xs)->ai (fun a=>nb a\/a=L) H' (cs.map bH) xs->Q (.ref T) H'
section
variable{G:Gx}{ρ:Rh}{t:TA}{Φ:Pd}{E:DE}{K:PySem.W.Frag}{i j k:Nat}
theorem Ci{S:Addr->Prop}{H:Hp}{d:PyData}{vs:List V}(h:ai S H [d] vs):∃v,vs=[v]/\af S H d v:=by
 unfold ai at h
 obtain⟨v,r,rfl,h1,h⟩:=h
 unfold ai at h
 subst h
 exact⟨v,rfl,h1⟩
theorem Ev.xw(h:Av G ρ t fun es=>∃(p n:Int) (cs:List aH),es.map (·.2)=[bz p n cs]/\cs.length<=10000/\Φ false (bz p n cs)):Ev G ρ (fW kO [] E0 t) Φ:=fun nb σ H Q W z=>
 h nb σ H _ W fun es vs H1 ⟨p,n,cs,e,hl,q⟩ s1 q1=>by
  have hd:=q1.all (f:=false) (fun z=>by cases z)
  rw[e] at hd
  obtain⟨v,rfl,hv⟩:=Ci hd
  have W1:=W.step s1
  refine⟨G.S nb false,p,n,cs,v,rfl,W1.gC,hv,hl,fun T L xs H' sm hT hL eT eL hds=>?_⟩
  have lT:¬G.S nb false T:=fun y=>absurd hT (W1.gC T y)
  have zU:¬G.S nb false L:=fun y=>absurd hL (W1.gC L y)
  refine z false _ H' _ q (s1.trans (.same s1.2 sm)) (.tup lT eT (.cons (.int _) (.cons (.int _) (.cons (.lst zU eL (hds.av fun a y=> .inl y)) .nil))))
theorem Sv.S0(hij:i≠k/\j≠k)(h:Av G ρ t fun es=>∃(p n:Int) (cs:List aH),es.map (·.2)=[bz p n cs]/\cs.length<=10000/\∀c,E.nx (((ρ.set k (.own c false (cs.map bH))).set i (.d true (.int p))).set j (.d true (.int n)))):
  Sv G ρ (eE (fW kO [] E0 t) (oR K 3 (mG (dN i) (mG (dN j) (mG (dN k) rJ))))) E:=fun nb σ H D W KK=>
 h nb σ H _ W fun es vs H1 ⟨p,n,cs,e,hl,q⟩ s1 q1=>by
  have hd:=q1.all (f:=false) (fun z=>by cases z)
  rw[e] at hd
  obtain⟨v,rfl,hv⟩:=Ci hd
  have W1:=W.step s1
  refine⟨G.S nb false,p,n,cs,v,rfl,W1.gC,hv,hl,fun T L xs H' sm hT hL eT eL hds=>?_⟩
  have W2:=Wd.jq (i:=j) (f:=true) (d:= .int n) (v:= .int n) (Wd.jq (i:=i) (f:=true) (d:= .int p) (v:= .int p) (qt (i:=k) W1 (.same s1.2 sm) hL eL hds) (.int p)) (.int n)
  refine⟨T,_,rfl, .of eT,rfl,_,_,rfl,_,_,rfl,_,_,rfl,rfl,?_⟩
  have e1:((σ.set k (some (V.ref L))).set i (some (.int p))).set j (some (.int n))=((σ.set i (some (.int p))).set j (some (.int n))).set k (some (V.ref L)):=by
   rw[List.set_comm _ _ (Ne.symm hij.1),List.set_comm _ _ (Ne.symm hij.2)]
  have h9:=KK.nx _ _ _ _ (q L) W2
  rw[e1] at h9
  exact h9
end
theorem QJ{N:List Str}{vs:List V}{ds:List PyData}{nb:Addr->Prop}{H:Hp}{ρ:Rh}{P:St->Hp->Prop}(hl:jn nb H)(hd:ai nb H ds vs)(dz:ρ=ds.map (Sl.d false)++List.replicate (N.length-ds.length) .no)
  (h:∀bE σ H1,Wd ⟨none,H,nb,[]⟩ bE ρ σ H1->P σ H1):P (start N vs) H:=
 Sv.dY (t:=fun _ σ H1=>P σ H1) (Φ:=fun _ _=>False) (Q:=fun _ _=>True) hl hd (fun _ _ _ _ z=>z.elim) dz (fun bE σ H1 _ W _=>h bE σ H1 W)
theorem FZ(j:Nat)(prs:aH)(x:Int):∀(cs:List aH) (xs:List Int),cs.length=xs.length->cD (cs++[prs]) (xs++[x]) j=cD cs xs j+co prs j*x
  |[],[],_=>by simp[cD]
  |[],_::_,h=>by simp at h
  |_::_,[],h=>by simp at h
  | q :: cs, y :: ys, h => by
    show co q j*y+cD (cs++[prs]) (ys++[x]) j=co q j*y+cD cs ys j+_
    rw[FZ j prs x cs ys (by simpa using h)]
    omega
theorem Vz(prs:aH)(pr:Int×Int)(j:Nat):co (prs++[pr]) j=co prs j+if pr.1.toNat=j then pr.2 else 0:=by
 unfold co
 rw[List.map_append,List.sum_append]
 simp
structure fX(p n:Int)(cs:List aH)(aD:List Int)(c:Nat)(prs:aH)(x:Int)(r:List Int):Prop where
 ok:bB p n.toNat r
 sum:∀i<n.toNat,p∣gI r i-(cD (cs.take c) (aD.take c) i+co prs i*x)
theorem fX.step{p n:Int}{cs:List aH}{aD:List Int}{c:Nat}{prs:aH}{x:Int}{r:List Int}{pr:Int×Int}(h:fX p n cs aD c prs x r)(hp:0<p)(h0:0<=pr.1)(h1:pr.1<n):fX p n cs aD c (prs++[pr]) x (r.set pr.1.toNat ((gI r pr.1.toNat+pr.2*x)%p)):=by
 have hl:=h.ok.len
 refine⟨⟨by rw[List.length_set];exact hl,fun y hy=>?_⟩,fun i hi=>?_⟩
 ·rcases List.mem_or_eq_of_mem_set hy with z|z
  ·exact h.ok.rg y z
  ·rw[z];exact⟨Int.emod_nonneg _ (by omega),Int.emod_lt_of_pos _ hp⟩
 ·rw[kr (by omega),Vz]
  obtain⟨k,hk⟩:=h.sum i hi
  by_cases cc:i=pr.1.toNat
  ·subst cc
   rw[if_pos rfl,if_pos rfl,Int.emod_def]
   refine⟨k-(gI r pr.1.toNat+pr.2*x)/p,?_⟩
   have:gI r pr.1.toNat=cD (cs.take c) (aD.take c) pr.1.toNat+co prs pr.1.toNat*x+p*k:=by omega
   generalize hd:(gI r pr.1.toNat+pr.2*x)/p=dd
   rw[this]
   grind
  ·rw[if_neg cc,if_neg (fun z=>cc z.symm),Int.add_zero]
   exact⟨k,hk⟩
theorem fX.next{p n:Int}{cs:List aH}{aD:List Int}{c:Nat}{prs:aH}{x:Int}{r:List Int}(h:fX p n cs aD c prs x r)(hc:cs[c]?=some prs)(hx:aD[c]?=some x)(hl:aD.length=cs.length):fX p n cs aD (c+1) [] 0 r:=by
 refine⟨h.ok,fun i hi=>?_⟩
 have h1:=(List.getElem?_eq_some_iff.mp hc).1
 have e1:cs.take (c+1)=cs.take c++[prs]:=by rw[List.take_add_one,hc];rfl
 have e2:aD.take (c+1)=aD.take c++[x]:=by rw[List.take_add_one,hx];rfl
 rw[e1,e2,FZ i prs x _ _ (by rw[List.length_take,List.length_take];omega),Int.mul_zero,Int.add_zero]
 exact h.sum i hi
theorem fX.start{p n:Int}{cs:List aH}{aD:List Int}{c:Nat}{x y:Int}{r:List Int}(h:fX p n cs aD c [] x r):fX p n cs aD c [] y r:=by
 refine⟨h.ok,fun i hi=>?_⟩
 have:=h.sum i hi
 simp[co] at this⊢
 exact this
theorem fX.init{p n:Int}{cs:List aH}{aD:List Int}(hp:0<p):fX p n cs aD 0 [] 0 (List.replicate n.toNat 0):=by
 refine⟨⟨List.length_replicate,fun x hx=>by rw[List.mem_replicate] at hx;omega⟩,fun i hi=>?_⟩
 rw[rO]
 simp[cD,co]
def gz(p:Int)(m:Nat)(prs:aH):Prop:=(prs.map (·.1)).Nodup/\prs.length<=1000/\∀pr∈prs,0<=pr.1/\pr.1<m/\1<=pr.2/\pr.2<p
theorem bB.put{p:Int}{w i:Nat}{r:List Int}{x:Int}(h:bB p w r)(h0:0<=x)(h1:x<p):bB p w (r.set i x):=by
 refine⟨by rw[List.length_set];exact h.len,fun y hy=>?_⟩
 rcases List.mem_or_eq_of_mem_set hy with z|z
 ·exact h.rg y z
 ·rw[z];exact⟨h0,h1⟩
def ie(r:List Int)(i:Nat):aH:=((List.range i).filter fun k=>decide (gI r k≠0)).map fun(k:Nat)=>((k:Int),gI r k)
theorem Hg{p:Int}{w:Nat}{r:List Int}(h:bB p w r)(hp:0<p)(hw:w<=1000):gz p w (ie r w):=by
 refine⟨?_,?_,fun pr br=>?_⟩
 ·unfold ie
  rw[List.map_map]
  show(List.map (fun(k:Nat)=>(k:Int)) _).Nodup
  rw[List.Nodup,List.pairwise_map]
  exact(List.nodup_range.filter _).imp fun{a b} h z=>h (by omega)
 ·unfold ie
  rw[List.length_map]
  exact Nat.le_trans (List.length_filter_le ..) (by rw[List.length_range];exact hw)
 ·obtain⟨k,hk,rfl⟩:=List.mem_map.mp br
  rw[List.mem_filter,List.mem_range] at hk
  have h1:=h.g (i:=k) hp
  have h2:gI r k≠0:=by simpa using hk.2
  exact⟨by show(0:Int)<=k;omega,by show(k:Int)<w;omega,by show 1<=gI r k;omega,h1.2⟩
theorem AN(r:List Int)(i:Nat):ie r (i+1)=ie r i++if gI r i≠0 then[((i:Int),gI r i)] else[]:=by
 unfold ie
 rw[List.range_succ,List.filter_append,List.map_append]
 congr 1
 by_cases c:gI r i=0<;>simp[c]
theorem fD.U3{G:Gx}{ρ:Rh}{te:TE}{f:Bool}{Ψ:PyData->Prop}{a:Addr}{ds:List PyData}(i:Nat)(e:ρ[i]?=some (.own a f ds))(h:fD G (ρ.set i (.d f (.list ds))) te Ψ):fD G ρ te Ψ:=fun nb σ H Q W z=>h _ σ H Q (Sv.share W e) z
end L2
set_option maxRecDepth 100000
set_option maxHeartbeats 4000000
namespace L2
open PySem PySem.Spec PyProof.Rows
def kT(a:Addr)(o:Obj)(ps:List (Key×V)):It:=
 ⟨fun i H=>H a=some (.bF o (.dK ps))/\i<ps.length,fun i H x H'=>H'=H/\∃p,ps[i]?=some p/\x=kV p.1,fun i H=>H a=some (.bF o (.dK ps))/\ps.length=i⟩
theorem J0{P:Program}{w:World}{k:Key}{v:Value}(h:(fq P w).is k v=true):RelV (kV k) v:=by
 cases k with
 |inl i=>obtain⟨t,rfl⟩:=Value.isInt_shape (k:=i) (v:=v) h;exact⟨t,rfl⟩
 |inr x=>obtain⟨t,rfl⟩:=Value.isStrOf_shape (v:=v) h;exact⟨t,rfl⟩
theorem Lu{P:Program}{w:World}{K:PySem.W.Frag}{tg:Expr}(a it:Addr)(hne:a≠it){o:Obj}{ps:List (Key×V)}{vs:List (Key×Value)}{ep:Nat}(rel:KV ps vs)
  (hD:∀h:Heap,h.get? a=some o->h.DictAt (fq P w) a vs ep):Turn P w K tg (kT a o ps) [it] it (fun i h=>h.IsKeyIter it a i vs.length ep) where
 mem:=by simp
 obj:=fun i h st b hb=>by
  have e:b=it:=by simpa using hb
  subst e
  obtain⟨o,e,c,d⟩:=st
  exact⟨o,e,fun v z=>by rw[d] at z;cases z⟩
 keep:=fun i h h' st k=>st.at fun o e=>k it (by simp) o e
 item:=by
  intro X hP hw hK hc i pins s σ H E I hf st hg
  subst hP hw hK
  obtain⟨hq,hi⟩:=hg
  obtain⟨ho,_⟩:=(show bW X.prog X.w H s.heap a (.bF o (.dK ps)) from I.hok a _ hq)
  have W:=Walks.dictKeys (knd:=fq X.prog X.w) (A:=X.A) (I.ok.hd hc) it a hne vs ep
  obtain⟨f0,f1,f2,f3,f4,f5⟩:=hf it (by simp)
  refine W.item i s _ _ (by rw[<-rel.length];exact hi) ⟨st,hD _ ho⟩ fun v h' tk hv st' kp=>?_
  obtain⟨k,x,hk,hkv⟩:=hv
  have I1:Inv X pins σ H {s with heap:=h',toks:=tk}:=I.turned (t':=tk) (fun b o hb e=>kp b o (by simpa using hb) e) f0 f1 f3 f4 f5
  obtain⟨oi,e,c,d⟩:=id st'.1
  have hpk:∃p,ps[i]?=some p/\kV k=kV p.1:=by
   have h1:(ps.map (·.1))[i]?=(vs.map (·.1))[i]?:=by rw[rel.keys]
   rw[List.getElem?_map,List.getElem?_map,hk,List.getElem?_eq_getElem hi] at h1
   exact⟨_,List.getElem?_eq_getElem hi,congrArg kV (Option.some.inj h1).symm⟩
  exact⟨v,rfl,wz (s:={s with heap:=h',toks:=tk}) e c d (by decide) ⟨kV k,H,I1,J0 hkv,⟨rfl,hpk⟩,st'.1,fun b hb=>(hf b hb).1⟩⟩
 done:=by
  intro X hP hw hK hc i pins s σ H E I hf st hg
  subst hP hw hK
  obtain⟨hq,hi⟩:=hg
  obtain⟨ho,_⟩:=(show bW X.prog X.w H s.heap a (.bF o (.dK ps)) from I.hok a _ hq)
  have W:=Walks.dictKeys (knd:=fq X.prog X.w) (A:=X.A) (I.ok.hd hc) it a hne vs ep
  obtain⟨f0,f1,f2,f3,f4,f5⟩:=hf it (by simp)
  have hl:=rel.length
  refine W.done s _ _ ⟨by rw[<-hl,hi];rw[<-hl,hi] at st;exact st,hD _ ho⟩ fun h' tk kp=>⟨rfl,?_⟩
  exact I.turned (t':=tk) (fun b o hb e=>kp b o (by simpa using hb) e) f0 f1 f3 f4 f5
 self:=fun _ _ _ _ _ st h=>wpAny_pyIter_keyiter st h
def se(X:Cx)(a:Addr):Prop:=∀o u,X.H₀ a≠some (.bF o u)
section
variable{X:Cx}{pins:List (Addr×Obj)}{σ:List (Option V)}{H:Hp}{s:Shared}
theorem Inv.freeze{a:Addr}{ps:List (Key×V)}{o:Obj}(I:Inv X pins σ H s)(h:H a=some (.dK ps))(ho:s.heap.get? a=some o):Inv X pins σ (upd H a (.bF o (.dK ps))) s:=by
 have ne:∀b u,H b=some u->(∀z,u≠ .dK z)->b≠a:=fun b u q z e=>by subst e;rw[h] at q;cases q;exact z _ rfl
 have nn:∀b,H b=none->b≠a:=fun b q e=>by subst e;rw[h] at q;cases q
 refine I.step (h':=s.heap) (g':=s.gens) (d':=s.drawn) (t':=s.toks) (ch:=[]) (fun _ z=>nomatch z) (fun b o _ _ _ e _=>e) (fun b o _ _ _ e _=>⟨o.slots,e⟩) (fun b o _ e n=>by rw[aF (nn b n)];exact n) (fun b o _ e=>⟨o,e⟩)
  (fun b xs q=>by rw[aF (ne b _ q (fun z=>nofun))];exact q) (fun b o u q=>by rw[aF (ne b _ q (fun z=>nofun))];exact q) (fun b p q=>⟨#[],by rw[aF (ne b _ q (fun z=>nofun)),q];simp⟩) (fun m hm=>hm) (fun b u q=>?_) I.bare
 by_cases hb:b=a
 ·subst hb
  rw[bq] at q;cases q
  refine⟨ho,(I.hok b _ h).stay (fun c v hc z=>z) (fun c z=>?_) fun c xs z=>?_⟩
  ·rw[aF (ne c _ z (fun z=>nofun))];exact z
  ·rw[aF (ne c _ z (fun z=>nofun))];exact z
 ·rw[aF hb] at q
  refine(I.hok b u q).stay (fun c v hc z=>z) (fun c z=>?_) fun c xs z=>?_
  ·rw[aF (ne c _ z (fun z=>nofun))];exact z
  ·rw[aF (ne c _ z (fun z=>nofun))];exact z
theorem Inv.j6{a:Addr}{ps:List (Key×V)}{o:Obj}(I:Inv X pins σ H s)(h:H a=some (.bF o (.dK ps)))(nf:se X a):Inv X pins σ (upd H a (.dK ps)) s:=by
 have ne:∀b u,H b=some u->(∀z z',u≠ .bF z z')->b≠a:=fun b u q z e=>by subst e;rw[h] at q;cases q;exact z _ _ rfl
 have nn:∀b,H b=none->b≠a:=fun b q e=>by subst e;rw[h] at q;cases q
 refine⟨I.ok,I.os,I.bare,⟨I.base.keep,I.base.slot,fun b o q n hx=>?_,I.base.there,fun b xs q=>?_,fun b o u q=>?_,fun b p q=>?_⟩,I.loc,I.cell,?_,fun x c e=>?_,fun p hp=>?_,fun b u q=>?_,I.len⟩
 ·have z:=I.base.free b o q n hx
  rw[aF (nn b z)];exact z
 ·have z:=I.base.tups b xs q
  rw[aF (ne b _ z (fun _ z=>nofun))];exact z
 ·have z:=I.base.iu b o u q
  have:b≠a:=fun e=>by subst e;exact nf _ _ q
  rw[aF this];exact z
 ·obtain⟨m,z⟩:=I.base.jt b p q
  exact⟨m,by rw[aF (ne b _ z (fun _ z=>nofun))];exact z⟩
 ·rw[aF (nn _ I.free)];exact I.free
 ·rw[aF (nn _ (I.gF x c e))];exact I.gF x c e
 ·obtain⟨z1,z2,z3⟩:=I.pin p hp
  exact⟨z1,by rw[aF (nn _ z2)];exact z2,z3⟩
 ·by_cases hb:b=a
  ·subst hb
   rw[bq] at q;cases q
   have w:=(show bW X.prog X.w H s.heap b (.dK ps) from(Rd.ok (.inr ⟨o,h⟩) I.hok))
   refine w.stay (fun c v hc z=>z) (fun c z=>?_) fun c xs z=>?_
   ·rw[aF (ne c _ z (fun _ z=>nofun))];exact z
   ·rw[aF (ne c _ z (fun _ z=>nofun))];exact z
  ·rw[aF hb] at q
   refine(I.hok b u q).stay (fun c v hc z=>z) (fun c z=>?_) fun c xs z=>?_
   ·rw[aF (ne c _ z (fun _ z=>nofun))];exact z
   ·rw[aF (ne c _ z (fun _ z=>nofun))];exact z
end
def iZ(NF:Addr->Prop)(Q:Hp->Prop)(H:Hp):Prop:=Q H\/∃a o ps,H a=some (.bF o (.dK ps))/\NF a/\Q (upd H a (.dK ps))
def G9(NF:Addr->Prop)(D:Ends):Ends:={nx:=fun σ=>iZ NF (D.nx σ),rt:=fun v=>iZ NF (D.rt v),bk:=fun σ=>iZ NF (D.bk σ),ct:=fun σ=>iZ NF (D.ct σ)}
def BW(NF:Addr->Prop)(ts:TS):TS:=fun D σ H=>ts (G9 NF D) σ H
section
variable{X:Cx}
theorem iZ.inv{pins:List (Addr×Obj)}{σ:St}{H:Hp}{s:Shared}{Q:Hp->Prop}(I:Inv X pins σ H s)(h:iZ (se X) Q H):∃H',Inv X pins σ H' s/\Q H':=by
 rcases h with h|⟨a,o,ps,e,nf,q⟩
 ·exact⟨H,I,h⟩
 ·exact⟨_,I.j6 e nf,q⟩
theorem KR{st:Stmt}{ts:TS}(h:PS X st ts):PS X st (BW (se X) ts):=by
 intro pins s σ H D I q
 refine aP (h pins s σ H _ I q) fun f s7 q7=>?_
 cases f with
 |next=>obtain⟨eH,H7,I7,n7⟩:=q7;obtain⟨H8,I8,q8⟩:=iZ.inv I7 n7;exact⟨eH,H8,I8,q8⟩
 |cont=>obtain⟨eH,H7,I7,n7⟩:=q7;obtain⟨H8,I8,q8⟩:=iZ.inv I7 n7;exact⟨eH,H8,I8,q8⟩
 |brk=>obtain⟨eH,H7,I7,n7⟩:=q7;obtain⟨H8,I8,q8⟩:=iZ.inv I7 n7;exact⟨eH,H8,I8,q8⟩
 |ret v=>obtain⟨x7,eH,H7,I7,r7,n7⟩:=q7;obtain⟨H8,I8,q8⟩:=iZ.inv I7 n7;exact⟨x7,eH,H8,I8,r7,q8⟩
def DJ(NF:Addr->Prop)(tl:TE):TI:=fun σ H R=>tl σ H fun x H1=>∃a ps,x= .ref a/\((H1 a=some (.dK ps)/\∀o,NF a->R (kT a o ps) (upd H1 a (.bF o (.dK ps))))\/∃o,H1 a=some (.bF o (.dK ps))/\R (kT a o ps) H1)
theorem Vy{tg l:Expr}{tl:TE}(hl:PE X l tl):PI X tg l (DJ (se X) tl):=by
 intro pins s σ H R I h
 refine aP (hl pins s σ H _ I h) fun v s1 ⟨x,H1,I1,r1,q1⟩=>?_
 obtain⟨a,ps,e,q⟩:=q1
 subst e
 cases r1
 have key:∃o H2,s1.heap.get? a=some o/\H2 a=some (.bF o (.dK ps))/\Inv X pins σ H2 s1/\R (kT a o ps) H2:=by
  rcases q with ⟨h1,q⟩|⟨o,h1,q⟩
  ·obtain⟨z,hd,vs,rel,o,es,ep,ho,r⟩:=Cq I1.hok h1
   refine⟨o,_,ho,bq,I1.freeze h1 ho,q o fun o' u' z=>?_⟩
   rw[I1.base.iu _ _ _ z] at h1;cases h1
  ·obtain⟨ho,_⟩:=(show bW X.prog X.w H1 s1.heap a (.bF o (.dK ps)) from I1.hok a _ h1)
   exact⟨o,H1,ho,h1,I1,q⟩
 obtain⟨o,H2,ho,h2,I2,q⟩:=key
 obtain⟨z,hd,vs,rel,dd⟩:=ou I2.hok (.inr ⟨o,h2⟩)
 obtain⟨ep,hat⟩:=dd.dictAt
 refine wpAny_pyIter_dict hd hat ?_
 refine⟨s1.heap.objs.size,[s1.heap.objs.size],_,_,H2,rfl,I2.kept (t':=s1.toks) fun b o e=>Heap.get?_push_of_some _ e,Lu a _ (Nat.ne_of_lt (Heap.lt_size ho)) rel (fun h hh=>hat.at' fun o' e=>by rw[ho] at e;cases e;exact hh),⟨_,Heap.get?_push_size _ rfl,rfl,rfl⟩,fun b hb=>?_,q⟩
 have e:b=s1.heap.objs.size:=by simpa using hb
 subst e
 exact I2.lF (Nat.le_refl _) (I2.hok.fresh (Nat.le_refl _))
end
structure Mv(H H':Hp):Prop where
 lst:∀b xs,H b=some (.lst xs)->H' b=some (.lst xs)
 tup:∀b xs,H b=some (.tup xs)->H' b=some (.tup xs)
 bU:∀b ps,Rd H b (.dK ps)->Rd H' b (.dK ps)
mutual
theorem af.mv{S:Addr->Prop}{H H':Hp}(m:Mv H H'):∀{d:PyData} {v:V},af S H d v->af S H' d v
 | .none,_,h=>by unfold af at h⊢;exact h
 | .bool _,_,h=>by unfold af at h⊢;exact h
 | .int _,_,h=>by unfold af at h⊢;exact h
 | .str _,_,h=>by unfold af at h⊢;exact h
 | .list ds,_,h=>by unfold af at h⊢;obtain⟨a,xs,e,n,s,r⟩:=h;exact⟨a,xs,e,n,m.lst _ _ s,ai.mv m r⟩
 | .tuple ds,_,h=>by unfold af at h⊢;obtain⟨a,xs,e,n,s,r⟩:=h;exact⟨a,xs,e,n,m.tup _ _ s,ai.mv m r⟩
 | .dict kvs,_,h=>by unfold af at h⊢;obtain⟨a,xs,e,n,s,r⟩:=h;exact⟨a,xs,e,n,m.bU _ _ s,aB.mv m r⟩
theorem ai.mv{S:Addr->Prop}{H H':Hp}(m:Mv H H'):∀{ds:List PyData} {vs:List V},ai S H ds vs->ai S H' ds vs
 |[],_,h=>by unfold ai at h⊢;exact h
 |d::ds,_,h=>by unfold ai at h⊢;obtain⟨y,ys,e,h1,h2⟩:=h;exact⟨y,ys,e,af.mv m h1,ai.mv m h2⟩
theorem aB.mv{S:Addr->Prop}{H H':Hp}(m:Mv H H'):∀{ds:List (PyData×PyData)} {vs:List (Key×V)},aB S H ds vs->aB S H' ds vs
 |[],_,h=>by unfold aB at h⊢;exact h
 |d::ds,_,h=>by unfold aB at h⊢;obtain⟨y,ys,e,h1,h2⟩:=h;exact⟨y,ys,e,bN.mv m h1,aB.mv m h2⟩
theorem bN.mv{S:Addr->Prop}{H H':Hp}(m:Mv H H'):∀{d:PyData×PyData} {v:Key×V},bN S H d v->bN S H' d v
 |(k,d),_,h=>by unfold bN at h⊢;exact⟨h.1,af.mv m h.2⟩
end
theorem Mv.bF{H:Hp}{a:Addr}{o:Obj}{ps:List (Key×V)}(h:H a=some (.dK ps)):Mv H (upd H a (.bF o (.dK ps))) where
 lst:=fun b xs q=>by rw[aF (fun e=>by subst e;rw[h] at q;cases q)];exact q
 tup:=fun b xs q=>by rw[aF (fun e=>by subst e;rw[h] at q;cases q)];exact q
 bU:=fun b qs q=>by
  by_cases e:b=a
  ·subst e
   rcases q with q|⟨u,q⟩
   ·rw[h] at q;cases q;exact .inr ⟨o,bq⟩
   ·rw[h] at q;cases q
  ·rcases q with q|⟨u,q⟩
   ·exact .inl (by rw[aF e];exact q)
   ·exact .inr ⟨u,by rw[aF e];exact q⟩
theorem Mv.j6{H:Hp}{a:Addr}{o:Obj}{ps:List (Key×V)}(h:H a=some (.bF o (.dK ps))):Mv H (upd H a (.dK ps)) where
 lst:=fun b xs q=>by rw[aF (fun e=>by subst e;rw[h] at q;cases q)];exact q
 tup:=fun b xs q=>by rw[aF (fun e=>by subst e;rw[h] at q;cases q)];exact q
 bU:=fun b qs q=>by
  by_cases e:b=a
  ·subst e
   rcases q with q|⟨u,q⟩
   ·rw[h] at q;cases q
   ·rw[h] at q;cases q;exact .inl bq
  ·rcases q with q|⟨u,q⟩
   ·exact .inl (by rw[aF e];exact q)
   ·exact .inr ⟨u,by rw[aF e];exact q⟩
def gW(a:Addr)(u:HO)(H:Hp):Hp:=fun b=>if b=a/\H a≠none then some u else H b
theorem mY{a b:Addr}{u:HO}{H:Hp}:gW a u H b=none↔H b=none:=by
 unfold gW
 by_cases c:b=a/\H a≠none
 ·rw[if_pos c]
  constructor
  ·intro z;cases z
  ·intro z;rw[c.1] at z;exact absurd z c.2
 ·rw[if_neg c]
theorem rE{a b:Addr}{u:HO}{H:Hp}(h:b≠a):gW a u H b=H b:=by
 unfold gW;rw[if_neg (fun z=>h z.1)]
abbrev Gx.fz(G:Gx)(a:Addr)(o:Obj)(ps:List (Key×V)):Gx:={G with H0:=gW a (.bF o (.dK ps)) G.H0,hold:=(false, .fz o ps, .ref a)::G.hold}
section
variable{G:Gx}{ρ bM:Rh}{Φ Ψ:Pd}{ta tb te:TE}{t:TA}{i:Nat}{f g:Bool}{d e:PyData}{ds es:List PyData}{K:PySem.W.Frag}{nb:Addr->Prop}{σ:St}{H:Hp}{a:Addr}{o:Obj}{ps:List (Key×V)}
theorem Gx.qR{b:Addr}:(G.fz a o ps).S nb f b↔G.S nb f b:=by
 unfold Gx.S
 constructor
 ·rintro(z|z|z|⟨z,q⟩)
  ·exact .inl z
  ·exact .inr (.inl z)
  ·exact .inr (.inr (.inl z))
  ·exact .inr (.inr (.inr ⟨z,fun w=>q (mY.mpr w)⟩))
 ·rintro(z|z|z|⟨z,q⟩)
  ·exact .inl z
  ·exact .inr (.inl z)
  ·exact .inr (.inr (.inl z))
  ·exact .inr (.inr (.inr ⟨z,fun w=>q (mY.mp w)⟩))
theorem bR.mv{H H':Hp}{b l:Addr}(h:bR H b l)(k:∀c xs,H c=some (.lst xs)->H' c=some (.lst xs)):bR H' b l:=by
 obtain⟨ns,x1,x2,x3,x4,h1,h2,h3⟩:=h
 exact⟨ns,x1,x2,x3,x4,k _ _ h1,k _ _ h2,h3⟩
theorem Wd.freeze(W:Wd G nb ρ σ H)(h:H a=some (.dK ps))(hS:¬G.S nb false a):Wd (G.fz a o ps) nb ρ σ (upd H a (.bF o (.dK ps))):=by
  have mv:=Mv.bF (o:=o) h
  have hN:NB G.B a:=Classical.byContradiction fun z=>hS (.inr (.inr (.inl z)))
  have hnb:¬nb a:=fun z=>hS (.inl z)
  have hG:∀u,G.H0 a=some u->u= .dK ps:=fun u e=>by have:=W.old a u hN e;rw[h] at this;exact(Option.some.inj this).symm
  have toS:∀f b,(G.fz a o ps).S nb f b->G.S nb f b:=fun f b z=>Gx.qR.mp z
  refine⟨fun b l e=>(W.au b l e).mv mv.lst,fun b n=>?_,fun b u n e=>?_,fun b n q=>mY.mpr (W.cZ b n q),fun b n e=>W.gA b n (mY.mp e),W.len,fun b l e=>(W.gB b l e).mv fun c xs q=>?_,fun x m=>?_,fun i s e=>?_,W.apart,W.dI,W.cY⟩
  · by_cases hb:b=a
    · subst hb;exact absurd n hnb
    · rw[aF hb];exact W.live b n
  · by_cases hb:b=a
    · subst hb
      rw[bq]
      change gW b _ G.H0 b=some u at e
      unfold gW at e
      by_cases c:b=b/\G.H0 b≠none
      · rw[if_pos c] at e;exact e
      · rw[if_neg c] at e;exact absurd ⟨rfl,by rw[e];exact Option.some_ne_none _⟩ c
    · rw[aF hb]
      change gW a _ G.H0 b=some u at e
      rw[rE hb] at e
      exact W.old b u n e
  · have hc:c≠a:=fun z=>by subst z;have:=hG _ q;cases this
    show gW a _ G.H0 c=_
    rw[rE hc];exact q
  · rcases List.mem_cons.mp m with e|m
    · subst e
      exact⟨a,rfl,fun z=>hS (toS _ _ z),bq⟩
    · have w:=W.cL x m
      obtain⟨f,x,v⟩:=x
      cases x with
      |d x=>exact(af.mv mv w).av (toS f)
      | fz u qs =>
        obtain⟨c,e1,e2,e3⟩:=w
        by_cases hc:c=a
        · subst hc
          rw[h] at e3;cases e3
        · exact⟨c,e1,fun z=>e2 (toS _ _ z),by rw[aF hc];exact e3⟩
  · obtain⟨x,e1,w⟩:=W.ok i s e
    refine⟨x,e1,?_⟩
    cases s with
    |no=>trivial
    |d f d=>obtain⟨v,e,w⟩:=w;exact⟨v,e,(af.mv mv w).av (toS f)⟩
    |own c f es=>obtain⟨e,n,q,xs,hx,hd⟩:=w;exact⟨e,n,q,xs,mv.lst _ _ hx,(ai.mv mv hd).av (toS f)⟩
    |au=>exact w
    |raw v=>exact w
    | bU c f es =>
      obtain⟨e,n,q,xs,hx,hd⟩:=w
      exact⟨e,n,q,xs,by rw[aF (fun z=>by subst z;exact hnb n)];exact hx,(aB.mv mv hd).av (toS f)⟩
    | cu c =>
      obtain⟨e,n,q⟩:=w
      exact⟨e,n,c.av (toS c.f) (c.keep ⟨fun b hb o e=>by rw[aF (fun z=>by subst z;exact hnb (n _ hb).1)];exact e,fun b xs _=>mv.lst b xs,fun b xs _=>mv.tup b xs,fun b qs _=>mv.bU b qs⟩ q)⟩
theorem Wd.j6(W:Wd (G.fz a o ps) nb ρ σ H)(hG:∀u,G.H0 a=some u->u= .dK ps)(hF:∀f o' qs v,(f,HD.fz o' qs,v)∈G.hold->v≠ .ref a):Wd G nb ρ σ (upd H a (.dK ps))/\H a=some (.bF o (.dK ps)):=by
  obtain⟨a',ea,hS',h⟩:=(show gV ((G.fz a o ps).S nb false) H (.fz o ps) (.ref a) from W.cL _ (List.mem_cons_self ..))
  cases ea
  have mv:=Mv.j6 h
  have toS:∀f b,G.S nb f b->(G.fz a o ps).S nb f b:=fun f b z=>Gx.qR.mpr z
  have hS:¬G.S nb false a:=fun z=>hS' (toS _ _ z)
  have hN:NB G.B a:=Classical.byContradiction fun z=>hS (.inr (.inr (.inl z)))
  have hnb:¬nb a:=fun z=>hS (.inl z)
  refine⟨⟨fun b l e=>(W.au b l e).mv mv.lst,fun b n=>?_,fun b u n e=>?_,fun b n q=>mY.mp (W.cZ b n q),fun b n e=>W.gA b n (mY.mpr e),W.len,fun b l e=>(W.gB b l e).mv fun c xs q=>?_,fun x m=>?_,fun i s e=>?_,W.apart,W.dI,W.cY⟩,h⟩
  · by_cases hb:b=a
    · subst hb;exact absurd n hnb
    · rw[aF hb];exact W.live b n
  · by_cases hb:b=a
    · subst hb
      rw[bq,hG u e]
    · rw[aF hb]
      exact W.old b u n (by show gW a _ G.H0 b=_;rw[rE hb];exact e)
  · change gW a _ G.H0 c=_ at q
    by_cases hc:c=a
    · subst hc
      unfold gW at q
      by_cases z:c=c/\G.H0 c≠none
      · rw[if_pos z] at q;cases q
      · rw[if_neg z] at q;exact q
    · rw[rE hc] at q;exact q
  · have w:=W.cL x (List.mem_cons_of_mem _ m)
    obtain⟨f,x,v⟩:=x
    cases x with
    |d x=>exact(af.mv mv w).av (toS f)
    | fz u qs =>
      obtain⟨c,e1,e2,e3⟩:=w
      subst e1
      have hc:c≠a:=fun z=>hF f u qs _ m (by rw[z])
      exact⟨c,rfl,fun z=>e2 (toS _ _ z),by rw[aF hc];exact e3⟩
  · obtain⟨x,e1,w⟩:=W.ok i s e
    refine⟨x,e1,?_⟩
    cases s with
    |no=>trivial
    |d f d=>obtain⟨v,e,w⟩:=w;exact⟨v,e,(af.mv mv w).av (toS f)⟩
    |own c f es=>obtain⟨e,n,q,xs,hx,hd⟩:=w;exact⟨e,n,q,xs,mv.lst _ _ hx,(ai.mv mv hd).av (toS f)⟩
    |au=>exact w
    |raw v=>exact w
    | bU c f es =>
      obtain⟨e,n,q,xs,hx,hd⟩:=w
      exact⟨e,n,q,xs,by rw[aF (fun z=>by subst z;exact hnb n)];exact hx,(aB.mv mv hd).av (toS f)⟩
    | cu c =>
      obtain⟨e,n,q⟩:=w
      exact⟨e,n,c.av (toS c.f) (c.keep ⟨fun b hb o e=>by rw[aF (fun z=>by subst z;exact hnb (n _ hb).1)];exact e,fun b xs _=>mv.lst b xs,fun b xs _=>mv.tup b xs,fun b qs _=>mv.bU b qs⟩ q)⟩
abbrev Gx.hz(G:Gx)(a:Addr)(o:Obj)(ps:List (Key×V)):Gx:={G with hold:=(false, .fz o ps, .ref a)::G.hold}
theorem Wd.hz(W:Wd G nb ρ σ H)(hS:¬G.S nb false a)(h:H a=some (.bF o (.dK ps))):Wd (G.hz a o ps) nb ρ σ H:=
 ⟨W.au,W.live,W.old,W.cZ,W.gA,W.len,W.gB,fun x m=>by
  rcases List.mem_cons.mp m with e|m
  ·subst e;exact⟨a,rfl,hS,h⟩
  ·exact W.cL x m,fun i s e=>by
   obtain⟨x,e1,h⟩:=W.ok i s e
   refine⟨x,e1,?_⟩
   cases s<;>exact h,W.apart,W.dI,W.cY⟩
theorem Wd.zA(W:Wd (G.hz a o ps) nb ρ σ H):Wd G nb ρ σ H/\H a=some (.bF o (.dK ps)):=by
 refine⟨⟨W.au,W.live,W.old,W.cZ,W.gA,W.len,W.gB,fun x m=>W.cL x (List.mem_cons_of_mem _ m),fun i s e=>by
   obtain⟨x,e1,h⟩:=W.ok i s e
   refine⟨x,e1,?_⟩
   cases s<;>exact h,W.apart,W.dI,W.cY⟩,?_⟩
 obtain⟨a',ea,_,h⟩:=(show gV ((G.hz a o ps).S nb false) H (.fz o ps) (.ref a) from W.cL _ (List.mem_cons_self ..))
 cases ea
 exact h
theorem C9{G':Gx}{ks:Ks}{D:Ends}{E:DE}{gt:TG}{s:TS}{dd:PyData}(W3:Wd (G'.hd f dd (.ref a)) nb ρ σ H)(hl:ps.map (·.1)=(ks.map (·.1)).map Sum.inl)
  (hz:∀{nb ρ σ H},Wd G' nb ρ σ H->H a=some (.bF o (.dK ps))) (KK:qN G' {E with bk:=fun _=>False,ct:=fun _=>False} D)
  (q:Sv.nh (G'.hd f dd (.ref a)) ρ ks.length (fun i d=>∃p,ks[i]?=some p/\d= .int p.1) true gt s E):
  ∃W:Nat->Nat->St->Hp->Prop,(∃m,W 0 m σ H)/\∀i m σ H,W i m σ H->
   ((kT a o ps).stop i H/\D.nx σ H)\/((kT a o ps).go i H/\∃N:St->Hp->Prop,(∀σ' H',N σ' H'->∃m',m'<m/\W (i+1) m' σ' H')/\∀x H',(kT a o ps).jT i H x H'->gt x σ H' fun σ2 H2=>s {D with nx:=N,ct:=N,bk:=D.nx} σ2 H2):=by
 obtain⟨I,h0,ht,he⟩:=q
 have hlen:ps.length=ks.length:=by have:=congrArg List.length hl;simpa using this
 refine⟨fun i m σ H=>m=ks.length-i/\i<=ks.length/\∃nb ρ',I i ρ'/\Wd (G'.hd f dd (.ref a)) nb ρ' σ H,⟨ks.length,by simp,Nat.zero_le _,nb,ρ,h0,W3⟩,?_⟩
 rintro i m σ H ⟨rfl,hi,nb,ρ',hI,W⟩
 have EC:=hz W.eU.1
 by_cases hlt:i<ks.length
 ·refine .inr ⟨⟨EC,by omega⟩,fun σ H=>∃nb ρ',I (i+1) ρ'/\Wd (G'.hd f dd (.ref a)) nb ρ' σ H,fun σ' H' q=>⟨ks.length-(i+1),by omega,rfl,hlt,q⟩,fun x H' y=>?_⟩
  obtain⟨e1,p,Q4,e2⟩:=y
  subst e1 e2
  have hk:p.1=Sum.inl ks[i].1:=by
   have h1:(ps.map (·.1))[i]?=((ks.map (·.1)).map Sum.inl)[i]?:=by rw[hl]
   rw[List.getElem?_map,List.getElem?_map,List.getElem?_map,Q4,List.getElem?_eq_getElem hlt] at h1
   exact Option.some.inj h1
  rw[hk]
  refine ht i _ ρ' ⟨_,List.getElem?_eq_getElem hlt,rfl⟩ hI nb σ _ _ _ W (.int _) fun σ2 eK q W2=>q nb σ2 _ _ W2 ?_
  exact⟨fun nb ρ σ H q W=>⟨nb,ρ,q,W⟩,fun nb ρ σ H q W=>KK.nx nb ρ σ H q W.eU.1,fun nb ρ σ H q W=>⟨nb,ρ,q,W⟩,fun nb ρ σ f v H d q W hv=>KK.rt nb ρ σ f v H d q W.eU.1 hv,fun nb ρ σ v H q W=>KK.rw nb ρ σ v H q W.eU.1⟩
 ·have e:i=ks.length:=by omega
  subst e
  exact .inl ⟨⟨EC,hlen⟩,KK.nx nb ρ' σ H (he ρ' hI) W.eU.1⟩
theorem Sv.GS{NF:Addr->Prop}{E:DE}{gt:TG}{s:TS}(h:Ev G ρ te fun f x=>∃ks:Ks,x= .dict (ks.map cG)/\∀G' v,nh (Gx.hd G' f x v) ρ ks.length (fun i d=>∃p,ks[i]?=some p/\d= .int p.1) true gt s {E with rw:=fun _ _ _ _=>False}):
  Sv G ρ (BW NF (mK (DJ NF te) gt s)) E:=fun nb σ H D W KK=>
 h nb σ H _ W fun f v H1 x ⟨ks,ex,q⟩ s1 hv=>by
  subst ex
  have W1:=W.step s1
  have hv0:=hv
  unfold af at hv
  obtain⟨a,ps,rfl,n,hp,hd⟩:=hv
  have hkeys:=aB.keys hd
  have hS:¬G.S nb false a:=fun z=>n (cE (fun w=>by cases w) (fun _ w=>w) a z)
  have hN:NB G.B a:=Classical.byContradiction fun z=>hS (.inr (.inr (.inl z)))
  refine⟨a,ps,rfl,?_⟩
  rcases hp with hp|⟨o,hp⟩
  ·refine .inl ⟨hp,fun o nf=>?_⟩
   have hG:∀u,G.H0 a=some u->u= .dK ps:=fun u e=>by have:=W1.old a u hN e;rw[hp] at this;exact(Option.some.inj this).symm
   have hF:∀f o' qs v,(f,HD.fz o' qs,v)∈G.hold->v≠ .ref a:=fun f o' qs v m e=>by
    obtain⟨c,e1,_,e3⟩:=(show gV (G.S nb f) H1 (.fz o' qs) v from W1.cL _ m)
    rw[e1] at e;cases e
    rw[hp] at e3;cases e3
   have W2:=W1.freeze (o:=o) hp hS
   have mv:=Mv.bF (o:=o) hp
   have W3:=W2.hd (f:=f) (d:= .dict (ks.map cG)) (v:= .ref a) ((af.mv mv hv0).av fun b z=>Gx.qR.mp z)
   refine C9 (E:={E with rw:=fun _ _ _ _=>False}) W3 hkeys (fun W=>(W.j6 hG hF).2) ⟨fun nb ρ σ H q W=>?_,fun _ _ _ _ q _=>q.elim,fun _ _ _ _ q _=>q.elim,fun nb ρ σ f v H d q W hv=>?_,fun _ _ _ _ _ q _=>q.elim⟩ (q _ _)
   ·obtain⟨W',hz⟩:=W.j6 hG hF
    exact .inr ⟨a,o,ps,hz,nf,KK.nx nb ρ σ _ q W'⟩
   ·obtain⟨W',hz⟩:=W.j6 hG hF
    exact .inr ⟨a,o,ps,hz,nf,KK.rt nb ρ σ f v _ d q W' ((af.mv (Mv.j6 hz) hv).av fun b z=>Gx.qR.mpr z)⟩
  ·refine .inr ⟨o,hp,?_⟩
   have W2:=W1.hz hS hp
   have W3:=W2.hd (f:=f) (d:= .dict (ks.map cG)) (v:= .ref a) hv0
   refine C9 (E:={E with rw:=fun _ _ _ _=>False}) W3 hkeys (fun W=>W.zA.2) ⟨fun nb ρ σ H q W=> .inl (KK.nx nb ρ σ H q W.zA.1),fun _ _ _ _ q _=>q.elim,fun _ _ _ _ q _=>q.elim,fun nb ρ σ f v H d q W hv=> .inl (KK.rt nb ρ σ f v H d q W.zA.1 hv),fun _ _ _ _ _ q _=>q.elim⟩ (q _ _)
end
end L2
set_option maxRecDepth 100000
set_option maxHeartbeats 4000000
namespace L2
open PySem PySem.Spec PyProof.Rows
def iQ(wd:Wo)(pl:Nat):List Nat:=(dO wd).filter fun i=>decide (i≠pl)
theorem pJ{wd:Wo}{pl i:Nat}:i∈iQ wd pl↔wd[i]?=some none/\i≠pl:=by
 unfold iQ
 rw[List.mem_filter,kB,decide_eq_true_eq]
structure oV(p n:Int)(cs:List aH)(wd:Wo)(pl:Nat)(v:Int)(aD:List Int):Prop where
 len:aD.length=cs.length
 rg:∀x∈aD,0<=x/\x<p
 v0:0<=v
 v1:v<p
 oF:∀rw:List Int,rw.length=n.toNat->(∀i<n.toNat,p∣gI rw i-cD cs aD i)->(∀i,wd[i]?=some none->p∣gI rw i-if i=pl then 1 else 0)/\p∣v+ao (aT wd) rw
theorem Js{p n:Int}{cs:List aH}{wd:Wo}{R:List (List Int)}{T:List (Nat×Nat)}{k pl:Nat}(hN:dw p n cs)(hwl:wd.length=n.toNat)(hS:eg p (n.toNat+cs.length) (dB n.toNat cs.length cs) R T (iQ wd pl++[pl]))(hT:(k,pl)∈T):
  oV p n cs wd pl (-(ao (aT wd) (R.getD k []))%p) ((R.getD k []).drop n.toNat):=by
 have p2:=hN.hp.1
 have hk:=(hS.rg _ hT).1
 have hone:=hS.one _ hT k hk
 have AD:=hS.ah (iQ wd pl) [] (k,pl) hT rfl (fun z=>(pJ.mp z).2 rfl)
 rw[if_pos rfl] at hone
 dsimp only at hone AD hk
 rw[ic hk] at hone⊢
 have hr:=hS.ok _ (List.getElem_mem hk)
 have hl:=hr.len
 have hd:bB p cs.length (R[k].drop n.toNat):=⟨by rw[List.length_drop];omega,fun x hx=>hr.rg x (List.mem_of_mem_drop hx)⟩
 refine⟨hd.len,hd.rg,Int.emod_nonneg _ (by omega),Int.emod_lt_of_pos _ (by omega),fun mw hrl hrw=>?_⟩
 have oU:∀i<n.toNat,p∣gI mw i-1*gI R[k] i:=fun i hi=>by
  obtain⟨a,ha⟩:=hrw i hi
  obtain⟨c,hc⟩:=EG hN hS (List.getElem_mem hk) hi
  exact⟨a-c,by rw[Int.mul_sub,<-ha,<-hc];omega⟩
 refine⟨fun i hi=>?_,?_⟩
 ·have hil:i<n.toNat:=by have:=(List.getElem?_eq_some_iff.mp hi).1;omega
  have h1:=oU i hil
  by_cases c:i=pl
  ·subst c
   rw[hone] at h1
   rw[if_pos rfl]
   exact h1
  ·have z:=AD i (pJ.mpr ⟨hi,c⟩)
   rw[ic hk] at z
   rw[z,Int.mul_zero] at h1
   rw[if_neg c]
   exact h1
 ·have h1:=wC (p:=p) (u:=1) (aT wd) mw (R[k].take n.toNat) (by rw[List.length_take];omega) fun i hi=>by
   have e4:gI (R[k].take n.toNat) i=gI R[k] i:=by
    unfold gI
    rw[List.getD_eq_getElem?_getD,List.getElem?_take_of_lt (by omega),List.getD_eq_getElem?_getD]
   rw[e4]
   exact oU i (by omega)
  rw[rq (aT wd) R[k] n.toNat fun i hi=>by unfold aT;rw[List.getElem?_eq_none (by omega)]] at h1
  obtain⟨a,ha⟩:=h1
  rw[Int.emod_def]
  refine⟨a-(-ao (aT wd) R[k]/p),?_⟩
  rw[Int.mul_sub,<-ha]
  omega
def iw(wd:Wo)(pl:Nat):Wo:=(List.range wd.length).map fun i=>if i=pl then some 1 else if wd[i]?=some none then none else some 0
theorem jV{wd:Wo}{pl i:Nat}(hi:i<wd.length):(iw wd pl)[i]?=some (if i=pl then some 1 else if wd[i]?=some none then none else some 0):=by
 unfold iw
 rw[List.getElem?_map,List.getElem?_range hi]
 rfl
theorem nQ{wd:Wo}{pl:Nat}:(iw wd pl).length=wd.length:=by unfold iw;rw[List.length_map,List.length_range]
theorem Cv{wd:Wo}{pl:Nat}(hp:pl<wd.length)(i:Nat):aT (iw wd pl) i=if i=pl then 1 else 0:=by
 unfold aT
 by_cases hi:i<wd.length
 ·rw[jV hi]
  by_cases c:i=pl
  ·rw[if_pos c,if_pos c]
  ·rw[if_neg c,if_neg c]
   by_cases c2:wd[i]?=some none
   ·rw[if_pos c2]
   ·rw[if_neg c2]
 ·rw[List.getElem?_eq_none (by rw[nQ];omega),if_neg (by omega)]
theorem Ww{wd:Wo}{pl:Nat}:dO (iw wd pl)=iQ wd pl:=by
 unfold iQ dO
 rw[List.filter_filter,nQ]
 apply List.filter_congr
 intro i hi
 rw[jV (List.mem_range.mp hi)]
 by_cases c:i=pl
 ·simp[c]
 ·by_cases c2:wd[i]?=some none
  ·simp[c,c2]
  ·simp[c,c2]
structure OI(p n:Int)(wd:Wo)(pl:Nat)(R:List (List Int))(T:List (Nat×Nat))(u:List Int):Prop where
 len:u.length=n.toNat
 rg:∀x∈u,0<=x/\x<p
 own:gI u pl=1
 nq:∀q∈T,gI u q.2= -(gI (R.getD q.1 []) pl)%p
 rest:∀j,j≠pl->(∀q∈T,q.2≠j)->gI u j=0
 no:∀q∈T,q.2≠pl
section
variable{p n:Int}{wd:Wo}{pl:Nat}{R R0:List (List Int)}{T:List (Nat×Nat)}{u:List Int}
theorem OI.init(hp:1<p)(hpl:pl<n.toNat):OI p n wd pl R [] ((List.replicate n.toNat 0).set pl 1):=by
 refine⟨by rw[List.length_set,List.length_replicate],fun x hx=>?_,?_,(fun q hq=>by cases hq),fun j hj _=>?_,(fun q hq=>by cases hq)⟩
 ·rcases List.mem_or_eq_of_mem_set hx with z|z
  ·rw[List.mem_replicate] at z;omega
  ·omega
 ·rw[kr (by rw[List.length_replicate];exact hpl),if_pos rfl]
 ·rw[kr (by rw[List.length_replicate];exact hpl),if_neg hj,rO]
theorem OI.step{q:Nat×Nat}(h:OI p n wd pl R T u)(hp:0<p)(hq:q.2<n.toNat)(hne:q.2≠pl)(hnew:∀q'∈T,q'.2≠q.2):OI p n wd pl R (T++[q]) (u.set q.2 (-(gI (R.getD q.1 []) pl)%p)):=by
 have hl:=h.len
 have hs:=fun j=>kr (r:=u) (i:=q.2) (x:= -(gI (R.getD q.1 []) pl)%p) (by omega) j
 refine⟨by rw[List.length_set];exact hl,fun x hx=>?_,?_,fun q' hq'=>?_,fun j hj hT=>?_,fun q' hq'=>?_⟩
 ·rcases List.mem_or_eq_of_mem_set hx with z|z
  ·exact h.rg x z
  ·rw[z];exact⟨Int.emod_nonneg _ (by omega),Int.emod_lt_of_pos _ hp⟩
 ·rw[hs,if_neg (Ne.symm hne)];exact h.own
 ·rcases List.mem_append.mp hq' with z|z
  ·rw[hs,if_neg (hnew q' z)];exact h.nq q' z
  ·rw[List.mem_singleton.mp z,hs,if_pos rfl]
 ·rw[hs,if_neg (fun z=>hT q (by simp) z.symm)]
  exact h.rest j hj fun q' m=>hT q' (List.mem_append_left _ m)
 ·rcases List.mem_append.mp hq' with z|z
  ·exact h.no q' z
  ·rw[List.mem_singleton.mp z];exact hne
theorem OI.word{cs:List aH}(hN:dw p n cs)(h:OI p n wd pl R T u)(hwl:wd.length=n.toNat)(hpl:wd[pl]?=some none)(hS:eg p (n.toNat+cs.length) (dB n.toNat cs.length cs) R T (iQ wd pl++[pl])):dW p n cs (iw wd pl) u:=by
 have p2:=hN.hp.1
 have jg:=(List.getElem?_eq_some_iff.mp hpl).1
 have Bo:∀k<R.length,ao (aT (iw wd pl)) (R.getD k [])=gI (R.getD k []) pl:=fun k hk=>by
  have hr:bB p (n.toNat+cs.length) (R.getD k []):=by rw[ic hk];exact hS.ok _ (List.getElem_mem hk)
  rw[mT _ _ pl (by rw[hr.len];omega) fun i hi hne=>by rw[Cv jg,if_neg hne,Int.zero_mul],Cv jg,if_pos rfl,Int.one_mul]
 refine FI.word hN ⟨h.len,h.rg,fun j x e=>?_,fun q hq _=>?_,fun j e hj=>?_,fun k hk fK=>?_⟩ (by rw[nQ];exact hwl) (by
  rw[Ww]
  refine⟨hS.ok,hS.len,hS.sp,hS.nd,fun q hq=>⟨(hS.rg q hq).1,?_⟩,hS.one,fun i hi hn d hd=>hS.zero i hi hn d (List.mem_append_left _ hd),fun D1 D2 q hq e hn d hd=>hS.ah D1 (D2++[pl]) q hq (by rw[e];simp) hn d hd⟩
  rcases List.mem_append.mp (hS.rg q hq).2 with z|z
  ·exact z
  ·exact absurd (List.mem_singleton.mp z) (h.no q hq))
 ·have hj:=(List.getElem?_eq_some_iff.mp e).1
  rw[nQ] at hj
  rw[jV hj] at e
  by_cases c:j=pl
  ·rw[if_pos c] at e
   cases e
   rw[c];exact h.own
  ·rw[if_neg c] at e
   by_cases c2:wd[j]?=some none
   ·rw[if_pos c2] at e;cases e
   ·rw[if_neg c2] at e
    cases e
    refine h.rest j c fun q hq z=>c2 ?_
    rcases List.mem_append.mp (hS.rg q hq).2 with y|y
    ·rw[<-z];exact(pJ.mp y).1
    ·exact absurd (List.mem_singleton.mp y) (h.no q hq)
 ·rw[Bo q.1 (hS.rg q hq).1];exact h.nq q hq
 ·have hj2:=(List.getElem?_eq_some_iff.mp e).1
  rw[nQ] at hj2
  have:j≠pl:=fun z=>by
   subst z
   rw[jV hj2,if_pos rfl] at e;cases e
  exact h.rest j this fun q hq z=>by
   have:=hj q hq z
   have:=(hS.rg q hq).1
   omega
 ·rw[Bo k hk,hS.zero k hk fK pl (by simp)]
  exact⟨0,by omega⟩
end
theorem Sv.lift{G:Gx}{ρ:Rh}{s:TS}{E:DE}{f:Bool}{ds:List PyData}{a:Addr}(i:Nat)(e:ρ[i]?=some (.own a f ds))(hs:cN ds=true)(h:Sv G (ρ.set i (.own a true ds)) s E):Sv G ρ s E:=fun nb σ H D W K=>by
 obtain⟨x,e1,h1,h2,h3,xs,hx,hd⟩:=W.ok i _ e
 have W':=Sv.p5 (g:=true) W e (ai.gu (bE:=G.S nb true) (H':=H) hs hd)
 have:upd H a (.lst xs)=H:=by
  funext b
  by_cases c:b=a
  ·subst c;rw[bq,hx]
  ·rw[aF c]
 rw[this] at W'
 exact h nb σ H D W' K
end L2
set_option maxRecDepth 100000
set_option maxHeartbeats 4000000
namespace L2
open PySem PySem.Spec PyProof.Rows
theorem vA(g h:Nat->Int):∀(l:List Nat) (f:Nat->Int),ao f (l.map fun j=>g j+h j)=ao f (l.map g)+ao f (l.map h)
  |[],_=>rfl
  | j :: l, f => by
    show f 0*(g j+h j)+ao _ _=(f 0*g j+ao _ _)+(f 0*h j+ao _ _)
    rw[vA g h l]
    grind
theorem AE(g:Nat->Int)(x:Int):∀(l:List Nat) (f:Nat->Int),ao f (l.map fun j=>g j*x)=ao f (l.map g)*x
  |[],_=>by simp[ao]
  | j :: l, f => by
    show f 0*(g j*x)+ao _ _=(f 0*g j+ao _ _)*x
    rw[AE g x l]
    grind
theorem i8{n i:Nat}(g:Nat->Int)(h:i<n):gI ((List.range n).map g) i=g i:=by
 unfold gI
 rw[List.getD_eq_getElem?_getD,List.getElem?_map,List.getElem?_range h]
 rfl
theorem BY{n:Nat}(f:Nat->Int):∀prs:aH,(∀pr∈prs,pr.1.toNat<n)->ao f ((List.range n).map (co prs))=(prs.map fun pr=>f pr.1.toNat*pr.2).sum
  | [], _ => by
    rw[kH _ _ fun i hi=>by rw[List.length_map,List.length_range] at hi;rw[i8 _ hi];show f i*0=0;rw[Int.mul_zero]]
    rfl
  | pr :: prs, h => by
    have e:(co (pr::prs))=fun j=>(if pr.1.toNat=j then pr.2 else 0)+co prs j:=by funext j;rfl
    rw[e,vA,BY f prs fun q hq=>h q (List.mem_cons_of_mem _ hq),List.map_cons,List.sum_cons]
    have hp:=h pr (List.mem_cons_self ..)
    congr 1
    rw[mT f _ pr.1.toNat (by rw[List.length_map,List.length_range];exact hp) fun i hi hne=>?_,i8 _ hp,if_pos rfl]
    rw[List.length_map,List.length_range] at hi
    rw[i8 _ hi,if_neg (fun z=>hne z.symm),Int.mul_zero]
theorem Fi{p n:Int}{v:List Int}(hv:v.length=n.toNat):∀(cs:List aH) (aD:List Int),(∀prs∈cs,∀pr∈prs,0<=pr.1/\pr.1<n)->(∀prs∈cs,p∣aV prs (v.map some))->p∣ao (gI v) ((List.range n.toNat).map (cD cs aD))
  | [], aD, _, _ => by
    refine⟨0,?_⟩
    rw[Int.mul_zero]
    refine kH _ _ fun i hi=>?_
    rw[List.length_map,List.length_range] at hi
    rw[i8 _ hi]
    show gI v i*0=0
    rw[Int.mul_zero]
  | prs :: cs, [], _, _ => by
    refine⟨0,?_⟩
    rw[Int.mul_zero]
    refine kH _ _ fun i hi=>?_
    rw[List.length_map,List.length_range] at hi
    rw[i8 _ hi]
    show gI v i*0=0
    rw[Int.mul_zero]
  | prs :: cs, x :: aD, h1, h2 => by
    have e:cD (prs::cs) (x::aD)=fun j=>co prs j*x+cD cs aD j:=by funext j;rfl
    have hr:=h1 prs (List.mem_cons_self ..)
    rw[e,vA,AE,BY _ _ fun pr br=>by have:=hr pr br;omega,<-qv hv prs hr]
    obtain⟨a,ha⟩:=h2 prs (List.mem_cons_self ..)
    obtain⟨b,hb⟩:=Fi hv cs aD (fun q hq=>h1 q (List.mem_cons_of_mem _ hq)) fun q hq=>h2 q (List.mem_cons_of_mem _ hq)
    exact⟨a*x+b,by rw[ha,hb];grind⟩
theorem xh{p:Int}:∀(f:Nat->Int) (r s:List Int),r.length=s.length->(∀i<r.length,p∣f i*(gI r i-gI s i))->p∣ao f r-ao f s
  |_,[],[],_,_=>⟨0,by simp[ao]⟩
  | f, x :: r, y :: s, hl, h => by
    obtain⟨a,ha⟩:=xh (fun i=>f (i+1)) r s (by simpa using hl) fun i hi=>h (i+1) (by simpa using hi)
    obtain⟨b,hb⟩:=h 0 (by simp)
    have hb:f 0*(x-y)=p*b:=hb
    refine⟨b+a,?_⟩
    show(f 0*x+ao _ r)-(f 0*y+ao _ s)=_
    grind
theorem CQ(f g:Nat->Int)(r:List Int):ao f r=ao g r+ao (fun i=>f i-g i) r:=by
 rw[<-xO]
 congr 1
 funext i
 omega
def eP(n pl:Nat):List Int:=(List.range n).map fun i=>if i=pl then 1 else 0
theorem dW.row{p n:Int}{cs:List aH}{wd:Wo}{w:List Int}(hN:dw p n cs)(h:dW p n cs wd w)(aD:List Int):p∣ao (gI w) ((List.range n.toNat).map (cD cs aD)):=
 Fi h.len cs aD (fun prs bZ pr br=>⟨((hN.ok prs bZ).2.2 pr br).1,((hN.ok prs bZ).2.2 pr br).2.1⟩) h.kJ
theorem dW.kn{p n:Int}{cs:List aH}{wd:Wo}{w:List Int}(h:dW p n cs wd w){i:Nat}(hi:i<wd.length):gI w i-aT wd i=if wd[i]?=some none then gI w i else 0:=by
  unfold aT
  rw[List.getElem?_eq_getElem hi]
  cases e:wd[i] with
  |none=>simp
  | some x =>
    have:=h.known i x (by rw[List.getElem?_eq_getElem hi,e])
    rw[if_neg (by simp)]
    dsimp only
    omega
theorem PN{p n:Int}{cs:List aH}{wd:Wo}{w aD:List Int}(hN:dw p n cs)(hwl:wd.length=n.toNat)(h:rQ p n cs wd aD)(hw:dW p n cs wd w):False:=by
 have p2:=hN.hp.1
 obtain⟨g1,g2⟩:=h.oF ((List.range n.toNat).map (cD cs aD)) (by rw[List.length_map,List.length_range]) fun i hi=>⟨0,by rw[i8 _ hi];omega⟩
 have h1:=hw.row hN aD
 have h2:=xh (p:=p) (fun i=>gI w i-aT wd i) ((List.range n.toNat).map (cD cs aD)) (List.replicate n.toNat 0) (by rw[List.length_map,List.length_range,List.length_replicate]) fun i hi=>by
  rw[List.length_map,List.length_range] at hi
  rw[hw.kn (by omega)]
  have z:gI (List.replicate n.toNat 0) i=0:=by unfold gI;rw[List.getD_eq_getElem?_getD,List.getElem?_replicate];split<;>rfl
  rw[z,Int.sub_zero]
  split
  ·rename_i e
   exact Int.dvd_mul_of_dvd_right (g1 i e)
  ·rw[Int.zero_mul];exact⟨0,by omega⟩
 rw[sH,Int.sub_zero] at h2
 rw[CQ (gI w) (aT wd)] at h1
 obtain⟨a,ha⟩:=h1
 obtain⟨b,hb⟩:=h2
 obtain⟨c,hc⟩:=g2
 have:p*(a-b-c)=1:=by rw[Int.mul_sub,Int.mul_sub];omega
 have hd:p∣1:=⟨_,this.symm⟩
 have:=Int.le_of_dvd (by decide) hd
 omega
theorem t8{p n:Int}{cs:List aH}{wd:Wo}{pl:Nat}{v:Int}{w aD:List Int}(hN:dw p n cs)(hwl:wd.length=n.toNat)(hpl:wd[pl]?=some none)(h:oV p n cs wd pl v aD)(hw:dW p n cs wd w):gI w pl=v:=by
 have p2:=hN.hp.1
 have hlt:pl<n.toNat:=by have:=(List.getElem?_eq_some_iff.mp hpl).1;omega
 obtain⟨g1,g2⟩:=h.oF ((List.range n.toNat).map (cD cs aD)) (by rw[List.length_map,List.length_range]) fun i hi=>⟨0,by rw[i8 _ hi];omega⟩
 have h1:=hw.row hN aD
 have h2:=xh (p:=p) (fun i=>gI w i-aT wd i) ((List.range n.toNat).map (cD cs aD)) (eP n.toNat pl) (by unfold eP;rw[List.length_map,List.length_map]) fun i hi=>by
  rw[List.length_map,List.length_range] at hi
  rw[hw.kn (by omega)]
  unfold eP
  rw[i8 (fun i=>if i=pl then 1 else 0) hi]
  split
  ·rename_i e
   exact Int.dvd_mul_of_dvd_right (g1 i e)
  ·rw[Int.zero_mul];exact⟨0,by omega⟩
 rw[show ao (fun i=>gI w i-aT wd i) (eP n.toNat pl)=gI w pl by
  unfold eP
  rw[mT _ _ pl (by rw[List.length_map,List.length_range];exact hlt) fun i hi hne=>by rw[List.length_map,List.length_range] at hi;rw[i8 (fun i=>if i=pl then 1 else 0) hi,if_neg hne,Int.mul_zero],i8 (fun i=>if i=pl then 1 else 0) hlt,if_pos rfl,Int.mul_one]
  rw[hw.kn (by omega),if_pos hpl]] at h2
 rw[CQ (gI w) (aT wd)] at h1
 obtain⟨a,ha⟩:=h1
 obtain⟨b,hb⟩:=h2
 obtain⟨c,hc⟩:=g2
 have hwp:0<=gI w pl/\gI w pl<p:=by
  have:pl<w.length:=by rw[hw.len];exact hlt
  unfold gI
  rw[List.getD_eq_getElem?_getD,List.getElem?_eq_getElem this]
  exact hw.rg _ (List.getElem_mem _)
 have v0:=h.v0
 have v1:=h.v1
 have hk:gI w pl-v=p*(a-b-c):=by rw[Int.mul_sub,Int.mul_sub];omega
 rcases Int.lt_trichotomy (a-b-c) 0 with z|z|z
 ·have:p*(a-b-c)<=p*(-1):=Int.mul_le_mul_of_nonneg_left (by omega) (by omega)
  omega
 ·rw[z] at hk;omega
 ·have:p*1<=p*(a-b-c):=Int.mul_le_mul_of_nonneg_left (by omega) (by omega)
  omega
def je(p n:Int)(cs:List aH)(wd:Wo):Prop:=∃v,dW p n cs wd v
theorem dW.put{p n:Int}{cs:List aH}{wd:Wo}{pl:Nat}{w:List Int}(h:dW p n cs wd w):dW p n cs (wd.set pl (some (gI w pl))) w:=by
 refine⟨h.len,h.rg,fun j x e=>?_,h.kJ⟩
 rw[List.getElem?_set] at e
 split at e
 ·rename_i e2
  subst e2
  split at e
  ·cases e;rfl
  ·cases e
 ·exact h.known j x e
theorem dW.off{p n:Int}{cs:List aH}{wd:Wo}{pl:Nat}{w:List Int}{x:Int}(hpl:wd[pl]?=some none)(h:dW p n cs (wd.set pl (some x)) w):dW p n cs wd w/\gI w pl=x:=by
 have hlt:=(List.getElem?_eq_some_iff.mp hpl).1
 refine⟨⟨h.len,h.rg,fun j y e=>h.known j y ?_,h.kJ⟩,h.known pl x ?_⟩
 ·rw[List.getElem?_set,if_neg fun z=>by rw[<-z,hpl] at e;cases e]
  exact e
 ·rw[List.getElem?_set_self hlt]
theorem R4{p n:Int}{cs:List aH}{wd:Wo}{pl:Nat}{v x:Int}{aD:List Int}(hN:dw p n cs)(hwl:wd.length=n.toNat)(hpl:wd[pl]?=some none)(h:oV p n cs wd pl v aD):je p n cs (wd.set pl (some x))↔je p n cs wd/\v=x:=by
 constructor
 ·rintro⟨w,hw⟩
  obtain⟨g1,g2⟩:=hw.off hpl
  exact⟨⟨w,g1⟩,by rw[<-g2,t8 hN hwl hpl h g1]⟩
 ·rintro⟨⟨w,hw⟩,rfl⟩
  have:=t8 hN hwl hpl h hw
  exact⟨w,this▸hw.put⟩
theorem LJ{p n:Int}{cs:List aH}{wd:Wo}{pl:Nat}{x:Int}{u:List Int}(hN:dw p n cs)(hwl:wd.length=n.toNat)(hk:∀y,some y∈wd->0<=y/\y<p)(hpl:wd[pl]?=some none)(x0:0<=x)(x1:x<p)(h:dW p n cs (iw wd pl) u):je p n cs (wd.set pl (some x))↔je p n cs wd:=by
 have p2:=hN.hp.1
 have hlt:=(List.getElem?_eq_some_iff.mp hpl).1
 constructor
 ·rintro⟨w,hw⟩
  exact⟨w,(hw.off hpl).1⟩
 ·rintro⟨w,hw⟩
  have DC:w.length=u.length:=by rw[hw.len,h.len]
  have hg:∀j,j<wd.length->gI (jr p w 1 u (x-gI w pl)) j=(gI w j+(x-gI w pl)*gI u j)%p:=fun j hj=>by
   have j1:j<w.length:=by rw[hw.len];omega
   have j2:j<u.length:=by omega
   unfold gI jr
   rw[List.getD_eq_getElem?_getD,List.getElem?_zipWith,List.getD_eq_getElem?_getD (l:=w) (i:=j),List.getD_eq_getElem?_getD (l:=u),List.getElem?_eq_getElem j1,List.getElem?_eq_getElem j2]
   simp
  refine⟨jr p w 1 u (x-gI w pl),?_,fun y hy=>?_,fun j y e=>?_,fun prs bZ=>?_⟩
  ·unfold jr
   rw[List.length_zipWith,DC,Nat.min_self,h.len]
  ·unfold jr at hy
   obtain⟨i,hi,e⟩:=List.mem_iff_getElem.mp hy
   rw[List.getElem_zipWith] at e
   rw[<-e]
   exact⟨Int.emod_nonneg _ (by omega),Int.emod_lt_of_pos _ (by omega)⟩
  ·rw[List.getElem?_set] at e
   split at e
   ·rename_i e2
    subst e2
    cases e
    have hu:=h.known pl 1 (by rw[jV hlt,if_pos rfl])
    rw[hg _ hlt,hu,Int.mul_one,show gI w pl+(x-gI w pl)=x by omega,Int.emod_eq_of_lt x0 x1]
   ·rename_i e2
    have hj:=(List.getElem?_eq_some_iff.mp e).1
    have hu:=h.known j 0 (by rw[jV hj,if_neg (fun z=>e2 z.symm),e,if_neg (by simp)])
    have hb:=hk y (List.mem_of_getElem? e)
    rw[hg _ hj,hu,Int.mul_zero,Int.add_zero,hw.known j y e,Int.emod_eq_of_lt hb.1 hb.2]
  ·have hr:∀pr∈prs,0<=pr.1/\pr.1<w.length:=fun pr br=>by
    have:=(hN.ok prs bZ).2.2 pr br
    have:=hw.len
    omega
   have:=Fw (p:=p) (a:=1) (b:=x-gI w pl) DC hr
   refine Int.dvd_of_emod_eq_zero ?_
   rw[this,Int.emod_eq_zero_of_dvd (hw.kJ prs bZ),Int.emod_eq_zero_of_dvd (h.kJ prs bZ)]
   simp
theorem Dz:∀(f:Nat->Int) (xs:List Int) (x:Int),ao f (xs++[x])=ao f xs+f xs.length*x
  |f,[],x=>by simp[ao]
  | f, y :: ys, x => by
    show f 0*y+ao _ (ys++[x])=_
    rw[Dz]
    show _=f 0*y+ao _ ys+_
    rw[List.length_cons]
    omega
theorem L1{n:Int}{v r:List Int}(hv:v.length=n.toNat)(hr:r.length=n.toNat):aV (ie r n.toNat) (v.map some)=ao (gI v) r:=by
  rw[qv (n:=n) hv _ fun pr br=>by
    unfold ie at br
    obtain⟨k,hk,rfl⟩:=List.mem_map.mp br
    have:=List.mem_range.mp (List.mem_filter.mp hk).1
    dsimp only
    omega]
  have key:∀i,i<=n.toNat->((ie r i).map fun pr=>gI v pr.1.toNat*pr.2).sum=ao (gI v) (r.take i):=by
    intro i
    induction i with
    |zero=>intro _;rfl
    | succ i ih =>
      intro hi
      have e:r[i]?=some r[i]:=List.getElem?_eq_getElem (by omega)
      have g:gI r i=r[i]:=by unfold gI;rw[List.getD_eq_getElem?_getD,e];rfl
      rw[AN,List.map_append,List.sum_append,ih (by omega),take_snoc e,Dz,List.length_take,Nat.min_eq_left (by omega),g]
      by_cases c:r[i]=0
      · rw[if_neg (by simpa using c),c]
        simp
      · rw[if_pos c]
        simp
  rw[key _ (Nat.le_refl _),<-hr,List.take_length]
theorem JY{p l:Int}{v r:List Int}{pr:Int×Int}{S:Int}(hp:0<p)(hi:pr.1.toNat<r.length)(h:p∣ao (gI v) r-l*S):p∣ao (gI v) (r.set pr.1.toNat ((gI r pr.1.toNat+l*pr.2)%p))-l*(S+gI v pr.1.toNat*pr.2):=by
 rw[qD _ _ _ _ hi,Int.emod_def]
 obtain⟨a,ha⟩:=h
 refine⟨a-gI v pr.1.toNat*((gI r pr.1.toNat+l*pr.2)/p),?_⟩
 grind
end L2
set_option maxRecDepth 100000
set_option maxHeartbeats 8000000
namespace K47
open PySem L2
def top(i:Nat):Stmt:=PySem.Challenge.pw_fewchecks_k47_whole_settled_and_filled.main.body.getD i (.Pass ⟨0,0,0,0⟩)
abbrev mV:Stmt:=top 1
abbrev mq:Stmt:=top 2
abbrev lA:Stmt:=top 4
abbrev mX:Stmt:=top 6
abbrev mH:Stmt:=top 7
abbrev mj:Stmt:=top 8
abbrev kq:Stmt:=top 9
abbrev kG:Stmt:=top 10
abbrev kK:Stmt:=top 11
abbrev lR:Stmt:=top 12
abbrev kZ:Stmt:=top 13
abbrev lz:Stmt:=top 14
abbrev lE:Stmt:=top 16
abbrev mW:Stmt:=top 17
abbrev mU:Stmt:=top 18
abbrev ki:Stmt:=top 19
abbrev lJ:Stmt:=top 20
abbrev m9:Stmt:=top 21
abbrev kX:Stmt:=top 22
abbrev jU:Stmt:=top 23
abbrev jI:Stmt:=top 24
abbrev jJ:Stmt:=top 25
abbrev kU:Stmt:=top 26
abbrev kM:Stmt:=top 27
abbrev nA:Stmt:=top 28
abbrev lH:Stmt:=top 29
abbrev lV:Stmt:=top 30
abbrev kR:Stmt:=top 31
abbrev nj:Stmt:=top 32
abbrev lu:Stmt:=top 33
abbrev jz:Stmt:=top 34
abbrev jC:Stmt:=top 35
abbrev lN:Stmt:=top 36
abbrev mJ:Stmt:=top 37
abbrev lW:Stmt:=top 38
abbrev iN:Stmt:=top 39
local macro_rules| `(tactic|walk_at "d0")=> `(tactic|first|omega|assumption|decide|(unfold Sm at*;omega)|(unfold rT;omega)|(unfold tW;decide)|(unfold tW;omega))
local macro_rules| `(tactic|walk_at "ds")=> `(tactic|((try dsimp only);first|walk_at "d0" |(refine And.intro ?_ ?_<;>walk_at "d0")|(refine Or.inl ?_;walk_at "d0")|(refine Or.inr (And.intro ?_ ?_)<;>walk_at "d0")))
local macro_rules| `(tactic|walk_at "s1")=> `(tactic|with_reducible first
 |refine R.seq ?_|refine R.asg ?_|refine R.Ae ?_|refine R.ret ?_|refine R.next ?_|refine R.c ?_|refine R.op ?_|refine R.test ?_|refine R.bl ?_
 |refine R.and ?_|refine R.GO ?_|refine R.cb ?_|refine R.call ?_|refine R.nil ?_|refine R.cons ?_
 |refine R.lst ?_|refine R.sl ?_|refine R.Ls ?_|refine R.part ?_|refine R.O3 ?_|refine R.Uj ?_|refine R.EX ?_|refine R.RW ?_|refine R.RG ?_|refine R.Rb ?_|refine R.o9 ?_
 |refine R.gm ?_|refine R.Mz ?_|refine R.Rl ?_|refine R.CI ?_|refine R.El ?_|refine R.bits ?_
 |refine qU ?_|refine AB ?_|refine R.PJ ?_|refine R.Us ?_|refine R.HV ?_|refine R.GV ?_|refine R.iL ?_|refine R.OO ?_|refine R.comp ?_)
local macro_rules| `(tactic|walk_at "st")=> `(tactic|repeat (first
 |walk_at "s1"
 |((with_reducible refine' R.var ?h0 ?_);(case h0=>rfl))
 |((with_reducible refine' R.rI ?h1 ?_);(case h1=>walk_at "ds"))
 |((with_reducible refine' R.EZ (o:= .lst []) ?h1 ?_);(case h1=>rfl))
 |((with_reducible refine' R.sq ?h0 ?h1 ?_);(case h0=>assumption);(case h1=>rfl))
 |((with_reducible refine' R.Lj ?h1 ?_);(case h1=>rfl))
 |((with_reducible refine' R.setM ?h0 ?h1 ?_);(case h0=>assumption);(case h1=>rfl))
 |((with_reducible refine' R.Kh ?h0 ?_);(case h0=>assumption))
 |((with_reducible refine' R.LB ?h0 ?h1 ?_);(case h0=>walk_at "ds");(case h1=>walk_at "ds"))
 |((with_reducible refine' R.U5 ?h0 ?_);(case h0=>walk_at "ds"))
 |((with_reducible refine' R.qC ?h0 ?_);(case h0=>assumption))
 |((with_reducible refine' R.DK ?h0 ?_);(case h0=>first|exact R.dT (by omega)|exact R.Dw (by omega)|decide))
 |((with_reducible refine' R.Aw ?h0 ?_);(case h0=>first|exact R.dF (by omega)|exact R.CC (by omega)|decide))
 |(with_reducible refine R.Te ?_)|(with_reducible refine R.Ot ?_)))
local macro_rules| `(tactic|walk_at "fv")=> `(tactic|first|exact Or.inl rfl|exact Or.inr (Or.inl rfl)|exact Or.inr (Or.inr (Or.inl rfl))|exact Or.inr (Or.inr (Or.inr (Or.inl rfl)))|exact Or.inr (Or.inr (Or.inr (Or.inr rfl))))
local macro_rules| `(tactic|walk_at "d1")=> `(tactic|with_reducible first
 |refine Sv.seq ?_|refine Sv.Fp ?_|refine Sv.asg ?_|refine Sv.Nj ?_|refine Sv.Ae ?_|refine Sv.ret ?_|refine Sv.next ?_
 |refine Ev.int ?_|refine Ev.bl ?_|refine Ev.aN ?_|refine Ev.gm ?_|refine Ev.UN ?_|refine Ev.rI ?_|refine Ev.rU ?_|refine Ev.eq ?_|refine Ev.ne ?_|refine Ev.is ?_|refine Ev.Rw ?_|refine Ev.QX ?_|refine Ev.str ?_|refine Ev.P6 ?_
 |refine Ev.vN ?_|refine Ev.QW ?_|refine Ev.Gm ?_|refine Tv.test ?_|refine Tv.and ?_|refine Tv.or ?_|refine Tv.not ?_|refine Tv.o9 ?_|refine Tv.Ma ?_
 |refine Ev.VI ?_|refine Ev.tupS ?_|refine Ev.lst ?_|refine Av.nil ?_|refine Av.cons ?_|refine Av.Ih ?_|refine Ov.none ?_|refine Ov.some ?_|refine Ev.min2 ?_|refine Ev.T3 ?_|refine Ev.whole ?_
 |refine R.di ?_|refine R.db ?_|refine R.dl ?_|refine R.dt ?_|refine R.Ji ?_|refine R.VG ?_|refine R.Qp ?_|refine R.Qs ?_
 |refine Gv.j9 ?_|refine Gv.S6 ?_|refine Gv.OW ?_|refine Gv.Io ?_|refine Gv.Mb ?_|refine Gv.QD ?_|refine Gv.Ia ?_|refine qU ?_|refine AB ?_)
local macro_rules| `(tactic|walk_at "dt")=> `(tactic|repeat (first
 |((with_reducible refine' Sv.lq ?h0 ?_);(case h0=>rfl))
 |walk_at "d1"
 |((with_reducible refine' Ev.var ?h0 ?_);(case h0=>rfl))
 |((with_reducible refine' Ev.draw ?h0 ?_);(case h0=>rfl))
 |((with_reducible refine' Ev.SM ?h0 ?_);(case h0=>rfl))
 |((with_reducible refine' Sv.append ?h0 ?_);(case h0=>rfl))
 |((with_reducible refine' Sv.lq ?h0 ?_);(case h0=>rfl))
 |((with_reducible refine' Gv.tup ?h0 ?_);(case h0=>rfl))
 |((with_reducible refine' R.at_ ?h0 ?_);(case h0=>first|rfl|assumption))
 |(with_reducible refine Ev.K8 ?_)|(with_reducible refine Ev.QA ?_)|(with_reducible refine Ev.listOf ?_)|(with_reducible refine Ev.sl ?_)|(with_reducible refine Ev.cat ?_)|(with_reducible refine Ev.Va ?_)
 |((with_reducible refine' Ev.VS ?h0 ?_);(case h0=>walk_at "fv"))
 |(with_reducible refine Ev.all ?_)|(with_reducible refine Ev.sum ?_)
 |((with_reducible refine' R.MB ?_))
 |((with_reducible refine' R.DK ?h0 ?_);(case h0=>first|exact R.dT (by omega)|exact R.Dw (by omega)|rfl))
 |((with_reducible refine' R.Aw ?h0 ?_);(case h0=>first|exact R.dF (by omega)|exact R.CC (by omega)|exact Bool.false_ne_true))
 |((with_reducible refine' R.Rc ?h0 ?_);(case h0=>first|walk_at "ds" |exact Nat.le_of_ble_eq_true rfl))))
local macro_rules| `(tactic|walk_at "wk")=> `(tactic|repeat (first|exact Wk.nil|apply Wk.no|apply Wk.eq))
section
variable{P:Program}{w:World}{K:PySem.W.Frag}{mg:Str->Option Value}{base:Heap}{f:Addr}{fd:FuncData}
def mD:DF:=fun ds Φ=>∃(p c:Int) (w:Nat) (r:List Int),ds=[.int p, .int c,aX r]/\0<p/\p<10^40/\bB p w r/\w<=10000/\0<=c/\c<p/\Φ true (aX (mulR p c r))
theorem CF:cF mD:=by
 intro ds Φ Ψ hm z
 obtain⟨p,c,w,r,e,h1,h2,h3,h4,h5,h6,q⟩:=hm
 exact⟨p,c,w,r,e,h1,h2,h3,h4,h5,h6,z _ _ q⟩
theorem Ua:bL ["p","factor","row"] ["p","factor","row"] (az kG):=⟨rfl,rfl,rfl,by decide+kernel,rfl,by decide+kernel,by decide+kernel⟩
theorem Sd(F:bD K "times" "times" kG f fd):
  bx P w K mg base bA 1 f fd ["p","factor","row"] (aZ 3 mD):=by
 refine F.ok Ua (fun vs H Q E h=>h.1) (fun cdv A outer s H vs Q E hr h=>?_)
 obtain⟨_,nb,ds,hlive,hds,hF⟩:=h
 obtain⟨Φ,aG,hF⟩:∃Φ:Pd,(∀f d v H',Φ f d->bf H H'->af (fun a=>nb a\/(f=true/\H a≠none)) H' d v->Q v H')/\mD ds Φ:=⟨_,fun f d v H' q=>q v H',hF⟩
 obtain⟨p,c,w,r,rfl,hp,dD,hr,hw,c0,c1,q⟩:=hF
 refine⟨_,(@aE _ _ _ (@aQ _ _ _ _ (dJ (cz.of (show cK (az kG) ["p","factor","row"] _ ["number","p","factor"] [none,some 0,some 1]=true by decide+kernel)) (@eu _ _ _ _ (pv 2)) (fun _ _ _ _=>⟨(aO (i:=0) (by show List.Nodup (["number","p","factor"]:List Str);decide+kernel) rfl (Or.inl rfl)),gk,(@aA _ _ _ _ _ _ _ _ dj (@aA _ _ _ _ _ _ _ _ ez (pv 2) (pv 0)) (pv 1))⟩)))),?_⟩
 refine Sv.dY hlive hds aG (ρ:=[.d false _, .d false _, .d false _]) rfl ?_
 clear aG hds
 have hrl:(r.map PyData.int).length=r.length:=List.length_map ..
 have hl:=hr.len
 have hsm:∀x:Int,0<=x->x<=p->Sm x:=fun x x0 x1=>by unfold Sm;omega
 walk_at "dt"
 refine aC.ev (aC.iE (by decide) rfl ?_)
 walk_at "dt"
 refine fun v=>⟨true,fun i ds=>ds=((r.take i).map fun x=>c*x%p).map PyData.int,rfl,?_,?_⟩
 ·rintro i d ds hd hl' rfl
  obtain⟨x,hx,rfl⟩:=eF hd
  obtain⟨x0,x1⟩:=hr.rg x (List.mem_of_getElem? hx)
  have s1:=hsm c c0 (by omega)
  have s2:=hsm x x0 (by omega)
  walk_at "dt"
  refine⟨by walk_at "wk",?_⟩
  walk_at "dt"
  show _=List.map PyData.int (List.map _ (List.take (i+1) r))
  rw[take_snoc hx,List.map_append,List.map_append]
  rfl
 rintro ds hl' rfl
 rw[hrl,List.take_length]
 exact q
theorem g5:bL ["p","b","last_rest","last_times","rest","times","quotient","next_rest","next_times"] ["p","b"] (az mV):=⟨rfl,rfl,rfl,by decide+kernel,rfl,by decide+kernel,by decide+kernel⟩
theorem Wt(F:bD K "inverse" "inverse" mV f fd)(ql:Callee P w K mg base "times" 1 ["p","factor","row"] (aZ 3 mD)):
  bx P w K mg base bA 2 f fd ["p","b"] pS:=by
 refine F.ok g5 (fun vs H Q E h=>?_) (fun cdv A outer s H vs Q E hr h=>?_)
 ·obtain⟨p,b,rfl,hp,hp3,hb,q⟩:=h
  rfl
 obtain⟨p,b,rfl,hp,hp3,hb,q⟩:=h
 refine⟨_,(@aq _ _ _ _ _ (@aM _ _ (2) _ _ _ _ g5.nd rfl (Or.inl rfl) (pv 0) (by rfl) (by first|exact .inl rfl|exact .inr rfl|assumption)) (@aq _ _ _ _ _ (@aM _ _ (3) _ _ _ _ g5.nd rfl (Or.inl rfl) aj (by rfl) (by first|exact .inl rfl|exact .inr rfl|assumption)) (@aq _ _ _ _ _ (@aM _ _ (4) _ _ _ _ g5.nd rfl (Or.inl rfl) (@aA _ _ _ _ _ _ _ _ dj (pv 1) (pv 0)) (by rfl) (by first|exact .inl rfl|exact .inr rfl|assumption)) (@aq _ _ _ _ _ (@aM _ _ (5) _ _ _ _ g5.nd rfl (Or.inl rfl) aj (by rfl) (by first|exact .inl rfl|exact .inr rfl|assumption)) (@aq _ _ _ _ _ (@EW _ _ _ _ _ _ PassesOwn.never (@aS _ _ _ _ _ _ _ _ fL (pv 4) aj (aK _)) (@aq _ _ _ _ _ (@aM _ _ (6) _ _ _ _ g5.nd rfl (Or.inl rfl) (@aA _ _ _ _ _ _ _ _ o8 (pv 2) (pv 4)) (by rfl) (by first|exact .inl rfl|exact .inr rfl|assumption)) (@aq _ _ _ _ _ (@aM _ _ (7) _ _ _ _ g5.nd rfl (Or.inl rfl) (@aA _ _ _ _ _ _ _ _ iD (pv 2) (@aA _ _ _ _ _ _ _ _ ez (pv 6) (pv 4))) (by rfl) (by first|exact .inl rfl|exact .inr rfl|assumption)) (@aq _ _ _ _ _ (@aM _ _ (8) _ _ _ _ g5.nd rfl (Or.inl rfl) (@aA _ _ _ _ _ _ _ _ iD (pv 3) (@aA _ _ _ _ _ _ _ _ ez (pv 6) (pv 5))) (by rfl) (by first|exact .inl rfl|exact .inr rfl|assumption)) (@aq _ _ _ _ _ (@aM _ _ (2) _ _ _ _ g5.nd rfl (Or.inl rfl) (pv 4) (by rfl) (by first|exact .inl rfl|exact .inr rfl|assumption)) (@aq _ _ _ _ _ (@aM _ _ (3) _ _ _ _ g5.nd rfl (Or.inl rfl) (pv 5) (by rfl) (by first|exact .inl rfl|exact .inr rfl|assumption)) (@aq _ _ _ _ _ (@aM _ _ (4) _ _ _ _ g5.nd rfl (Or.inl rfl) (pv 7) (by rfl) (by first|exact .inl rfl|exact .inr rfl|assumption)) (@aE _ _ _ (@aM _ _ (5) _ _ _ _ g5.nd rfl (Or.inl rfl) (pv 8) (by rfl) (by first|exact .inl rfl|exact .inr rfl|assumption)))))))))) (@aE _ _ _ (@aQ _ _ _ _ (@aA _ _ _ _ _ _ _ _ dj (pv 3) (pv 0))))))))),?_⟩
 have hp2:=hp.1
 walk_at "st"
 refine IB (fun σ H1=>H1=H/\∃(L lt r t:Int) (x6 x7 x8:Option V),σ=[some (.int p),some (.int b),some (.int L),some (.int lt),some (.int r),some (.int t),x6,x7,x8]/\Eu p b L lt r t) (fun(σ:St) (_:Hp)=>match σ[4]? with|some (some (V.int r))=>r.toNat|_=>0) ⟨rfl,_,_,_,_,_,_,_,rfl,Eu.start hp2⟩ ?_ ?_
 ·rintro σ H1 ⟨rfl,L,lt,r,t,x6,x7,x8,rfl,E⟩
  obtain⟨t1,t2⟩:=E.tb
  have e1:=E.l0
  have e2:=E.r0
  have e3:=E.lp
  have e4:=E.rp
  walk_at "st"
  refine mR (fun c=>?_) (fun c=>?_)
  ·have c:r≠0:=of_decide_eq_true c
   have hr:0<r:=by omega
   have q1:0<=L/r:=Int.ediv_nonneg (by omega) (by omega)
   have q2:L/r<=L:=Int.ediv_le_self _ (by omega)
   obtain⟨N1,N2⟩:=E.next hr
   walk_at "st"
   refine⟨⟨rfl,_,_,_,_,_,_,_,rfl,N1⟩,?_⟩
   show(L-L/r*r).toNat<r.toNat
   omega
  ·have c:r=0:=by simpa using c
   subst c
   walk_at "st"
   exact q _ (Int.emod_nonneg _ (by omega)) (Int.emod_lt_of_pos _ (by omega)) (E.fin hp hb)
 ·exact fun σ H Q Q' h ⟨v,e,s,k,ek,z⟩=>⟨v,e,s,k,ek,h _ _ z⟩
theorem oq:bL ["p","pairs","word","reached","place","factor"] ["p","pairs","word"] (az mq):=⟨rfl,rfl,rfl,by decide+kernel,rfl,by decide+kernel,by decide+kernel⟩
theorem Uw(F:bD K "total" "total" mq f fd):
    bx P w K mg base bA 1 f fd ["p","pairs","word"] tX:=by
  refine F.ok oq (fun vs H Q E h=>?_) (fun cdv A outer s H vs Q E hr h=>?_)
  · obtain⟨nb,p,va,vc,prs,wd,rfl,hA,hC,hp,h1,h2,q⟩:=h
    rfl
  obtain⟨nb,p,va,vc,prs,wd,rfl,hA,hC,hp,h1,h2,q⟩:=h
  refine⟨_,(@aq _ _ _ _ _ (@aM _ _ (3) _ _ _ _ oq.nd rfl (Or.inl rfl) aj (by rfl) (by first|exact .inl rfl|exact .inr rfl|assumption)) (@aq _ _ _ _ _ (@fu _ _ _ _ _ _ _ _ PassesOwn.never rfl (@eu _ _ _ _ (pv 1)) (FA rfl (@bO _ _ _ _ _ (aO (i:=4) oq.nd rfl (Or.inl rfl)) (@bO _ _ _ _ _ (aO (i:=5) oq.nd rfl (Or.inl rfl)) fQ (by rfl)) (by rfl))) (@aE _ _ _ (@bS _ _ _ _ _ _ _ _ (@aS _ _ _ _ _ _ _ _ jb (@ay _ _ _ _ _ _ _ aR (pv 2) (pv 4) (fun _ _=>rfl)) dS (aK _)) (@aE _ _ _ (@aM _ _ (3) _ _ _ _ oq.nd rfl (Or.inl rfl) (@aA _ _ _ _ _ _ _ _ dj (@aA _ _ _ _ _ _ _ _ cJ (pv 3) (@aA _ _ _ _ _ _ _ _ ez (pv 5) (@ay _ _ _ _ _ _ _ aR (pv 2) (pv 4) (fun _ _=>rfl)))) (pv 0)) (by rfl) (by first|exact .inl rfl|exact .inr rfl|assumption))) cg)) (by intro _;rfl)) (@aE _ _ _ (@aQ _ _ _ _ (pv 3))))),?_⟩
  obtain⟨a,xs,rfl,na,ha,da⟩:=hA.cO
  obtain⟨c,ws,rfl,nc,hc,dc⟩:=hC.cO
  have FJ:=da.length
  rw[List.length_map] at FJ
  have ew:=Dg dc
  subst ew
  walk_at "st"
  refine R.qC (aL.of ha) ?_
  refine BD (xs:=xs) (fun i σ H1=>H1=H/\∃(r:Int) (x y:Option V),σ=[some (.int p),some (.ref a),some (.ref c),some (.int r),x,y]/\r=aV (prs.take i) wd%p) ⟨rfl,0,none,none,rfl,by simp[aV]⟩ ?_ ?_ ?_
  · rintro i σ H1 hi ⟨rfl,_⟩
    exact aL.of ha
  · rintro i x σ H1 hx ⟨rfl,r,y,z,rfl,hr⟩
    have hi:i<prs.length:=by have:=(List.getElem?_eq_some_iff.mp hx).1;omega
    obtain⟨x',hx',dx⟩:=da.get (i:=i) (by rw[List.getElem?_map,List.getElem?_eq_getElem hi];rfl)
    rw[hx] at hx';cases hx'
    obtain⟨t,rfl,nt,ht⟩:=OB dx
    obtain⟨g1,g2,g3⟩:=h1 _ (List.getElem_mem hi)
    have hk:prs[i].fst.toNat<wd.length:=by omega
    have hat:aU (wd.map su) prs[i].fst=some (su wd[prs[i].fst.toNat]):=cW g1 (by rw[List.getElem?_map,List.getElem?_eq_getElem hk];rfl)
    have jL:fP wd prs[i]=match wd[prs[i].fst.toNat] with|some x=>prs[i].snd*x|none=>0:=by
      unfold fP
      rw[List.getElem?_eq_getElem hk]
      cases wd[prs[i].fst.toNat]<;>rfl
    have hs2:∀x,wd[prs[i].fst.toNat]=some x->Sm x:=fun x e=>h2 x (by rw[<-e];exact List.getElem_mem hk)
    have hd:=xq (wd:=wd) hi
    refine R.Oh (fJ.of ht) rfl ?_
    walk_at "st"
    refine R.sq hc hat ?_
    walk_at "st"
    generalize wd[prs[i].fst.toNat]=o at hat jL hs2⊢
    cases o with
    | none =>
      refine R.El ?_
      walk_at "st"
      refine⟨rfl,_,_,_,rfl,?_⟩
      rw[hd,jL,hr,Int.add_zero]
    | some x =>
      have IG:=hs2 x rfl
      refine R.CI ?_
      walk_at "st"
      refine R.sq hc hat ?_
      refine R.rI (Or.inr ⟨g3,IG⟩) ?_
      walk_at "st"
      refine⟨rfl,_,_,_,rfl,?_⟩
      rw[hd,jL,hr,Int.emod_add_emod]
  · rintro σ H1 ⟨rfl,r,x,y,rfl,hr⟩
    walk_at "st"
    rw[FJ,List.take_length] at hr
    rw[hr]
    exact q
def nG:DF:=fun ds Φ=>∃wd:Wo,ds=[cX wd]/\wd.length<=10000/\Φ true (.list ((nK wd).map .int))
theorem CS:cF nG:=by
 intro ds Φ Ψ hm z
 obtain⟨wd,e,h,q⟩:=hm
 exact⟨wd,e,h,z _ _ q⟩
theorem JF:bL ["word"] ["word"] (az lA):=⟨rfl,rfl,rfl,by decide+kernel,rfl,by decide+kernel,by decide+kernel⟩
theorem Wh(F:bD K "lost_of" "lost_of" lA f fd)(fR:mg "enumerate"=none):
    bx P w K mg base bA 1 f fd ["word"] (aZ 1 nG):=by
  refine F.ok JF (fun vs H Q E h=>h.1) (fun cdv A outer s H vs Q E hr h=>?_)
  obtain⟨_,nb,ds,hlive,hds,hF⟩:=h
  obtain⟨Φ,aG,hF⟩:∃Φ:Pd,(∀f d v H',Φ f d->bf H H'->af (fun a=>nb a\/(f=true/\H a≠none)) H' d v->Q v H')/\nG ds Φ:=⟨_,fun f d v H' q=>q v H',hF⟩
  obtain⟨wd,rfl,hl,q⟩:=hF
  refine⟨_,(@aE _ _ _ (@aQ _ _ _ _ (dJ (cz.of (show cK (az lA) ["word"] _ ["place","letter"] [none,none]=true by decide+kernel)) (@qj _ (K) _ _ _ _ _ _ _ rfl rfl fR (pv 0) (by rfl)) (fun _ _ _ _=>⟨(@gh _ (K) _ _ _ (2) _ rfl rfl (@bO _ _ _ _ _ (aO (i:=0) (by show List.Nodup (["place","letter"]:List Str);decide+kernel) rfl (Or.inl rfl)) (@bO _ _ _ _ _ (aO (i:=1) (by show List.Nodup (["place","letter"]:List Str);decide+kernel) rfl (Or.inl rfl)) fQ (by rfl)) (by rfl)) (by rfl) (by rfl)),(gJ (@aS _ _ _ _ _ _ _ _ mO (pv 1) dS (aK _))),(pv 0)⟩)))),?_⟩
  refine Sv.dY hlive hds aG (ρ:=[.d false _]) rfl ?_
  clear aG hds
  have pH:(wd.map bw).length=wd.length:=List.length_map ..
  walk_at "dt"
  refine aC.ev (aC.Jq (by decide) rfl ?_)
  walk_at "dt"
  refine fun v=>⟨true,fun i ds=>ds=(((List.range i).filter fun j=>wd[j]?==some none).map fun(j:Nat)=>(j:Int)).map PyData.int,rfl,?_,?_⟩
  · rintro i d ds ⟨e,he,rfl⟩ hl' rfl
    obtain⟨o,ho,rfl⟩:=eF he
    walk_at "dt"
    refine⟨by walk_at "wk",?_⟩
    walk_at "dt"
    rw[iz]
    cases o with
    | none =>
      walk_at "dt"
      show _=List.map _ (List.map _ (List.filter _ (List.range (i+1))))
      rw[List.range_succ,List.filter_append,List.filter_cons_of_pos (by rw[ho];rfl)]
      simp
    | some x =>
      walk_at "dt"
      show _=List.map _ (List.map _ (List.filter _ (List.range (i+1))))
      rw[List.range_succ,List.filter_append,List.filter_cons_of_neg (by rw[ho];simp)]
      simp
  · rintro ds hl' rfl
    rw[pH]
    exact q
def oB:DF:=fun ds Φ=>∃(p n:Int) (cs:List aH),ds=[bz p n cs]/\dw p n cs/\∀f:Bool,Φ f (.list ((dB n.toNat cs.length cs).map aX))
theorem DV:cF oB:=by
 intro ds Φ Ψ hm z
 obtain⟨p,n,cs,e,h1,q⟩:=hm
 exact⟨p,n,cs,e,h1,fun f=>z _ _ (q f)⟩
theorem kj:bL ["net","rows","c","pairs","row","place","factor"] ["net"] (az mX):=⟨rfl,rfl,rfl,by decide+kernel,rfl,by decide+kernel,by decide+kernel⟩
theorem Lx(F:bD K "rows_of" "rows_of" mX f fd)(fR:mg "enumerate"=none)(bT:mg "len"=none):
  bx P w K mg base bA 1 f fd ["net"] (aZ 1 oB):=by
 refine F.ok kj (fun vs H Q E h=>h.1) (fun cdv A outer s H vs Q E hr h=>?_)
 obtain⟨_,nb,ds,hlive,hds,hF⟩:=h
 obtain⟨Φ,aG,hF⟩:∃Φ:Pd,(∀f d v H',Φ f d->bf H H'->af (fun a=>nb a\/(f=true/\H a≠none)) H' d v->Q v H')/\oB ds Φ:=⟨_,fun f d v H' q=>q v H',hF⟩
 obtain⟨p,n,cs,rfl,hN,q⟩:=hF
 refine⟨_,(@aq _ _ _ _ _ (@aM _ _ (1) _ _ _ _ kj.nd rfl (Or.inl rfl) (@dR _ _ _ _ ak) (by rfl) (by first|exact .inl rfl|exact .inr rfl|assumption)) (@aq _ _ _ _ _ (@fu _ _ _ _ _ _ _ _ PassesOwn.never rfl (@qj _ (K) _ _ _ _ _ _ _ rfl rfl fR (@ay _ _ _ _ _ _ (aY K) bu (pv 0) aj (fun _ _=>rfl)) (by rfl)) (@gh _ (K) _ _ _ (2) _ rfl rfl (@bO _ _ _ _ _ (aO (i:=2) kj.nd rfl (Or.inl rfl)) (@bO _ _ _ _ _ (aO (i:=3) kj.nd rfl (Or.inl rfl)) fQ (by rfl)) (by rfl)) (by rfl) (by rfl)) (@aq _ _ _ _ _ (@aM _ _ (4) _ _ _ _ kj.nd rfl (Or.inl rfl) (@aA _ _ _ _ _ _ _ _ qy (@dR _ _ _ _ (@aa _ _ _ _ _ aj ak rfl)) (@aA _ _ _ _ _ _ _ _ cJ (@ay _ _ _ _ _ _ (aY K) bu (pv 0) aj (fun _ _=>rfl)) (@cy _ _ _ _ _ _ _ _ (fk K) gx rfl bT PySem.boot_len (@aa _ _ _ _ _ (@ay _ _ _ _ _ _ (aY K) bu (pv 0) aj (fun _ _=>rfl)) ak rfl) (by decide) (by decide) (by rfl) (by rfl)))) (by rfl) (by first|exact .inl rfl|exact .inr rfl|assumption)) (@aq _ _ _ _ _ (@fu _ _ _ _ _ _ _ _ PassesOwn.never rfl (@eu _ _ _ _ (pv 3)) (@gh _ (K) _ _ _ (2) _ rfl rfl (@bO _ _ _ _ _ (aO (i:=5) kj.nd rfl (Or.inl rfl)) (@bO _ _ _ _ _ (aO (i:=6) kj.nd rfl (Or.inl rfl)) fQ (by rfl)) (by rfl)) (by rfl) (by rfl)) (@aE _ _ _ (@dX _ _ _ _ _ _ (pv 6) (fO (pv 4) (pv 5) set_list) (by rfl) (by rfl) (by rfl))) (by intro _;rfl)) (@aq _ _ _ _ _ (@dX _ _ _ _ _ _ aj (fO (pv 4) (@aA _ _ _ _ _ _ _ _ cJ (@ay _ _ _ _ _ _ (aY K) bu (pv 0) aj (fun _ _=>rfl)) (pv 2)) set_list) (by rfl) (by rfl) (by rfl)) (@aE _ _ _ (@AA _ _ _ _ (EU PySem.F.plainAttrs_list PySem.F.slot_list_append PySem.F.type_list_append AJ (pv 1) (@aa _ _ _ _ _ (pv 4) ak rfl)) (by rfl)))))) (by intro _;rfl)) (@aE _ _ _ (@aQ _ _ _ _ (pv 1))))),?_⟩
 refine Sv.dY hlive hds aG (ρ:=[.d false _, .no, .no, .no, .no, .no, .no]) rfl ?_
 clear aG hds
 have n0:=hN.n0
 have n1:=hN.n1
 have hcl:=hN.cl
 have jE:(cs.map bH).length=cs.length:=List.length_map ..
 refine Sv.seq ?_
 refine Sv.Fp ?_
 intro A1
 refine Sv.seq ?_
 refine Sv.As ?_
 walk_at "dt"
 refine fun v=>⟨fun i ρ=>∃(f:Bool) (x2 x3 x4 x5 x6:Sl),ρ=[.d false (bz p n cs), .own A1 f ((dB n.toNat cs.length (cs.take i)).map aX),x2,x3,x4,x5,x6],⟨_,_,_,_,_,_,rfl⟩,?_,?_⟩
 ·rintro i d ρ ⟨e,he,rfl⟩ ⟨f,x2,x3,x4,x5,x6,rfl⟩
  obtain⟨prs,bZ,rfl⟩:=eF he
  have hi:=(List.getElem?_eq_some_iff.mp bZ).1
  obtain⟨hnd,hpl,br⟩:=hN.ok prs (List.mem_of_getElem? bZ)
  have oA:(prs.map pairD).length=prs.length:=List.length_map ..
  generalize gM:(ji (eE (bV mL _ _) (dN 4)) _:TS)=tl
  walk_at "dt"
  subst gM
  refine Sv.seq ?_
  refine Sv.oK (aC.pX ?_)
  walk_at "dt"
  intro g
  have eN:(n+((cs.map bH).length:Int)).toNat=n.toNat+cs.length:=by rw[jE];omega
  rw[eN]
  intro A4
  have hz:List.replicate (n.toNat+cs.length) (PyData.int 0)=(List.replicate (n.toNat+cs.length) (0:Int)).map PyData.int:=by rw[List.map_replicate]
  rw[hz]
  refine Sv.seq ?_
  refine Sv.forL ?_
  walk_at "dt"
  refine fun v2=>⟨fun j ρ=>∃(g:Bool) (x5 x6:Sl),ρ=[.d false (bz p n cs), .own A1 f ((dB n.toNat cs.length (cs.take i)).map aX), .d true (.int i), .d false (bH prs), .own A4 g ((fj (List.replicate (n.toNat+cs.length) 0) (prs.take j)).map .int),x5,x6],⟨_,_,_,rfl⟩,?_,?_⟩
  ·rintro j d ρ hd ⟨g,x5,x6,rfl⟩
   obtain⟨pr,jf,rfl⟩:=eF hd
   obtain⟨a0,a1,a2,a3⟩:=br pr (List.mem_of_getElem? jf)
   walk_at "dt"
   have hix:cH ((fj (List.replicate (n.toNat+cs.length) 0) (prs.take j)).map PyData.int).length pr.1=some pr.1.toNat:=by
    unfold cH
    rw[List.length_map,oQ,List.length_replicate]
    repeat (first|rw[if_pos (by omega)]|rw[if_neg (by omega)])
   refine⟨_,_,rfl,hix,?_⟩
   have es:fj (List.replicate (n.toNat+cs.length) 0) (prs.take (j+1))=(fj (List.replicate (n.toNat+cs.length) 0) (prs.take j)).set pr.1.toNat pr.2:=by
    rw[take_snoc jf]
    unfold fj
    rw[List.foldl_append]
    rfl
   rw[<-List.map_set,<-es]
   exact⟨_,_,_,rfl⟩
  ·rintro ρ ⟨g,x5,x6,rfl⟩
   rw[oA,List.take_length]
   have hix:cH ((fj (List.replicate (n.toNat+cs.length) 0) prs).map PyData.int).length (n+(i:Int))=some (n.toNat+i):=by
    unfold cH
    rw[List.length_map,oQ,List.length_replicate]
    repeat (first|rw[if_pos (by omega)]|rw[if_neg (by omega)])
    congr 1
    omega
   refine Sv.seq ?_
   refine Sv.lq rfl ?_
   walk_at "dt"
   refine⟨_,_,rfl,hix,?_⟩
   refine Sv.jB 4 rfl ?_
   refine Sv.append rfl ?_
   refine Ev.var rfl ?_
   have hrl:(dB n.toNat cs.length (cs.take i)).length=i:=by rw[nM,List.length_take];omega
   have es:dB n.toNat cs.length (cs.take (i+1))=dB n.toNat cs.length (cs.take i)++[jZ n.toNat cs.length i prs]:=by
    unfold dB
    rw[take_snoc bZ,List.zipIdx_append,List.map_append]
    simp only[List.zipIdx_cons,List.zipIdx_nil,List.map_cons,List.map_nil,List.length_take,Nat.zero_add]
    rw[Nat.min_eq_left (by omega)]
   refine⟨by rw[List.length_map,hrl];omega,?_⟩
   rw[<-List.map_set]
   have e2:List.map aX (dB n.toNat cs.length (cs.take i))++[PyData.list (((fj (List.replicate (n.toNat+cs.length) 0) prs).set (n.toNat+i) 1).map PyData.int)]=List.map aX (dB n.toNat cs.length (cs.take (i+1))):=by
    rw[es,List.map_append]
    rfl
   rw[e2]
   exact⟨_,_,_,_,_,_,rfl⟩
 ·rintro ρ ⟨f,x2,x3,x4,x5,x6,rfl⟩
  rw[jE,List.take_length]
  refine Sv.jB 1 rfl ?_
  walk_at "dt"
  exact q _
def cP(T:List (Nat×Nat)):Ks:=T.map fun q=>((q.1:Int), .int (q.2:Int))
def pZ:DF:=fun ds Φ=>∃(p:Int) (w:Nat) (R:List (List Int)) (T:List (Nat×Nat)) (pl:Nat),ds=[.list (R.map aX), .dict ((cP T).map cG), .int pl]/\iK p w R/\0<p/\p<10^40/\R.length<=10000/\T.length<=10000/\pl<w/\w<=10000/\
 ((∀i<R.length,i∉T.map (·.1)->gI (R.getD i []) pl=0)->Φ true .none)/\(∀k:Nat,k<R.length->k∉T.map (·.1)->gI (R.getD k []) pl≠0->Φ true (.int k))
theorem IU:cF pZ:=by
 intro ds Φ Ψ hm z
 obtain⟨p,w,R,T,pl,e,h1,h2,h3,h4,h5,h6,h7,q1,q2⟩:=hm
 exact⟨p,w,R,T,pl,e,h1,h2,h3,h4,h5,h6,h7,fun h=>z _ _ (q1 h),fun k a b c=>z _ _ (q2 k a b c)⟩
theorem wF(T:List (Nat×Nat))(k:Nat):jH (cP T) (k:Int)=decide (k∈T.map (·.1)):=by
 unfold cP jH
 rw[Bool.eq_iff_iff,List.any_eq_true,decide_eq_true_eq]
 constructor
 ·rintro⟨q,hq,e⟩
  obtain⟨t,ht,rfl⟩:=List.mem_map.mp hq
  have:((t.1:Nat):Int)=k:=by simpa using e
  exact List.mem_map.mpr ⟨t,ht,by omega⟩
 ·intro h
  obtain⟨t,ht,e⟩:=List.mem_map.mp h
  exact⟨_,List.mem_map_of_mem ht,by simp[e]⟩
theorem xm:bL ["rows","taken","place","k","row"] ["rows","taken","place"] (az mj):=⟨rfl,rfl,rfl,by decide+kernel,rfl,by decide+kernel,by decide+kernel⟩
theorem O0(F:bD K "first_with" "first_with" mj f fd)(fR:mg "enumerate"=none):
  bx P w K mg base bA 1 f fd ["rows","taken","place"] (aZ 3 pZ):=by
 refine F.ok xm (fun vs H Q E h=>h.1) (fun cdv A outer s H vs Q E hr h=>?_)
 obtain⟨_,nb,ds,hlive,hds,hF⟩:=h
 obtain⟨Φ,aG,hF⟩:∃Φ:Pd,(∀f d v H',Φ f d->bf H H'->af (fun a=>nb a\/(f=true/\H a≠none)) H' d v->Q v H')/\pZ ds Φ:=⟨_,fun f d v H' q=>q v H',hF⟩
 obtain⟨p,w,R,T,pl,rfl,hR,hp,dD,rR,iV,hpl,hw,q1,q2⟩:=hF
 refine⟨_,(@aq _ _ _ _ _ (@fu _ _ _ _ _ _ _ _ PassesOwn.never rfl (@qj _ (K) _ _ _ _ _ _ _ rfl rfl fR (pv 0) (by rfl)) (@gh _ (K) _ _ _ (2) _ rfl rfl (@bO _ _ _ _ _ (aO (i:=3) xm.nd rfl (Or.inl rfl)) (@bO _ _ _ _ _ (aO (i:=4) xm.nd rfl (Or.inl rfl)) fQ (by rfl)) (by rfl)) (by rfl) (by rfl)) (@aE _ _ _ (@bS _ _ _ _ _ _ _ _ (PW.pt (iF (@aS _ _ _ _ _ _ _ _ (MU hr.units) (pv 3) (pv 1) (by with_unfolding_all rfl)) (iY (@aS _ _ _ _ _ _ _ _ fL (@ay _ _ _ _ _ _ (bh K) aR (pv 4) (pv 2) (fun _ _=>rfl)) aj (aK _))))) (@aE _ _ _ (@aQ _ _ _ _ (pv 3))) cg)) (by intro _;rfl)) (@aE _ _ _ (@aQ _ _ _ _ dS))),?_⟩
 refine Sv.dY hlive hds aG (ρ:=[.d false _, .d false _, .d false _, .no, .no]) rfl ?_
 clear aG hds
 have nB:(R.map aX).length=R.length:=List.length_map ..
 refine Sv.seq ?_
 refine Sv.As ?_
 walk_at "dt"
 refine fun v=>⟨fun i ρ=>∃(x3 x4:Sl),ρ=[.d false (.list (R.map aX)), .d false (.dict ((cP T).map cG)), .d false (.int pl),x3,x4]/\∀j<i,j∉T.map (·.1)->gI (R.getD j []) pl=0,⟨_,_,rfl,fun j hj=>absurd hj (Nat.not_lt_zero _)⟩,?_,?_⟩
 ·rintro i d ρ ⟨e,he,rfl⟩ ⟨x3,x4,rfl,hz⟩
  obtain⟨r,hr,rfl⟩:=eF he
  have hi:=(List.getElem?_eq_some_iff.mp hr).1
  have hrr:=hR r (List.mem_of_getElem? hr)
  have hg:R.getD i []=r:=by rw[List.getD_eq_getElem?_getD,hr];rfl
  have hat:aU (r.map PyData.int) (pl:Int)=some (.int (gI r pl)):=cW (by omega) (by rw[List.getElem?_map,Int.toNat_natCast,hrr.at hpl];rfl)
  have uT:=wF T i
  walk_at "dt"
  refine Ev.Ge ?_
  walk_at "dt"
  refine⟨cP T,rfl,_,rfl,?_⟩
  rw[uT]
  have hnext:(i∉T.map (·.1)->gI r pl=0)->∀j<i+1,j∉T.map (·.1)->gI (R.getD j []) pl=0:=fun h j hj hn=>by
   by_cases c:j=i
   ·subst c;rw[hg];exact h hn
   ·exact hz j (by omega) hn
  by_cases c:i∈T.map (·.1)
  ·rw[if_neg (by simpa using c)]
   walk_at "dt"
   exact⟨_,_,rfl,hnext fun h=>absurd c h⟩
  ·rw[if_pos (by simpa using c)]
   walk_at "dt"
   by_cases c2:gI r pl=0
   ·walk_at "dt"
    exact⟨_,_,rfl,hnext fun _=>c2⟩
   ·walk_at "dt"
    exact q2 i hi c (by rw[hg];exact c2)
 ·rintro ρ ⟨x3,x4,rfl,hz⟩
  walk_at "dt"
  refine q1 fun i hi=>hz i (by rw[nB];exact hi)
def rK:DF:=fun ds Φ=>∃(p c:Int) (w:Nat) (r o:List Int),ds=[.int p,aX r, .int c,aX o]/\0<p/\p<10^40/\bB p w r/\bB p w o/\w<=10000/\0<=c/\c<p/\∀f:Bool,Φ f (aX (dQ p c r o))
theorem Mn:cF rK:=by
 intro ds Φ Ψ hm z
 obtain⟨p,c,w,r,o,e,h1,h2,h3,h4,h5,h6,h7,q⟩:=hm
 exact⟨p,c,w,r,o,e,h1,h2,h3,h4,h5,h6,h7,fun f=>z _ _ (q f)⟩
theorem MJ:bL ["p","row","factor","own"] ["p","row","factor","own"] (az kK):=⟨rfl,rfl,rfl,by decide+kernel,rfl,by decide+kernel,by decide+kernel⟩
theorem Ij(F:bD K "less" "less" kK f fd)(vS:mg "zip"=none):
  bx P w K mg base bA 1 f fd ["p","row","factor","own"] (aZ 4 rK):=by
 refine F.ok MJ (fun vs H Q E h=>h.1) (fun cdv A outer s H vs Q E hr h=>?_)
 obtain⟨_,nb,ds,hlive,hds,hF⟩:=h
 obtain⟨Φ,aG,hF⟩:∃Φ:Pd,(∀f d v H',Φ f d->bf H H'->af (fun a=>nb a\/(f=true/\H a≠none)) H' d v->Q v H')/\rK ds Φ:=⟨_,fun f d v H' q=>q v H',hF⟩
 obtain⟨p,c,w,r,o,rfl,hp,dD,hr,ho,hw,c0,c1,q⟩:=hF
 refine⟨_,(@aq _ _ _ _ _ (@bS _ _ _ _ _ _ _ _ (@aS _ _ _ _ _ _ _ _ bX (pv 2) aj (aK _)) (@aE _ _ _ (@aQ _ _ _ _ (pv 1))) cg) (@aE _ _ _ (@aQ _ _ _ _ (dJ (cz.of (show cK (az kK) ["p","row","factor","own"] _ ["number","other","p","factor"] [none,none,some 0,some 2]=true by decide+kernel)) (@Ub _ (K) _ _ _ _ _ _ _ _ _ rfl rfl vS (pv 1) (pv 3) (by rfl) (by rfl) (by rfl)) (fun _ _ _ _=>⟨(@gh _ (K) _ _ _ (2) _ rfl rfl (@bO _ _ _ _ _ (aO (i:=0) (by show List.Nodup (["number","other","p","factor"]:List Str);decide+kernel) rfl (Or.inl rfl)) (@bO _ _ _ _ _ (aO (i:=1) (by show List.Nodup (["number","other","p","factor"]:List Str);decide+kernel) rfl (Or.inl rfl)) fQ (by rfl)) (by rfl)) (by rfl) (by rfl)),gk,(@aA _ _ _ _ _ _ _ _ dj (@aA _ _ _ _ _ _ _ _ iD (pv 0) (@aA _ _ _ _ _ _ _ _ ez (pv 3) (pv 1))) (pv 2))⟩))))),?_⟩
 refine Sv.dY hlive hds aG (ρ:=[.d false _, .d false _, .d false _, .d false _]) rfl ?_
 clear aG hds
 have hrl:(r.map PyData.int).length=r.length:=List.length_map ..
 have gc:(o.map PyData.int).length=o.length:=List.length_map ..
 have hl:=hr.len
 have hl2:=ho.len
 have hsm:∀x:Int,0<=x->x<=p->Sm x:=fun x x0 x1=>by unfold Sm;omega
 have sc:∀L:List Int,cN (L.map PyData.int)=true:=fun L=>by unfold cN;simp[List.all_map,gp]
 walk_at "dt"
 by_cases cc:c=0
 ·rw[if_pos (decide_eq_true cc)]
  walk_at "dt"
  have:=q false
  rw[cc,Ry hr ho] at this
  exact this
 ·rw[if_neg (by simpa using cc)]
  walk_at "dt"
  refine aC.ev (aC.VZ (by decide) rfl ?_)
  walk_at "dt"
  refine⟨sc r,by omega,fun v=>?_⟩
  walk_at "dt"
  refine⟨sc o,by omega,fun v2=>⟨true,fun i ds=>ds=(dQ p c (r.take i) (o.take i)).map PyData.int,rfl,?_,?_⟩⟩
  ·rintro i d ds ⟨e,e2,he,he2,rfl⟩ hl' rfl
   obtain⟨x,hx,rfl⟩:=eF he
   obtain⟨y,hy,rfl⟩:=eF he2
   obtain⟨x0,x1⟩:=hr.rg x (List.mem_of_getElem? hx)
   obtain⟨y0,y1⟩:=ho.rg y (List.mem_of_getElem? hy)
   have s1:=hsm c c0 (by omega)
   have s2:=hsm x x0 (by omega)
   have s3:=hsm y y0 (by omega)
   walk_at "dt"
   refine⟨by walk_at "wk",?_⟩
   walk_at "dt"
   show _=List.map PyData.int (dQ p c (r.take (i+1)) (o.take (i+1)))
   unfold dQ
   rw[take_snoc hx,take_snoc hy,List.zipWith_append (by rw[List.length_take,List.length_take];omega),List.map_append]
   rfl
  rintro ds hl' rfl
  rw[hrl,List.take_length,show r.length=o.length by omega,List.take_length]
  exact q _
def rP:DF:=fun ds Φ=>∃(p:Int) (w:Nat) (R:List (List Int)) (k pl:Nat),ds=[.int p, .list (R.map aX), .int k, .int pl]/\eW p/\p<10^40/\iK p w R/\R.length<=9000/\k<R.length/\pl<w/\w<=9000/\gI (R.getD k []) pl≠0/\
 ∀(f:Bool) (inv:Int),(∃j,inv*gI (R.getD k []) pl=1+p*j)->Φ f (.list ((ff p inv R k pl).map aX))
theorem Uc:cF rP:=by
 intro ds Φ Ψ hm z
 obtain⟨p,w,R,k,pl,e,h1,h2,h3,h4,h5,h6,h7,h8,q⟩:=hm
 exact⟨p,w,R,k,pl,e,h1,h2,h3,h4,h5,h6,h7,h8,fun f inv h=>z _ _ (q f inv h)⟩
theorem u9:bL ["p","rows","k","place","own","told"] ["p","rows","k","place"] (az kq):=⟨rfl,rfl,rfl,by decide+kernel,rfl,by decide+kernel,by decide+kernel⟩
theorem Ue(F:bD K "cleared" "cleared" kq f fd)(ql:Callee P w K mg base "times" 1 ["p","factor","row"] (aZ 3 mD))(uM:Callee P w K mg base "inverse" 2 ["p","b"] pS)(UW:Callee P w K mg base "less" 1 ["p","row","factor","own"] (aZ 4 rK)):
  bx P w K mg base bA 3 f fd ["p","rows","k","place"] (aZ 4 rP):=by
 refine F.ok u9 (fun vs H Q E h=>h.1) (fun cdv A outer s H vs Q E hr h=>?_)
 obtain⟨_,nb,ds,hlive,hds,hF⟩:=h
 obtain⟨Φ,aG,hF⟩:∃Φ:Pd,(∀f d v H',Φ f d->bf H H'->af (fun a=>nb a\/(f=true/\H a≠none)) H' d v->Q v H')/\rP ds Φ:=⟨_,fun f d v H' q=>q v H',hF⟩
 obtain⟨p,w,R,k,pl,rfl,hp,dD,hR,rR,hk,hpl,hw,hne,q⟩:=hF
 refine⟨_,(@aq _ _ _ _ _ (@aM _ _ (4) _ _ _ _ u9.nd rfl (Or.inr rfl) (@aI _ _ _ _ _ _ _ _ _ _ ql (hr.mono (by decide)) (@aa _ _ _ _ _ (pv 0) (@aa _ _ _ _ _ (@aI _ _ _ _ _ _ _ _ _ _ uM (hr.mono (by decide)) (@aa _ _ _ _ _ (pv 0) (@aa _ _ _ _ _ (@ay _ _ _ _ _ _ (bh K) aR (@ay _ _ _ _ _ _ (bh K) aR (pv 1) (pv 2) (fun _ _=>rfl)) (pv 3) (fun _ _=>rfl)) ak rfl) rfl) (by rfl) (by decide) (by rfl) (by rfl)) (@aa _ _ _ _ _ (@ay _ _ _ _ _ _ (bh K) aR (pv 1) (pv 2) (fun _ _=>rfl)) ak rfl) rfl) rfl) (by rfl) (by decide) (by rfl) (by rfl)) (by rfl) (by first|exact .inl rfl|exact .inr rfl|assumption)) (@aq _ _ _ _ _ (oz (i:=5) u9.nd rfl rfl (cz.of (show cK (az kq) ["p","rows","k","place","own","told"] _ ["row","p","place","own"] [none,some 0,some 3,some 4]=true by decide+kernel)) (@eu _ _ _ _ (pv 1)) (fun _ _ _ _=>⟨(aO (i:=0) (by show List.Nodup (["row","p","place","own"]:List Str);decide+kernel) rfl (Or.inl rfl)),gk,(@aI _ _ _ _ _ _ _ _ _ _ UW (hr.mono (by decide)) (@aa _ _ _ _ _ (pv 1) (@aa _ _ _ _ _ (pv 0) (@aa _ _ _ _ _ (@ay _ _ _ _ _ _ (bh K) aR (pv 0) (pv 2) (fun _ _=>rfl)) (@aa _ _ _ _ _ (pv 3) ak rfl) rfl) rfl) rfl) (by rfl) (by decide) (by rfl) (by rfl))⟩)) (@aq _ _ _ _ _ (@dX _ _ _ _ _ _ (pv 4) (fO (pv 5) (pv 2) set_list) (by rfl) (by rfl) (by rfl)) (@aE _ _ _ (@aQ _ _ _ _ (pv 5)))))),?_⟩
 refine Sv.dY hlive hds aG (ρ:=[.d false _, .d false _, .d false _, .d false _, .no, .no]) rfl ?_
 clear aG hds
 have p2:=hp.1
 have nB:(R.map aX).length=R.length:=List.length_map ..
 have iR:bB p w R[k]:=hR _ (List.getElem_mem hk)
 have hkk:R.getD k []=R[k]:=ic hk
 rw[hkk] at hne q
 have WS:aU (R.map aX) (k:Int)=some (aX R[k]):=cW (by omega) (by rw[List.getElem?_map,Int.toNat_natCast,List.getElem?_eq_getElem hk];rfl)
 have C4:∀r,bB p w r->aU (r.map PyData.int) (pl:Int)=some (.int (gI r pl)):=fun r h=>cW (by omega) (by rw[List.getElem?_map,Int.toNat_natCast,h.at hpl];rfl)
 have WK:=C4 R[k] iR
 obtain⟨g0,g1⟩:=iR.g (i:=pl) (by omega)
 have Sh:gI R[k] pl%p≠0:=by rw[Int.emod_eq_of_lt g0 g1];exact hne
 walk_at "dt"
 refine Ev.bI CF ?_
 walk_at "dt"
 refine Ev.inv ?_
 walk_at "dt"
 refine⟨p,gI R[k] pl,rfl,hp,dD,Sh,fun inv i0 i1 hinv=>?_⟩
 walk_at "dt"
 refine⟨rfl,p,inv,w,R[k],rfl,by omega,dD,iR,by omega,i0,i1,?_⟩
 obtain⟨own,hown⟩:∃own,mulR p inv R[k]=own:=⟨_,rfl⟩
 have V6:bB p w own:=by rw[<-hown];exact iR.mul (by omega)
 rw[hown]
 refine Gv.name ?_
 refine Sv.seq ?_
 refine Sv.AS ?_
 refine aC.iE (by decide) rfl ?_
 walk_at "dt"
 refine fun v=>⟨false,fun i ds=>ds=((R.take i).map fun r=>dQ p (gI r pl) r own).map aX,rfl,?_,?_⟩
 ·rintro i d ds hd hl' rfl
  obtain⟨r,hr,rfl⟩:=eF hd
  have hrr:=hR r (List.mem_of_getElem? hr)
  have WZ:=C4 r hrr
  obtain⟨r0,r1⟩:=hrr.g (i:=pl) (by omega)
  walk_at "dt"
  refine⟨by walk_at "wk",?_⟩
  walk_at "dt"
  refine Ev.bI Mn ?_
  walk_at "dt"
  refine⟨rfl,p,gI r pl,w,r,own,rfl,by omega,dD,hrr,V6,by omega,r0,r1,fun f=>⟨fun z=>(by cases z),?_⟩⟩
  show _=List.map aX (List.map _ (R.take (i+1)))
  rw[take_snoc hr,List.map_append,List.map_append]
  rfl
 rintro ds hl' rfl
 rw[nB,List.take_length]
 intro A5
 walk_at "dt"
 have hix:cH (List.map aX (List.map (fun r=>dQ p (gI r pl) r own) R)).length (k:Int)=some k:=by
  unfold cH
  rw[List.length_map,List.length_map]
  repeat (first|rw[if_pos (by omega)]|rw[if_neg (by omega)])
  simp
 refine⟨_,k,rfl,hix,?_⟩
 refine Sv.jB 5 rfl ?_
 walk_at "dt"
 rw[<-List.map_set]
 have:=q
 unfold ff at this
 simp only[hkk] at this
 rw[<-hown]
 exact this _ inv hinv
def rH(L:List Nat):PyData:= .list (L.map fun(i:Nat)=> .int (i:Int))
def oS:DF:=fun ds Φ=>∃(p:Int) (w:Nat) (R:List (List Int)) (L:List Nat),ds=[.int p, .list (R.map aX),rH L]/\eW p/\p<10^40/\iK p w R/\R.length<=9000/\w<=9000/\(∀d∈L,d<w)/\L.length<=9000/\
 ∀(f:Bool) (R':List (List Int)) (T:List (Nat×Nat)),eg p w R R' T L->T.length<=9000->Φ f (.tuple [.list (R'.map aX), .dict ((cP T).map cG)])
theorem DL:cF oS:=by
 intro ds Φ Ψ hm z
 obtain⟨p,w,R,L,e,h1,h2,h3,h4,h5,h6,h7,q⟩:=hm
 exact⟨p,w,R,L,e,h1,h2,h3,h4,h5,h6,h7,fun f R' T a b=>z _ _ (q f R' T a b)⟩
theorem Q7(T:List (Nat×Nat)){k d:Nat}(h:k∉T.map (·.1)):nX (cP T) (k:Int) (.int d)=cP (T++[(k,d)]):=by
 unfold nX
 rw[wF,if_neg (by simpa using h)]
 unfold cP
 rw[List.map_append]
 rfl
theorem FU{L:List Nat}{i:Nat}{d:PyData}(h:(L.map fun(i:Nat)=>PyData.int (i:Int))[i]?=some d):∃x,L[i]?=some x/\d= .int (x:Int):=by
 rw[List.getElem?_map] at h
 obtain⟨x,e,h⟩:=Option.map_eq_some_iff.mp h
 exact⟨x,e,h.symm⟩
theorem om:bL ["p","rows","places","taken","place","k"] ["p","rows","places"] (az mH):=⟨rfl,rfl,rfl,by decide+kernel,rfl,by decide+kernel,by decide+kernel⟩
theorem N3(F:bD K "swept" "swept" mH f fd)(K4:Callee P w K mg base "first_with" 1 ["rows","taken","place"] (aZ 3 pZ))(S8:Callee P w K mg base "cleared" 3 ["p","rows","k","place"] (aZ 4 rP)):
  bx P w K mg base bA 4 f fd ["p","rows","places"] (aZ 3 oS):=by
 refine F.ok om (fun vs H Q E h=>h.1) (fun cdv A outer s H vs Q E hr h=>?_)
 obtain⟨_,nb,ds,hlive,hds,hF⟩:=h
 obtain⟨Φ,aG,hF⟩:∃Φ:Pd,(∀f d v H',Φ f d->bf H H'->af (fun a=>nb a\/(f=true/\H a≠none)) H' d v->Q v H')/\oS ds Φ:=⟨_,fun f d v H' q=>q v H',hF⟩
 obtain⟨p,w,R,L,rfl,hp,dD,hR,rR,hw,hL,vQ,q⟩:=hF
 refine⟨_,(@aq _ _ _ _ _ (@aM _ _ (3) _ _ _ _ om.nd rfl (Or.inl rfl) Tu (by rfl) (by first|exact .inl rfl|exact .inr rfl|assumption)) (@aq _ _ _ _ _ (@fu _ _ _ _ _ _ _ _ PassesOwn.never rfl (@eu _ _ _ _ (pv 2)) (aO (i:=4) om.nd rfl (Or.inl rfl)) (@aq _ _ _ _ _ (@aM _ _ (5) _ _ _ _ om.nd rfl (Or.inl rfl) (@aI _ _ _ _ _ _ _ _ _ _ K4 (hr.mono (by decide)) (@aa _ _ _ _ _ (pv 1) (@aa _ _ _ _ _ (pv 3) (@aa _ _ _ _ _ (pv 4) ak rfl) rfl) rfl) (by rfl) (by decide) (by rfl) (by rfl)) (by rfl) (by first|exact .inl rfl|exact .inr rfl|assumption)) (@aE _ _ _ (@bS _ _ _ _ _ _ _ _ (@aS _ _ _ _ _ _ _ _ jb (pv 5) dS (aK _)) (@aq _ _ _ _ _ (@dX _ _ _ _ _ _ (pv 4) (fO (pv 3) (pv 5) set_dict) (by rfl) (by rfl) (by rfl)) (@aE _ _ _ (@aM _ _ (1) _ _ _ _ om.nd rfl (Or.inl rfl) (@aI _ _ _ _ _ _ _ _ _ _ S8 (hr.mono (by decide)) (@aa _ _ _ _ _ (pv 0) (@aa _ _ _ _ _ (pv 1) (@aa _ _ _ _ _ (pv 5) (@aa _ _ _ _ _ (pv 4) ak rfl) rfl) rfl) rfl) (by rfl) (by decide) (by rfl) (by rfl)) (by rfl) (by first|exact .inl rfl|exact .inr rfl|assumption)))) cg))) (by intro _;rfl)) (@aE _ _ _ (@aQ _ _ _ _ (@gR _ _ _ _ _ (@aa _ _ _ _ _ (pv 1) (@aa _ _ _ _ _ (pv 3) ak rfl) rfl)))))),?_⟩
 refine Sv.dY hlive hds aG (ρ:=[.d false _, .d false _, .d false _, .no, .no, .no]) rfl ?_
 clear aG hds
 have p2:=hp.1
 have Qh:(L.map fun(i:Nat)=>PyData.int (i:Int)).length=L.length:=List.length_map ..
 refine Sv.seq ?_
 refine Sv.NH (qZ.new ?_)
 intro A3
 refine Sv.seq ?_
 refine Sv.forL ?_
 refine Ev.var rfl ?_
 refine⟨_,rfl,fun v=>⟨fun i ρ=>∃(R':List (List Int)) (T:List (Nat×Nat)) (f1 f3:Bool) (x4 x5:Sl),eg p w R R' T (L.take i)/\T.length<=i/\ρ=[.d false (.int p), .d f1 (.list (R'.map aX)), .d false (rH L), .bU A3 f3 (cP T),x4,x5],⟨R,[],_,_,_,_,eg.init hR,Nat.le_refl _,rfl⟩,?_,?_⟩⟩
 ·rintro i d ρ hd ⟨R',T,f1,f3,x4,x5,hS,iV,rfl⟩
  obtain⟨pl,hpl,rfl⟩:=FU hd
  have hil:=(List.getElem?_eq_some_iff.mp hpl).1
  have qk:=hL pl (List.mem_of_getElem? hpl)
  have Xi:=hS.len
  refine Gv.j9 ?_
  refine Sv.seq ?_
  refine Sv.asg ?_
  refine Ev.Fv ?_
  refine fD.U6 3 rfl ?_
  refine fD.bI IU ?_
  walk_at "dt"
  refine⟨rfl,p,w,R',T,pl,rfl,hS.ok,by omega,dD,by omega,by omega,qk,by omega,fun hz=>⟨rfl,?_⟩,fun k hk fK hne=>⟨rfl,?_⟩⟩
  ·refine Gv.name ?_
   walk_at "dt"
   refine⟨R',T,_,_,_,_,?_,by omega,rfl⟩
   rw[take_snoc hpl]
   exact hS.skip hz
  ·refine Gv.name ?_
   generalize gM:(ji (eE (dM 4) (kL (dM 3) (dM 5) vV)) _:TS)=tl
   walk_at "dt"
   subst gM
   refine Sv.seq ?_
   refine Sv.OT rfl ?_
   walk_at "dt"
   refine⟨by unfold cP;rw[List.length_map];omega,?_⟩
   rw[Q7 T fK]
   refine Sv.asg ?_
   refine Ev.bI Uc ?_
   walk_at "dt"
   refine⟨rfl,p,w,R',k,pl,rfl,hp,dD,hS.ok,by omega,hk,qk,by omega,hne,fun f inv hinv=>?_⟩
   refine Gv.name ?_
   refine⟨_,_,_,_,_,_,?_,by rw[List.length_append,List.length_singleton];omega,rfl⟩
   rw[take_snoc hpl]
   exact hS.take (by omega) (fun e he=>hL e (List.mem_of_mem_take he)) qk hk fK hne hinv
 ·rintro ρ ⟨R',T,f1,f3,x4,x5,hS,iV,rfl⟩
  rw[Qh] at iV hS
  rw[List.take_length] at hS
  refine Sv.Wl 3 rfl ?_
  walk_at "dt"
  exact q _ R' T hS (by omega)
def pC:DF:=fun ds Φ=>∃(p n:Int) (cs:List aH) (w:Nat) (r:List Int) (wd:Wo),ds=[bz p n cs,aX r,cX wd]/\0<p/\p<10^40/\0<=n/\n<=9000/\n.toNat<=w/\w<=9000/\bB p w r/\wd.length=n.toNat/\(∀x,some x∈wd->0<=x/\x<p)/\Φ true (.int (ao (aT wd) r%p))
theorem D8:cF pC:=by
 intro ds Φ Ψ hm z
 obtain⟨p,n,cs,w,r,wd,e,h1,h2,h3,h4,h5,h6,h7,h8,h9,q⟩:=hm
 exact⟨p,n,cs,w,r,wd,e,h1,h2,h3,h4,h5,h6,h7,h8,h9,z _ _ q⟩
theorem L4:bL ["net","row","word"] ["net","row","word"] (az lR):=⟨rfl,rfl,rfl,by decide+kernel,rfl,by decide+kernel,by decide+kernel⟩
theorem Qy(F:bD K "reached_by" "reached_by" lR f fd)(RE:Callee P w K mg base "total" 1 ["p","pairs","word"] tX)(fc:mg "list"=none)(fR:mg "enumerate"=none):
  bx P w K mg base bA 2 f fd ["net","row","word"] (aZ 3 pC):=by
 refine F.ok L4 (fun vs H Q E h=>h.1) (fun cdv A outer s H vs Q E hr h=>?_)
 obtain⟨_,nb,ds,hlive,hds,hF⟩:=h
 obtain⟨Φ,aG,hF⟩:∃Φ:Pd,(∀f d v H',Φ f d->bf H H'->af (fun a=>nb a\/(f=true/\H a≠none)) H' d v->Q v H')/\pC ds Φ:=⟨_,fun f d v H' q=>q v H',hF⟩
 obtain⟨p,n,cs,w,r,wd,rfl,hp,dD,n0,n1,nw,hw,hrw,hwl,cB,q⟩:=hF
 refine⟨_,(@aE _ _ _ (@aQ _ _ _ _ (@aI _ _ _ _ _ _ _ _ _ _ RE (hr.mono (by decide)) (@aa _ _ _ _ _ (@ay _ _ _ _ _ _ (aY K) bu (pv 0) aj (fun _ _=>rfl)) (@aa _ _ _ _ _ (@Hs _ (K) _ _ _ _ _ _ rfl rfl rfl fc rfl fR (@iM _ _ _ _ _ _ _ _ _ (g7 K) i7 (pv 1) ja (@iH _ _ _ (@ay _ _ _ _ _ _ (aY K) bu (pv 0) aj (fun _ _=>rfl)))) (by rfl) (by rfl)) (@aa _ _ _ _ _ (pv 2) ak rfl) rfl) rfl) (by rfl) (by decide) (by rfl) (by rfl)))),?_⟩
 refine Sv.dY hlive hds aG (ρ:=[.d false _, .d false _, .d false _]) rfl ?_
 clear aG hds
 have hrl:(r.map PyData.int).length=r.length:=List.length_map ..
 have hl:=hrw.len
 have hsm:∀x:Int,0<=x->x<=p->Sm x:=fun x x0 x1=>by unfold Sm;omega
 have sc:∀L:List Int,cN (L.map PyData.int)=true:=fun L=>by unfold cN;simp[List.all_map,gp]
 walk_at "dt"
 refine Ev.total ?_
 walk_at "dt"
 refine aC.ev (aC.SN ?_)
 walk_at "dt"
 have iP:dH (r.map PyData.int) none (some n)=(r.take n.toNat).map PyData.int:=by
  unfold dH HT.dh
  simp only[List.drop_zero,Nat.sub_zero]
  rw[List.map_take,hrl]
  congr 1
  first|omega|(split<;>omega)
 rw[iP]
 refine⟨sc _,?_⟩
 have e2:List.map (fun q:PyData×Nat=>PyData.tuple [PyData.int (q.2:Int),q.1]) ((r.take n.toNat).map PyData.int).zipIdx=((r.take n.toNat).zipIdx.map fun q=>((q.2:Int),q.1)).map pairD:=by
  rw[List.zipIdx_map,List.map_map,List.map_map]
  rfl
 rw[e2]
 walk_at "dt"
 refine⟨p,_,wd,rfl,hp,fun pr br=>?_,fun x hx=>hsm x (cB x hx).1 (by have:=(cB x hx).2;omega),?_⟩
 ·obtain⟨qq,hq,rfl⟩:=List.mem_map.mp br
  obtain⟨i,hi⟩:=List.getElem?_of_mem hq
  rw[List.getElem?_zipIdx] at hi
  obtain⟨x,e,h2⟩:=Option.map_eq_some_iff.mp hi
  subst h2
  have hil:=(List.getElem?_eq_some_iff.mp e).1
  rw[List.length_take] at hil
  have hx:=hrw.rg x (List.mem_of_mem_take (List.mem_of_getElem? e))
  refine⟨by show(0:Int)<=((0+i:Nat):Int);omega,by show((0+i:Nat):Int)<(wd.length:Int);omega,hsm x hx.1 (by omega)⟩
 ·rw[V4 hwl]
  exact q
def oW:DF:=fun ds Φ=>∃(p n:Int) (cs:List aH) (wd:Wo) (pl:Nat),ds=[bz p n cs,cX wd, .int (pl:Int)]/\dw p n cs/\wd.length=n.toNat/\(∀x,some x∈wd->0<=x/\x<p)/\wd[pl]?=some none/\
 (∀v aD,oV p n cs wd pl v aD->Φ true (.tuple [.str "told", .int v,aX aD]))/\∀u,dW p n cs (iw wd pl) u->Φ true (.tuple [.str "open",aX u])
theorem CD:cF oW:=by
 intro ds Φ Ψ hm z
 obtain⟨p,n,cs,wd,pl,e,h1,h2,h3,h4,q1,q2⟩:=hm
 exact⟨p,n,cs,wd,pl,e,h1,h2,h3,h4,fun v aD h=>z _ _ (q1 v aD h),fun u h=>z _ _ (q2 u h)⟩
theorem Q6{T:List (Nat×Nat)}{i:Nat}{q:Int×PyData}(h:(cP T)[i]?=some q):∃t,T[i]?=some t/\q=((t.1:Int), .int (t.2:Int)):=by
 unfold cP at h
 rw[List.getElem?_map] at h
 obtain⟨t,e,h⟩:=Option.map_eq_some_iff.mp h
 exact⟨t,e,h.symm⟩
theorem OG{T:List (Nat×Nat)}(nd:(T.map (·.1)).Nodup):∀{t:Nat×Nat},t∈T->fN (cP T) (t.1:Int)=some (.int (t.2:Int)):=by
  induction T with
  |nil=>intro t h;cases h
  | cons s T ih =>
    intro t h
    rw[List.map_cons,List.nodup_cons] at nd
    show fN (((s.1:Int),PyData.int (s.2:Int))::cP T) (t.1:Int)=_
    rw[nu]
    rcases List.mem_cons.mp h with z|z
    · rw[z,if_pos rfl]
    · rw[if_neg]
      · exact ih nd.2 z
      · show¬((s.1:Nat):Int)=(t.1:Nat)
        intro y
        exact nd.1 (by rw[show s.1=t.1 by omega];exact List.mem_map_of_mem z)
theorem j8:bL ["net","word","place","p","others","found","rows","taken","told","k"] ["net","word","place"] (az kZ):=⟨rfl,rfl,rfl,by decide+kernel,rfl,by decide+kernel,by decide+kernel⟩
theorem Lq(F:bD K "settled" "settled" kZ f fd)(uI:Callee P w K mg base "swept" 4 ["p","rows","places"] (aZ 3 oS))(Af:Callee P w K mg base "rows_of" 1 ["net"] (aZ 1 oB))(tV:Callee P w K mg base "lost_of" 1 ["word"] (aZ 1 nG))(vW:Callee P w K mg base "reached_by" 2 ["net","row","word"] (aZ 3 pC)):
  bx P w K mg base bA 5 f fd ["net","word","place"] (aZ 3 oW):=by
 refine F.ok j8 (fun vs H Q E h=>h.1) (fun cdv A outer s H vs Q E hr h=>?_)
 obtain⟨_,nb,ds,hlive,hds,hF⟩:=h
 obtain⟨Φ,aG,hF⟩:∃Φ:Pd,(∀f d v H',Φ f d->bf H H'->af (fun a=>nb a\/(f=true/\H a≠none)) H' d v->Q v H')/\oW ds Φ:=⟨_,fun f d v H' q=>q v H',hF⟩
 obtain⟨p,n,cs,wd,pl,rfl,hN,hwl,cB,hpl,q1,q2⟩:=hF
 refine⟨_,(@aq _ _ _ _ _ (@aM _ _ (3) _ _ _ _ j8.nd rfl (Or.inl rfl) (@ay _ _ _ _ _ _ (aY K) bu (pv 0) aj (fun _ _=>rfl)) (by rfl) (by first|exact .inl rfl|exact .inr rfl|assumption)) (@aq _ _ _ _ _ (oz (i:=4) j8.nd rfl rfl (cz.of (show cK (az kZ) ["net","word","place","p","others","found","rows","taken","told","k"] _ ["other","place"] [none,some 2]=true by decide+kernel)) (@eu _ _ _ _ (@aI _ _ _ _ _ _ _ _ _ _ tV (hr.mono (by decide)) (@aa _ _ _ _ _ (pv 1) ak rfl) (by rfl) (by decide) (by rfl) (by rfl))) (fun _ _ _ _=>⟨(aO (i:=0) (by show List.Nodup (["other","place"]:List Str);decide+kernel) rfl (Or.inl rfl)),(gJ (@aS _ _ _ _ _ _ _ _ fL (pv 0) (pv 1) (aK _))),(pv 0)⟩)) (@aq _ _ _ _ _ (@aM _ _ (5) _ _ _ _ j8.nd rfl (Or.inl rfl) (@aI _ _ _ _ _ _ _ _ _ _ uI (hr.mono (by decide)) (@aa _ _ _ _ _ (pv 3) (@aa _ _ _ _ _ (@aI _ _ _ _ _ _ _ _ _ _ Af (hr.mono (by decide)) (@aa _ _ _ _ _ (pv 0) ak rfl) (by rfl) (by decide) (by rfl) (by rfl)) (@aa _ _ _ _ _ (@aA _ _ _ _ _ _ _ _ mQ (pv 4) (@dR _ _ _ _ (@aa _ _ _ _ _ (pv 2) ak rfl))) ak rfl) rfl) rfl) (by rfl) (by decide) (by rfl) (by rfl)) (by rfl) (by first|exact .inl rfl|exact .inr rfl|assumption)) (@aq _ _ _ _ _ (@aM _ _ (6) _ _ _ _ j8.nd rfl (Or.inl rfl) (@ay _ _ _ _ _ _ (aY K) bu (pv 5) aj (fun _ _=>rfl)) (by rfl) (by first|exact .inl rfl|exact .inr rfl|assumption)) (@aq _ _ _ _ _ (@aM _ _ (7) _ _ _ _ j8.nd rfl (Or.inl rfl) (@ay _ _ _ _ _ _ (aY K) bu (pv 5) aj (fun _ _=>rfl)) (by rfl) (by first|exact .inl rfl|exact .inr rfl|assumption)) (@aq _ _ _ _ _ (@aM _ _ (8) _ _ _ _ j8.nd rfl (Or.inl rfl) (@aA _ _ _ _ _ _ _ _ qy (@dR _ _ _ _ (@aa _ _ _ _ _ aj ak rfl)) (@ay _ _ _ _ _ _ (aY K) bu (pv 0) aj (fun _ _=>rfl))) (by rfl) (by first|exact .inl rfl|exact .inr rfl|assumption)) (@aq _ _ _ _ _ (@dX _ _ _ _ _ _ aj (fO (pv 8) (pv 2) set_list) (by rfl) (by rfl) (by rfl)) (@aq _ _ _ _ _ (@KR _ _ _ (@fu _ _ _ _ _ _ _ _ PassesOwn.never rfl (@Vy _ _ _ _ (pv 7)) (aO (i:=9) j8.nd rfl (Or.inl rfl)) (@aq _ _ _ _ _ (@bS _ _ _ _ _ _ _ _ (@aS _ _ _ _ _ _ _ _ bX (@ay _ _ _ _ _ _ (mE) uG (pv 7) (pv 9) (fun _ _=>rfl)) (pv 2) (aK _)) (@aE _ _ _ (@aQ _ _ _ _ (@gR _ _ _ _ _ (@aa _ _ _ _ _ gE (@aa _ _ _ _ _ (@aA _ _ _ _ _ _ _ _ dj (@ly _ _ _ _ _ _ kh (@aI _ _ _ _ _ _ _ _ _ _ vW (hr.mono (by decide)) (@aa _ _ _ _ _ (pv 0) (@aa _ _ _ _ _ (@ay _ _ _ _ _ _ (bh K) aR (pv 6) (pv 9) (fun _ _=>rfl)) (@aa _ _ _ _ _ (pv 1) ak rfl) rfl) rfl) (by rfl) (by decide) (by rfl) (by rfl))) (pv 3)) (@aa _ _ _ _ _ (@iM _ _ _ _ _ _ _ _ _ (g7 K) i7 (@ay _ _ _ _ _ _ (bh K) aR (pv 6) (pv 9) (fun _ _=>rfl)) (@iH _ _ _ (@ay _ _ _ _ _ _ (aY K) bu (pv 0) aj (fun _ _=>rfl))) ja) ak rfl) rfl) rfl)))) cg) (@aE _ _ _ (@dX _ _ _ _ _ _ (@aA _ _ _ _ _ _ _ _ dj (@ly _ _ _ _ _ _ kh (@ay _ _ _ _ _ _ (bh K) aR (@ay _ _ _ _ _ _ (bh K) aR (pv 6) (pv 9) (fun _ _=>rfl)) (pv 2) (fun _ _=>rfl))) (pv 3)) (fO (pv 8) (@ay _ _ _ _ _ _ (mE) uG (pv 7) (pv 9) (fun _ _=>rfl)) set_list) (by rfl) (by rfl) (by rfl)))) (by intro _;rfl))) (@aE _ _ _ (@aQ _ _ _ _ (@gR _ _ _ _ _ (@aa _ _ _ _ _ gE (@aa _ _ _ _ _ (pv 8) ak rfl) rfl)))))))))))),?_⟩
 refine Sv.dY hlive hds aG (ρ:=[.d false _, .d false _, .d false _, .no, .no, .no, .no, .no, .no, .no]) rfl ?_
 clear aG hds
 have p2:=hN.hp.1
 have cM:=hN.cM
 have n0:=hN.n0
 have n1:=hN.n1
 have hcl:=hN.cl
 have jg:=(List.getElem?_eq_some_iff.mp hpl).1
 have ku:(wd.map bw).length=wd.length:=List.length_map ..
 have qx:(dO wd).length<=wd.length:=by unfold dO;exact Nat.le_trans (List.length_filter_le ..) (by rw[List.length_range];exact Nat.le_refl _)
 have gc:(iQ wd pl).length<=wd.length:=Nat.le_trans (List.length_filter_le ..) qx
 have zN:(nK wd).map PyData.int=(dO wd).map fun(i:Nat)=>PyData.int (i:Int):=by
  unfold nK dO
  rw[List.map_map]
  rfl
 walk_at "dt"
 refine aC.ev (aC.iE (by decide) rfl ?_)
 refine Ev.bI CS ?_
 walk_at "dt"
 refine⟨rfl,wd,rfl,by omega,_,rfl,?_⟩
 rw[zN]
 refine⟨by rw[List.length_map];omega,fun v=>⟨true,fun i ds=>ds=(((dO wd).take i).filter fun i=>decide (i≠pl)).map fun(i:Nat)=>PyData.int (i:Int),rfl,?_,?_⟩⟩
 ·rintro i d ds hd hl' rfl
  obtain⟨o,ho,rfl⟩:=FU hd
  have hs:=take_snoc ho
  walk_at "dt"
  refine⟨by walk_at "wk",?_⟩
  walk_at "dt"
  by_cases c:o=pl
  ·rw[if_neg (by simp[c])]
   show _=List.map _ (List.filter _ (List.take (i+1) (dO wd)))
   rw[hs,List.filter_append]
   simp[c]
  ·rw[if_pos (by simp;omega)]
   walk_at "dt"
   show _=List.map _ (List.filter _ (List.take (i+1) (dO wd)))
   rw[hs,List.filter_append,List.map_append]
   simp[c]
 ·rintro ds hl' rfl
  rw[List.length_map,List.take_length]
  walk_at "dt"
  refine Ev.bI DL ?_
  walk_at "dt"
  refine Ev.bI DV ?_
  walk_at "dt"
  refine⟨rfl,p,n,cs,rfl,hN,fun f0=>?_⟩
  walk_at "dt"
  have Ax:(List.filter (fun i=>decide (i≠pl)) (dO wd)).length<=wd.length:=gc
  refine⟨by rw[List.length_map];show _+1<=10000;omega,?_⟩
  walk_at "dt"
  refine⟨rfl,p,n.toNat+cs.length,dB n.toNat cs.length cs,iQ wd pl++[pl],?_,hN.hp,cM,hN.rows,by rw[nM];omega,by omega,fun d hd=>?_,by rw[List.length_append,List.length_singleton];omega,fun f1 R T hS iV=>?_⟩
  ·show[PyData.int p,PyData.list _,PyData.list _]=[PyData.int p,PyData.list _,PyData.list _]
   rw[List.map_append]
   rfl
  ·rcases List.mem_append.mp hd with z|z
   ·have:=(List.getElem?_eq_some_iff.mp (pJ.mp z).1).1
    omega
   ·rw[List.mem_singleton.mp z];omega
  have rR:R.length=cs.length:=by rw[hS.len,nM]
  generalize gM:(ji (eE (bV mL _ _) (dN 8)) _:TS)=tl
  walk_at "dt"
  subst gM
  refine Sv.seq ?_
  refine Sv.oK (aC.pX ?_)
  walk_at "dt"
  intro g0
  have hz:List.replicate n.toNat (PyData.int 0)=(List.replicate n.toNat (0:Int)).map PyData.int:=by rw[List.map_replicate]
  rw[hz]
  intro A8
  have hix:∀(u:List Int) (j:Nat),u.length=n.toNat->j<n.toNat->cH (u.map PyData.int).length (j:Int)=some j:=fun u j h1 h2=>by
   unfold cH
   rw[List.length_map]
   repeat (first|rw[if_pos (by omega)]|rw[if_neg (by omega)])
   simp
  refine Sv.seq ?_
  refine Sv.lq rfl ?_
  walk_at "dt"
  refine⟨_,_,rfl,hix _ pl (List.length_replicate ..) (by omega),?_⟩
  rw[<-List.map_set]
  refine Sv.lift 8 rfl (w6 _) ?_
  refine Sv.seq ?_
  refine Sv.GS ?_
  refine Ev.var rfl ?_
  refine⟨cP T,rfl,fun G' v=>?_⟩
  have hTm:(cP T).length=T.length:=by unfold cP;exact List.length_map ..
  have nB:(R.map aX).length=R.length:=List.length_map ..
  refine⟨fun i ρ=>∃(u:List Int) (x9:Sl),OI p n wd pl R (T.take i) u/\ρ=[.d false (bz p n cs), .d false (cX wd), .d false (.int (pl:Int)), .d true (.int p), .d false (.list ((iQ wd pl).map fun(i:Nat)=> .int (i:Int))), .d false (.tuple [.list (R.map aX), .dict ((cP T).map cG)]), .d false (.list (R.map aX)), .d false (.dict ((cP T).map cG)), .own A8 true (u.map .int),x9],?_,?_,?_⟩
  ·exact⟨_,_,OI.init (by omega) (by omega),rfl⟩
  ·rintro i d ρ ⟨kv,hkv,rfl⟩ ⟨u,x9,hI,rfl⟩
   obtain⟨t,ht,rfl⟩:=Q6 hkv
   have jL:=List.mem_of_getElem? ht
   have gM:=(List.getElem?_eq_some_iff.mp ht).1
   have htr:=hS.rg t jL
   have hval:=OG hS.nd jL
   have D4:R[t.1]?=some (R.getD t.1 []):=by rw[ic htr.1];exact List.getElem?_eq_getElem htr.1
   have hrr:bB p (n.toNat+cs.length) (R.getD t.1 []):=by rw[ic htr.1];exact hS.ok _ (List.getElem_mem htr.1)
   obtain⟨r,hr⟩:∃r,R.getD t.1 []=r:=⟨_,rfl⟩
   rw[hr] at D4 hrr
   have hat:aU (R.map aX) (t.1:Int)=some (aX r):=cW (by omega) (by rw[List.getElem?_map,Int.toNat_natCast,D4];rfl)
   have htw:t.2<n.toNat:=by
    rcases List.mem_append.mp htr.2 with z|z
    ·have:=(List.getElem?_eq_some_iff.mp (pJ.mp z).1).1
     omega
    ·rw[List.mem_singleton.mp z];omega
   have hrl:=hrr.len
   walk_at "dt"
   refine Ev.zD ?_
   walk_at "dt"
   refine⟨cP T,rfl,?_⟩
   walk_at "dt"
   refine⟨_,hval,?_⟩
   walk_at "dt"
   by_cases c:t.2=pl
   ·rw[if_pos (by simp[c])]
    walk_at "dt"
    refine Ev.bI D8 ?_
    walk_at "dt"
    refine⟨rfl,p,n,cs,n.toNat+cs.length,r,wd,rfl,by omega,cM,by omega,by omega,by omega,by omega,hrr,hwl,cB,?_⟩
    walk_at "dt"
    have hrm:(r.map PyData.int).length=r.length:=List.length_map ..
    have iP:dH (r.map PyData.int) (some n) none=(r.drop n.toNat).map PyData.int:=by
     unfold dH HT.dh
     show List.take (_-if n<0 then _ else _) (List.drop (if n<0 then _ else _) _)=_
     rw[if_neg (by omega),hrm,Nat.min_eq_left (by omega),List.map_drop]
     apply List.take_of_length_le
     rw[List.length_drop,hrm]
     exact Nat.le_refl _
    rw[iP]
    have FQ:=Js hN hwl hS (k:=t.1) (pl:=pl) (by rw[<-c];exact jL)
    rw[hr] at FQ
    have en: -(ao (aT wd) r%p)%p= -(ao (aT wd) r)%p:=by
     rw[Int.emod_def (ao (aT wd) r),Int.neg_sub,Int.sub_eq_add_neg,Int.add_comm,Int.add_mul_emod_self_left]
    rw[en,w6]
    exact q1 _ _ FQ
   ·rw[if_neg (by simp;omega)]
    have jo:aU (r.map PyData.int) (pl:Int)=some (.int (gI r pl)):=cW (by omega) (by rw[List.getElem?_map,Int.toNat_natCast,hrr.at (by omega)];rfl)
    walk_at "dt"
    refine Ev.zD ?_
    walk_at "dt"
    refine⟨cP T,rfl,?_⟩
    walk_at "dt"
    refine⟨_,hval,_,_,rfl,hix u t.2 hI.len htw,?_⟩
    rw[<-List.map_set]
    refine⟨_,_,?_,rfl⟩
    rw[take_snoc ht,<-hr]
    refine hI.step (by omega) htw c fun q' hq' z=>?_
    have h1:=hS.inj (List.mem_of_mem_take hq') jL z
    obtain⟨j,hj⟩:=List.getElem?_of_mem hq'
    have hji:j<i:=by have:=(List.getElem?_eq_some_iff.mp hj).1;rw[List.length_take] at this;omega
    rw[List.getElem?_take_of_lt hji] at hj
    have hjl:=(List.getElem?_eq_some_iff.mp hj).1
    have nd:=hS.nd
    have:=(List.getElem_inj (i:=j) (j:=i) (h₀:=by rw[List.length_map];exact hjl) (h₁:=by rw[List.length_map];exact gM) nd).mp (by
     rw[List.getElem_map,List.getElem_map,(List.getElem?_eq_some_iff.mp hj).2,(List.getElem?_eq_some_iff.mp ht).2];exact h1)
    omega
  ·rintro ρ ⟨u,x9,hI,rfl⟩
   rw[hTm,List.take_length] at hI
   refine Sv.jB 8 rfl ?_
   walk_at "dt"
   exact q2 u (hI.word hN hwl hpl hS)
def sJ:DF:=fun ds Φ=>∃(p n:Int) (cs:List aH) (wd:Wo),ds=[bz p n cs,cX wd]/\dw p n cs/\wd.length=n.toNat/\(∀x,some x∈wd->0<=x/\x<p)/\
 (∀v,dW p n cs wd v->Φ true (.tuple [.str "word",aX v]))/\∀aD,rQ p n cs wd aD->Φ true (.tuple [.str "none",aX aD])
theorem S7:cF sJ:=by
 intro ds Φ Ψ hm z
 obtain⟨p,n,cs,wd,e,h1,h2,h3,q1,q2⟩:=hm
 exact⟨p,n,cs,wd,e,h1,h2,h3,fun v h=>z _ _ (q1 v h),fun v h=>z _ _ (q2 v h)⟩
theorem Ib{T:List (Nat×Nat)}{k:Nat}(h:k∈T.map (·.1)):∃pl,(k,pl)∈T/\fN (cP T) (k:Int)=some (.int (pl:Int)):=by
  induction T with
  |nil=>cases h
  | cons t T ih =>
    show∃pl,_/\fN (((t.1:Int),PyData.int (t.2:Int))::cP T) (k:Int)=_
    rw[nu]
    by_cases c:t.1=k
    · refine⟨t.2,by rw[<-c];exact List.mem_cons_self ..,?_⟩
      rw[if_pos (by show((t.1:Nat):Int)=k;omega)]
    · rw[List.map_cons] at h
      obtain⟨pl,h1,h2⟩:=ih ((List.mem_cons.mp h).resolve_left fun z=>c z.symm)
      refine⟨pl,List.mem_cons_of_mem _ h1,?_⟩
      rw[if_neg (by show¬((t.1:Nat):Int)=k;omega)]
      exact h2
theorem jY:bL ["net","word","p","found","taken","told","k","row","reached"] ["net","word"] (az lz):=⟨rfl,rfl,rfl,by decide+kernel,rfl,by decide+kernel,by decide+kernel⟩
theorem UY(F:bD K "filled" "filled" lz f fd)(uI:Callee P w K mg base "swept" 4 ["p","rows","places"] (aZ 3 oS))(Af:Callee P w K mg base "rows_of" 1 ["net"] (aZ 1 oB))(tV:Callee P w K mg base "lost_of" 1 ["word"] (aZ 1 nG))(vW:Callee P w K mg base "reached_by" 2 ["net","row","word"] (aZ 3 pC))(ql:Callee P w K mg base "times" 1 ["p","factor","row"] (aZ 3 mD))(uM:Callee P w K mg base "inverse" 2 ["p","b"] pS)(fR:mg "enumerate"=none):
    bx P w K mg base bA 5 f fd ["net","word"] (aZ 2 sJ):=by
  refine F.ok jY (fun vs H Q E h=>h.1) (fun cdv A outer s H vs Q E hr h=>?_)
  obtain⟨_,nb,ds,hlive,hds,hF⟩:=h
  obtain⟨Φ,aG,hF⟩:∃Φ:Pd,(∀f d v H',Φ f d->bf H H'->af (fun a=>nb a\/(f=true/\H a≠none)) H' d v->Q v H')/\sJ ds Φ:=⟨_,fun f d v H' q=>q v H',hF⟩
  obtain⟨p,n,cs,wd,rfl,hN,hwl,cB,q1,q2⟩:=hF
  refine⟨_,(@aq _ _ _ _ _ (@aM _ _ (2) _ _ _ _ jY.nd rfl (Or.inl rfl) (@ay _ _ _ _ _ _ (aY K) bu (pv 0) aj (fun _ _=>rfl)) (by rfl) (by first|exact .inl rfl|exact .inr rfl|assumption)) (@aq _ _ _ _ _ (@aM _ _ (3) _ _ _ _ jY.nd rfl (Or.inl rfl) (@aI _ _ _ _ _ _ _ _ _ _ uI (hr.mono (by decide)) (@aa _ _ _ _ _ (pv 2) (@aa _ _ _ _ _ (@aI _ _ _ _ _ _ _ _ _ _ Af (hr.mono (by decide)) (@aa _ _ _ _ _ (pv 0) ak rfl) (by rfl) (by decide) (by rfl) (by rfl)) (@aa _ _ _ _ _ (@aI _ _ _ _ _ _ _ _ _ _ tV (hr.mono (by decide)) (@aa _ _ _ _ _ (pv 1) ak rfl) (by rfl) (by decide) (by rfl) (by rfl)) ak rfl) rfl) rfl) (by rfl) (by decide) (by rfl) (by rfl)) (by rfl) (by first|exact .inl rfl|exact .inr rfl|assumption)) (@aq _ _ _ _ _ (@aM _ _ (4) _ _ _ _ jY.nd rfl (Or.inl rfl) (@ay _ _ _ _ _ _ (aY K) bu (pv 3) aj (fun _ _=>rfl)) (by rfl) (by first|exact .inl rfl|exact .inr rfl|assumption)) (@aq _ _ _ _ _ (oz (i:=5) jY.nd rfl rfl (cz.of (show cK (az lz) ["net","word","p","found","taken","told","k","row","reached"] _ ["letter"] [none]=true by decide+kernel)) (@eu _ _ _ _ (pv 1)) (fun _ _ _ _=>⟨(aO (i:=0) (by show List.Nodup (["letter"]:List Str);decide+kernel) rfl (Or.inl rfl)),gk,(@i6 _ _ _ _ _ _ _ _ (@aS _ _ _ _ _ _ _ _ mO (pv 0) dS (aK _)) aj (pv 0))⟩)) (@aq _ _ _ _ _ (@fu _ _ _ _ _ _ _ _ PassesOwn.never rfl (@qj _ (K) _ _ _ _ _ _ _ rfl rfl fR (@ay _ _ _ _ _ _ (aY K) bu (pv 3) aj (fun _ _=>rfl)) (by rfl)) (@gh _ (K) _ _ _ (2) _ rfl rfl (@bO _ _ _ _ _ (aO (i:=6) jY.nd rfl (Or.inl rfl)) (@bO _ _ _ _ _ (aO (i:=7) jY.nd rfl (Or.inl rfl)) fQ (by rfl)) (by rfl)) (by rfl) (by rfl)) (@aq _ _ _ _ _ (@aM _ _ (8) _ _ _ _ jY.nd rfl (Or.inl rfl) (@aI _ _ _ _ _ _ _ _ _ _ vW (hr.mono (by decide)) (@aa _ _ _ _ _ (pv 0) (@aa _ _ _ _ _ (pv 7) (@aa _ _ _ _ _ (pv 1) ak rfl) rfl) rfl) (by rfl) (by decide) (by rfl) (by rfl)) (by rfl) (by first|exact .inl rfl|exact .inr rfl|assumption)) (@aE _ _ _ (@bS _ _ _ _ _ _ _ _ (@aS _ _ _ _ _ _ _ _ (KC hr.units) (pv 6) (pv 4) (by with_unfolding_all rfl)) (@aE _ _ _ (@dX _ _ _ _ _ _ (@aA _ _ _ _ _ _ _ _ dj (@ly _ _ _ _ _ _ kh (pv 8)) (pv 2)) (fO (pv 5) (@ay _ _ _ _ _ _ (mE) uG (pv 4) (pv 6) (fun _ _=>rfl)) set_list) (by rfl) (by rfl) (by rfl))) (@aE _ _ _ (@bS _ _ _ _ _ _ _ _ (@aS _ _ _ _ _ _ _ _ fL (pv 8) aj (aK _)) (@aE _ _ _ (@aQ _ _ _ _ (@gR _ _ _ _ _ (@aa _ _ _ _ _ gE (@aa _ _ _ _ _ (@aI _ _ _ _ _ _ _ _ _ _ ql (hr.mono (by decide)) (@aa _ _ _ _ _ (pv 2) (@aa _ _ _ _ _ (@aI _ _ _ _ _ _ _ _ _ _ uM (hr.mono (by decide)) (@aa _ _ _ _ _ (pv 2) (@aa _ _ _ _ _ (pv 8) ak rfl) rfl) (by rfl) (by decide) (by rfl) (by rfl)) (@aa _ _ _ _ _ (@iM _ _ _ _ _ _ _ _ _ (g7 K) i7 (pv 7) (@iH _ _ _ (@ay _ _ _ _ _ _ (aY K) bu (pv 0) aj (fun _ _=>rfl))) ja) ak rfl) rfl) rfl) (by rfl) (by decide) (by rfl) (by rfl)) ak rfl) rfl)))) cg))))) (by intro _;rfl)) (@aE _ _ _ (@aQ _ _ _ _ (@gR _ _ _ _ _ (@aa _ _ _ _ _ gE (@aa _ _ _ _ _ (pv 5) ak rfl) rfl))))))))),?_⟩
  refine Sv.dY hlive hds aG (ρ:=[.d false _, .d false _, .no, .no, .no, .no, .no, .no, .no]) rfl ?_
  clear aG hds
  have p2:=hN.hp.1
  have cM:=hN.cM
  have n0:=hN.n0
  have n1:=hN.n1
  have hcl:=hN.cl
  have ku:(wd.map bw).length=wd.length:=List.length_map ..
  have qx:(dO wd).length<=wd.length:=by unfold dO;exact Nat.le_trans (List.length_filter_le ..) (by rw[List.length_range];exact Nat.le_refl _)
  have zN:PyData.list ((nK wd).map PyData.int)=rH (dO wd):=by
    unfold nK rH dO
    rw[List.map_map]
    rfl
  walk_at "dt"
  refine Ev.bI DL ?_
  walk_at "dt"
  refine Ev.bI DV ?_
  walk_at "dt"
  refine⟨rfl,p,n,cs,rfl,hN,fun f0=>?_⟩
  walk_at "dt"
  refine Ev.bI CS ?_
  walk_at "dt"
  refine⟨rfl,wd,rfl,by omega,?_⟩
  rw[zN]
  walk_at "dt"
  refine⟨rfl,p,n.toNat+cs.length,dB n.toNat cs.length cs,dO wd,rfl,hN.hp,cM,hN.rows,by rw[nM];omega,by omega,fun d hd=>by have:=(List.getElem?_eq_some_iff.mp (kB.mp hd)).1;omega,by omega,fun f1 R T hS iV=>?_⟩
  have rR:R.length=cs.length:=by rw[hS.len,nM]
  generalize gM:(ji (qL 5 _) _:TS)=tl
  walk_at "dt"
  subst gM
  refine Sv.seq ?_
  refine Sv.AS ?_
  refine aC.iE (by decide) rfl ?_
  walk_at "dt"
  refine fun v=>⟨false,fun i ds=>ds=((wd.take i).map fun o=>o.getD 0).map PyData.int,rfl,?_,?_⟩
  · rintro i d ds hd hl' rfl
    obtain⟨o,ho,rfl⟩:=eF hd
    have D0:List.map PyData.int (List.map (fun o=>Option.getD o 0) (wd.take (i+1)))=List.map PyData.int (List.map (fun o=>Option.getD o 0) (wd.take i))++[PyData.int (o.getD 0)]:=by
      rw[take_snoc ho,List.map_append,List.map_append]
      rfl
    walk_at "dt"
    refine⟨by walk_at "wk",?_⟩
    walk_at "dt"
    rw[iz]
    cases o with
    | none =>
      walk_at "dt"
      exact D0.symm
    | some x =>
      walk_at "dt"
      exact D0.symm
  rintro ds hl' rfl
  rw[ku,List.take_length]
  have hsc:(false||cN (List.map PyData.int (List.map (fun o=>Option.getD o 0) wd)))=true:=by unfold cN;simp[List.all_map,gp]
  rw[hsc]
  intro A5
  refine Sv.seq ?_
  refine Sv.As ?_
  walk_at "dt"
  have nB:(R.map aX).length=R.length:=List.length_map ..
  refine fun v=>⟨fun i ρ=>∃(u:List Int) (x6 x7 x8:Sl),FI p n wd R T i u/\ρ=[.d false (bz p n cs), .d false (cX wd), .d true (.int p), .d false (.tuple [.list (R.map aX), .dict ((cP T).map cG)]), .d false (.dict ((cP T).map cG)), .own A5 true (u.map .int),x6,x7,x8],⟨_,_,_,_,FI.init (by omega) hwl cB,rfl⟩,?_,?_⟩
  · rintro i d ρ ⟨e,he,rfl⟩ ⟨u,x6,x7,x8,hF,rfl⟩
    obtain⟨r,uw,rfl⟩:=eF he
    have hi:=(List.getElem?_eq_some_iff.mp uw).1
    have hg:R.getD i []=r:=by rw[List.getD_eq_getElem?_getD,uw];rfl
    have hrr:=hS.ok r (List.mem_of_getElem? uw)
    have uT:=wF T i
    walk_at "dt"
    refine Ev.bI D8 ?_
    walk_at "dt"
    refine⟨rfl,p,n,cs,n.toNat+cs.length,r,wd,rfl,by omega,cM,by omega,by omega,by omega,by omega,hrr,hwl,cB,?_⟩
    obtain⟨rc,nN⟩:∃x,ao (aT wd) r%p=x:=⟨_,rfl⟩
    have Hr:0<=rc:=by rw[<-nN];exact Int.emod_nonneg _ (by omega)
    have HC:rc<p:=by rw[<-nN];exact Int.emod_lt_of_pos _ (by omega)
    rw[nN]
    walk_at "dt"
    refine Ev.Ge ?_
    walk_at "dt"
    refine⟨cP T,rfl,_,rfl,?_⟩
    rw[uT]
    by_cases c:i∈T.map (·.1)
    · rw[if_pos (by simpa using c)]
      obtain⟨pl,hpl,hval⟩:=Ib c
      have kC:=kB.mp (hS.rg _ hpl).2
      have qk:=(List.getElem?_eq_some_iff.mp kC).1
      have BB:=hF.len
      refine Sv.lq rfl ?_
      walk_at "dt"
      refine Ev.zD ?_
      walk_at "dt"
      refine⟨cP T,rfl,?_⟩
      walk_at "dt"
      have hix:cH (u.map PyData.int).length (pl:Int)=some pl:=by
        unfold cH
        rw[List.length_map]
        repeat (first|rw[if_pos (by omega)]|rw[if_neg (by omega)])
        simp
      refine⟨_,hval,_,_,rfl,hix,?_⟩
      have en: -rc%p= -(ao (aT wd) (R.getD i []))%p:=by
        rw[hg,<-nN,Int.emod_def (ao (aT wd) r),Int.neg_sub,Int.sub_eq_add_neg,Int.add_comm,Int.add_mul_emod_self_left]
      rw[<-List.map_set,en]
      exact⟨_,_,_,_,hF.take (by omega) hwl hS hpl,rfl⟩
    · rw[if_neg (by simpa using c)]
      walk_at "dt"
      by_cases c2:rc=0
      · walk_at "dt"
        refine⟨u,_,_,_,hF.pass c ?_,rfl⟩
        rw[hg]
        exact Int.dvd_of_emod_eq_zero (by omega)
      · walk_at "dt"
        refine Ev.bI CF ?_
        walk_at "dt"
        refine Ev.inv ?_
        walk_at "dt"
        refine⟨p,rc,rfl,hN.hp,cM,by rw[Int.emod_eq_of_lt Hr HC];exact c2,fun inv i0 i1 hinv=>?_⟩
        walk_at "dt"
        have hrl:=hrr.len
        have hrm:(r.map PyData.int).length=r.length:=List.length_map ..
        have iP:dH (r.map PyData.int) (some n) none=(r.drop n.toNat).map PyData.int:=by
          unfold dH HT.dh
          show List.take (_-if n<0 then _ else _) (List.drop (if n<0 then _ else _) _)=_
          rw[if_neg (by omega),hrm,Nat.min_eq_left (by omega),List.map_drop]
          apply List.take_of_length_le
          rw[List.length_drop,hrm]
          exact Nat.le_refl _
        rw[iP]
        have hd:bB p cs.length (r.drop n.toNat):=⟨by rw[List.length_drop];omega,fun x hx=>hrr.rg x (List.mem_of_mem_drop hx)⟩
        refine⟨rfl,p,inv,cs.length,r.drop n.toNat,rfl,by omega,cM,hd,by omega,i0,i1,?_⟩
        walk_at "dt"
        have:=Tw hN hwl hS hi c (u:=inv) (by rw[hg,nN];exact hinv)
        rw[hg] at this
        exact q2 _ this
  · rintro ρ ⟨u,x6,x7,x8,hF,rfl⟩
    rw[nB] at hF
    refine Sv.jB 5 rfl ?_
    walk_at "dt"
    exact q1 u (hF.word hN hwl hS)
theorem qO:bL ["script","stir","cell"] ["script"] (az lE):=⟨rfl,rfl,rfl,by decide+kernel,rfl,by decide+kernel,by decide+kernel⟩
theorem Wy(F:bD K "_law_bag" "_law_bag" lE f fd)(zG:mg "abs"=none):
  bx P w K mg base bA 1 f fd ["script"] (Bh K):=by
 refine F.ok qO (fun vs H Q E h=>?_) (fun cdv A outer s H vs Q E hr h=>?_)
 ·obtain⟨a,ns,rfl,hS,hl,q⟩:=h
  rfl
 obtain⟨a,ns,rfl,hS,hl,q⟩:=h
 refine⟨_,(@aq _ _ _ _ _ (@aM _ _ (1) _ _ _ _ qO.nd rfl (Or.inl rfl) aj (by rfl) (by first|exact .inl rfl|exact .inr rfl|assumption)) (@aq _ _ _ _ _ (@fu _ _ _ _ _ _ _ _ PassesOwn.never rfl (@eu _ _ _ _ (@iM _ _ _ _ _ _ _ _ _ _ i7 (pv 0) ja (@iH _ _ _ aj))) (aO (i:=2) qO.nd rfl (Or.inl rfl)) (@aE _ _ _ (@aM _ _ (1) _ _ _ _ qO.nd rfl (Or.inl rfl) (@aA _ _ _ _ _ _ _ _ dj (@aA _ _ _ _ _ _ _ _ cJ (@aA _ _ _ _ _ _ _ _ cJ (@aA _ _ _ _ _ _ _ _ ez (pv 1) aj) (@aA _ _ _ _ _ _ _ _ dj (pv 2) aj)) aj) aj) (by rfl) (by first|exact .inl rfl|exact .inr rfl|assumption))) (by intro _;rfl)) (@aE _ _ _ (@aQ _ _ _ _ (@dR _ _ _ _ (@aa _ _ _ _ _ (dJ (cz.of (show cK (az lE) ["script","stir","cell"] _ ["cell"] [none]=true by decide+kernel)) (@eu _ _ _ _ (@iM _ _ _ _ _ _ _ _ _ _ i7 (pv 0) ja (@iH _ _ _ aj))) (fun _ _ _ _=>⟨(aO (i:=0) (by show List.Nodup (["cell"]:List Str);decide+kernel) rfl (Or.inl rfl)),gk,(@aA _ _ _ _ _ _ _ _ dj (@cy _ _ _ _ _ _ _ _ _ Uh rfl zG PyProof.Rows.boot_abs (@aa _ _ _ _ _ (pv 0) ak rfl) (by decide) (by decide) (by rfl) (by rfl)) (@aA _ _ _ _ _ _ _ _ rV aj aj))⟩)) (@aa _ _ _ _ _ aj (@aa _ _ _ _ _ aj (@aa _ _ _ _ _ (pv 1) (@aa _ _ _ _ _ aj ak rfl) rfl) rfl) rfl) rfl)))))),?_⟩
 have AH:j3 (ns.map V.int) none (some 63)=ns.map V.int:=by
  have e:(ns.map V.int).length=ns.length:=List.length_map _
  show List.take (min 63 (ns.map V.int).length-0) (List.drop 0 (ns.map V.int))=_
  rw[List.drop_zero]
  exact List.take_of_length_le (by omega)
 walk_at "st"
 refine R.Cy hS fun c hc=>?_
 rw[AH]
 refine R.qC (aL.of bq) ?_
 refine BD (xs:=ns.map V.int) (fun i σ H1=>∃(st:Int) (x:Option V),σ=[some (.ref a),some (.int st),x]/\0<=st/\st<2147483647/\H1=upd H c (.lst (ns.map V.int))) ⟨19,none,rfl,by omega,by omega,rfl⟩ ?_ ?_ ?_
 ·rintro i σ H1 hi ⟨st,x,rfl,h1,h2,rfl⟩
  exact aL.of bq
 ·rintro i x σ H1 hx ⟨st,y,rfl,h1,h2,rfl⟩
  rw[List.getElem?_map] at hx
  obtain⟨n,_,rfl⟩:=Option.map_eq_some_iff.mp hx
  walk_at "st"
  exact⟨_,_,rfl,Int.emod_nonneg _ (by decide),Int.emod_lt_of_pos _ (by decide),rfl⟩
 ·rintro σ H1 ⟨st,x,rfl,h1,h2,rfl⟩
  walk_at "st"
  refine R.Cy ((cV hc).seq hS) fun c2 hc2=>?_
  rw[AH]
  refine R.qC (aL.of bq) ?_
  intro acc hacc
  refine R.BN (xs:=ns.map V.int) (fun i σ H2=>∃(x:Option V),σ=[x]/\H2=upd (upd (upd H c (.lst (ns.map V.int))) c2 (.lst (ns.map V.int))) acc (.lst (((ns.take i).map fun n=>(if n<0 then-n else n)%10^60).map V.int))) ⟨none,rfl,rfl⟩ ?_ ?_ ?_
  ·rintro i σ H1 hi ⟨x,rfl,rfl⟩
   refine aL.of ?_
   rw[aF (gn bq hacc)]
   exact bq
  ·rintro i x σ H1 hx ⟨y,rfl,rfl⟩
   rw[List.getElem?_map] at hx
   obtain⟨n,hn,rfl⟩:=Option.map_eq_some_iff.mp hx
   walk_at "st"
   refine⟨_,bq,?_,_,rfl,?_⟩
   ·rw[List.length_map,List.length_map,List.length_take]
    exact D9 (by omega)
   ·rw[xW,List.take_add_one,hn,List.map_append,List.map_append]
    rfl
  ·rintro σ H1 ⟨x,rfl,rfl⟩
   walk_at "st"
   refine(show z9 _ _ _ from⟨by show 5<=sizeLine;decide,fun p hp=>?_⟩)
   have hn1:=gn (bq (H:=upd (upd H c (.lst (ns.map V.int))) c2 (.lst (ns.map V.int))) (a:=acc)) hp
   have s1:bf H (upd (upd (upd H c (.lst (ns.map V.int))) c2 (.lst (ns.map V.int))) acc (.lst (((ns.take (ns.map V.int).length).map fun n=>(if n<0 then-n else n)%10^60).map V.int))):=(cV hc).trans ((cV hc2).trans (cV hacc))
   refine q p acc _ (s1.trans (cV hp)) (s1.free hp) ⟨_,0,0,st,0,bq,by rw[aF hn1];exact bq,?_,?_,by omega,by omega,by omega,h1,h2⟩
   ·intro y hy
    obtain⟨z,_,rfl⟩:=List.mem_map.mp hy
    exact⟨Int.emod_nonneg _ (by decide),Int.emod_lt_of_pos _ (by decide)⟩
   ·rw[List.length_map,List.length_take]
    omega
theorem qg:bL ["bag","many","found","k"] ["bag","many"] (az mW):=⟨rfl,rfl,rfl,by decide+kernel,rfl,by decide+kernel,by decide+kernel⟩
theorem Jc(F:bD K "_law_stirred" "_law_stirred" mW f fd)(bJ:mg "range"=none):
  bx P w K mg base bA 1 f fd ["bag","many"] g6:=by
 refine F.ok qg (fun vs H Q E h=>?_) (fun cdv A outer s H vs Q E hr h=>?_)
 ·obtain⟨b,l,many,rfl,hB,hm,hs,q⟩:=h
  rfl
 obtain⟨b,l,many,rfl,hB,hm,hs,q⟩:=h
 refine⟨_,(@aq _ _ _ _ _ (@aM _ _ (2) _ _ _ _ qg.nd rfl (Or.inl rfl) aj (by rfl) (by first|exact .inl rfl|exact .inr rfl|assumption)) (@aq _ _ _ _ _ (@fu _ _ _ _ _ _ _ _ PassesOwn.never rfl (@fM _ _ _ _ _ _ rfl bJ (@aa _ _ _ _ _ (@aA _ _ _ _ _ _ _ _ cJ aj (@aA _ _ _ _ _ _ _ _ o8 (Iu PySem.F.plainAttrs_int PySem.F.slot_int_bit_length PySem.F.type_int_bit_length QV (pv 1)) aj)) ak rfl) (by rfl)) (aO (i:=3) qg.nd rfl (Or.inl rfl)) (@aq _ _ _ _ _ (@dX _ _ _ _ _ _ (@aA _ _ _ _ _ _ _ _ cJ (@ay _ _ _ _ _ _ _ aR (pv 0) aj (fun _ _=>rfl)) aj) (fO (pv 0) aj set_list) (by rfl) (by rfl) (by rfl)) (@aq _ _ _ _ _ (@dX _ _ _ _ _ _ (@aA _ _ _ _ _ _ _ _ dj (@aA _ _ _ _ _ _ _ _ cJ (@aA _ _ _ _ _ _ _ _ cJ (@aA _ _ _ _ _ _ _ _ cJ (@aA _ _ _ _ _ _ _ _ rV (@ay _ _ _ _ _ _ _ aR (pv 0) aj (fun _ _=>rfl)) aj) (@aA _ _ _ _ _ _ _ _ ez aj (@ay _ _ _ _ _ _ _ aR (pv 0) aj (fun _ _=>rfl)))) (@aA _ _ _ _ _ _ _ _ ez aj (@ay _ _ _ _ _ _ _ aR (pv 0) aj (fun _ _=>rfl)))) aj) aj) (fO (pv 0) aj set_list) (by rfl) (by rfl) (by rfl)) (@aE _ _ _ (@aM _ _ (2) _ _ _ _ qg.nd rfl (Or.inl rfl) (@aA _ _ _ _ _ _ _ _ cJ (@aA _ _ _ _ _ _ _ _ ez (pv 2) aj) (@aA _ _ _ _ _ _ _ _ o8 (@ay _ _ _ _ _ _ _ aR (pv 0) aj (fun _ _=>rfl)) aj)) (by rfl) (by first|exact .inl rfl|exact .inr rfl|assumption))))) (by intro _;rfl)) (@aE _ _ _ (@aQ _ _ _ _ (@aA _ _ _ _ _ _ _ _ dj (pv 2) (pv 1)))))),?_⟩
 have WO:=zv hs
 walk_at "st"
 refine uv (fun i σ H1=>∃(fv:Int) (x:Option V),σ=[some (.ref b),some (.int many),some (.int fv),x]/\aW (Nb b) H H1/\bR H1 b l) ⟨0,none,rfl,aW.refl _ _,hB⟩ ?_ ?_
 ·rintro i σ H1 hi ⟨fv,x,rfl,bt,ns,j,c,st,n,h1,h2,h3,h4,h5,h6,h7,h8,h9⟩
  have hlb:=C5 h1 h2
  walk_at "st"
  refine⟨_,_,rfl,bt.trans (aW.set rfl),?_⟩
  exact bR.put hlb h2 h3 h4 h5 h6 h7 (Int.emod_nonneg _ (by decide)) (Int.emod_lt_of_pos _ (by decide))
 ·rintro σ H1 ⟨fv,x,rfl,bt,B⟩
  walk_at "st"
  exact q _ _ (Int.emod_nonneg _ (by omega)) (Int.emod_lt_of_pos _ hm) bt B
theorem C1:bL ["bag","many","found"] ["bag","many"] (az mU):=⟨rfl,rfl,rfl,by decide+kernel,rfl,by decide+kernel,by decide+kernel⟩
theorem Ho(F:bD K "_law_draw" "_law_draw" mU f fd)(OJ:Callee P w K mg base "_law_stirred" 1 ["bag","many"] g6)(bT:mg "len"=none):
  bx P w K mg base bA 2 f fd ["bag","many"] g6:=by
 refine F.ok C1 (fun vs H Q E h=>?_) (fun cdv A outer s H vs Q E hr h=>?_)
 ·obtain⟨b,l,many,rfl,hB,hm,hs,q⟩:=h
  rfl
 obtain⟨b,l,many,rfl,hB,hm,hs,q⟩:=h
 refine⟨_,(@aq _ _ _ _ _ (@bS _ _ _ _ _ _ _ _ (PW.pt (iF (@aS _ _ _ _ _ _ _ _ bX (@ay _ _ _ _ _ _ _ aR (pv 0) aj (fun _ _=>rfl)) aj (aK _)) (iY (@aS _ _ _ _ _ _ _ _ qc (@ay _ _ _ _ _ _ _ aR (pv 0) aj (fun _ _=>rfl)) (@cy _ _ _ _ _ _ _ _ _ Gg rfl bT PySem.boot_len (@aa _ _ _ _ _ (@ay _ _ _ _ _ _ _ aR (pv 0) aj (fun _ _=>rfl)) ak rfl) (by decide) (by decide) (by rfl) (by rfl)) (aK _))))) (@aq _ _ _ _ _ (@dX _ _ _ _ _ _ (@ay _ _ _ _ _ _ _ aR (@ay _ _ _ _ _ _ _ aR (pv 0) aj (fun _ _=>rfl)) (@ay _ _ _ _ _ _ _ aR (pv 0) aj (fun _ _=>rfl)) (fun _ _=>rfl)) (fO (pv 0) aj set_list) (by rfl) (by rfl) (by rfl)) (@aE _ _ _ (@dX _ _ _ _ _ _ (@aA _ _ _ _ _ _ _ _ cJ (@ay _ _ _ _ _ _ _ aR (pv 0) aj (fun _ _=>rfl)) aj) (fO (pv 0) aj set_list) (by rfl) (by rfl) (by rfl)))) (@aE _ _ _ (@bS _ _ _ _ _ _ _ _ (@aS _ _ _ _ _ _ _ _ bX (@ay _ _ _ _ _ _ _ aR (pv 0) aj (fun _ _=>rfl)) aj (aK _)) (@aE _ _ _ (@aQ _ _ _ _ (@aI _ _ _ _ _ _ _ _ _ _ OJ (hr.mono (by decide)) (@aa _ _ _ _ _ (pv 0) (@aa _ _ _ _ _ (pv 1) ak rfl) rfl) (by rfl) (by decide) (by rfl) (by rfl)))) cg))) (@aq _ _ _ _ _ (@aM _ _ (2) _ _ _ _ C1.nd rfl (Or.inl rfl) (@aA _ _ _ _ _ _ _ _ dj (@ay _ _ _ _ _ _ _ aR (pv 0) aj (fun _ _=>rfl)) (pv 1)) (by rfl) (by first|exact .inl rfl|exact .inr rfl|assumption)) (@aq _ _ _ _ _ (@dX _ _ _ _ _ _ (@aA _ _ _ _ _ _ _ _ o8 (@ay _ _ _ _ _ _ _ aR (pv 0) aj (fun _ _=>rfl)) (pv 1)) (fO (pv 0) aj set_list) (by rfl) (by rfl) (by rfl)) (@aE _ _ _ (@aQ _ _ _ _ (pv 2)))))),?_⟩
 obtain⟨ns,i,c,st,n,h1,h2,h3,h4,h5,h6,h7,h8,h9⟩:=id hB
 have hlb:=C5 h1 h2
 have fin:∀(H1:Hp) (i' c':Int),H1 b=some (.lst [.ref l, .int i', .int c', .int st, .int n])->aW (Nb b) H H1->0<=i'->0<=c'->c'<10^60->
   ∀(H2:Hp),H2=upd H1 b (.lst [.ref l, .int i', .int (c'/many), .int st, .int n])->Q (.int (c'%many)) H2:=fun H1 i' c' e1 bt g1 g2 g3 H2 e2=>by
  subst e2
  have hd1:0<=c'/many:=Int.ediv_nonneg g2 (by omega)
  have hd2:c'/many<=c':=Int.ediv_le_self _ g2
  exact q _ _ (Int.emod_nonneg _ (by omega)) (Int.emod_lt_of_pos _ hm) (bt.trans (aW.set rfl)) (bR.put hlb (bt _ _ hlb h2) h3 h4 g1 hd1 (by omega) h8 h9)
 walk_at "st"
 refine mR (fun c1=>?_) (fun c1=>?_)
 ·have c1:c=0:=of_decide_eq_true c1
  walk_at "st"
  refine mR (fun c2=>?_) (fun c2=>?_)
  ·have c2:i<(List.map V.int ns).length:=of_decide_eq_true c2
   rw[List.length_map] at c2
   have hi:i.toNat<ns.length:=by omega
   obtain⟨g1,g2⟩:=h3 _ (List.getElem_mem hi)
   walk_at "st"
   refine R.sq h2 (v:= .int ns[i.toNat]) (cW h5 (by rw[List.getElem?_map,List.getElem?_eq_getElem hi];rfl)) ?_
   walk_at "st"
   refine fin (upd H b (.lst [.ref l, .int (i+1), .int ns[i.toNat], .int st, .int n])) (i+1) ns[i.toNat] bq (aW.set rfl) (by omega) g1 g2 _ ?_
   rw[xW]
   rfl
  ·walk_at "st"
   exact⟨b,l,many,rfl,hB,hm,hs,q⟩
 ·have c1:¬c=0:=of_decide_eq_false (Bool.eq_false_iff.mpr c1)
  walk_at "st"
  exact fin H i c h1 (aW.refl _ _) h5 h6 h7 _ rfl
theorem Jy(is:List Int):PyData.eqv (.list (is.map PyData.int)) (.list [])=decide (is=[]):=by
 cases is<;>simp[PyData.eqv,PyData.eqvAll]
theorem PU(is:List Int):SeqAt.shaped (.list (is.map PyData.int))=true:=by
 have h:PyData.depthAll (is.map PyData.int)=0/\PyData.canLayAll0 (is.map PyData.int)=true:=by
  induction is with
  |nil=>simp[PyData.depthAll,PyData.canLayAll0]
  |cons a r ih=>simp[PyData.depthAll,PyData.depth,PyData.canLayAll0,PyData.canLay0,ih.2,ih.1]
 unfold SeqAt.shaped
 simp[PyData.canLay0,PyData.depth,h.2,h.1]
theorem BQ{nb:Addr->Prop}{H:Hp}:∀is:List Int,ai nb H (is.map PyData.int) (is.map V.int)
 |[]=>ai.nil
 |i::is=>ai.cons (.int i) (BQ is)
theorem N4{r:Int}(h0:r<=10100)(h:∀d:Int,2<=d->d<102->¬(d*d<=r/\r%d=0)):pU r:=fun d d1 d2 e=>by
 by_cases hd:d<102
 ·exact h d d1 hd ⟨d2,e⟩
 ·have:102*102<=d*d:=Int.mul_le_mul (by omega) (by omega) (by omega) (by omega)
  omega
theorem Ey:bL ["number","found"] ["number"] (az ki):=⟨rfl,rfl,rfl,by decide+kernel,rfl,by decide+kernel,by decide+kernel⟩
theorem JG(F:bD K "_law_prime_from" "_law_prime_from" ki f fd)(bJ:mg "range"=none):
  bx P w K mg base bA 1 f fd ["number"] yV:=by
 refine F.ok Ey (fun vs H Q E h=>?_) (fun cdv A outer s H vs Q E hr h=>?_)
 ·obtain⟨n,rfl,hn1,hn2,q⟩:=h
  rfl
 obtain⟨n,rfl,hn1,hn2,q⟩:=h
 refine⟨_,(@aq _ _ _ _ _ (@fu _ _ _ _ _ _ _ _ PassesOwn.never rfl (@Bw _ _ _ _ _ _ _ rfl bJ (@aa _ _ _ _ _ (pv 0) (@aa _ _ _ _ _ (@aA _ _ _ _ _ _ _ _ cJ (pv 0) aj) ak rfl) rfl) (by rfl) (by rfl)) (aO (i:=1) Ey.nd rfl (Or.inr rfl)) (@aE _ _ _ (@bS _ _ _ _ _ _ _ _ (@aS _ _ _ _ _ _ _ _ (KD hr.units) (dJ (cz.of (show cK (az ki) ["number","found"] _ ["k","found"] [none,some 1]=true by decide+kernel)) (@Bw _ _ _ _ _ _ _ rfl bJ (@aa _ _ _ _ _ aj (@aa _ _ _ _ _ aj ak rfl) rfl) (by rfl) (by rfl)) (fun _ _ _ _=>⟨(aO (i:=0) (by show List.Nodup (["k","found"]:List Str);decide+kernel) rfl (Or.inl rfl)),(gJ (PW.pt (iF (@aS _ _ _ _ _ _ _ _ BZ (@aA _ _ _ _ _ _ _ _ ez (pv 0) (pv 0)) (pv 1) (aK _)) (iY (@aS _ _ _ _ _ _ _ _ bX (@aA _ _ _ _ _ _ _ _ dj (pv 1) (pv 0)) aj (aK _)))))),(pv 0)⟩)) (@dR _ _ _ _ ak) (aK _)) (@aE _ _ _ (@aQ _ _ _ _ (pv 1))) cg)) (by intro _;rfl)) (@aE _ _ _ (@aQ _ _ _ _ aj))),?_⟩
 walk_at "st"
 refine uv (fun i σ H1=>bf H H1/\∃(x:Option V),σ=[some (.int n),x]) ⟨bf.refl _,none,rfl⟩ ?_ ?_
 ·rintro i σ H1 hi ⟨s1,x,rfl⟩
  have hi2:(i:Int)<60:=by omega
  walk_at "st"
  intro acc hacc
  refine R.DW (fun j σ H2=>bf H1 H2/\(∃x:Option V,σ=[x,some (.int (n+i))])/\∃is:List Int,H2 acc=some (.lst (is.map V.int))/\is.length<=j/\(is=[]->∀d:Int,2<=d->d<2+j->¬(d*d<=n+i/\(n+i)%d=0))) ?_ ?_ ?_
  ·exact⟨cV hacc,⟨none,rfl⟩,[],bq,Nat.zero_le _,fun _ d d1 d2=>by omega⟩
  ·rintro j σ H2 hj ⟨s2,⟨x,rfl⟩,is,e2,l2,h2⟩
   have hj2:(j:Int)<100:=by omega
   have next:∀d:Int,d<2+((j+1:Nat):Int)->d<2+j\/d=2+j:=fun d h=>by omega
   walk_at "st"
   refine mR (fun c1=>?_) (fun c1=>?_)
   ·have c1:(2+(j:Int))*(2+j)<=n+i:=of_decide_eq_true c1
    walk_at "st"
    refine mR (fun c2=>?_) (fun c2=>?_)
    ·have c2:(n+i)%(2+(j:Int))=0:=of_decide_eq_true c2
     walk_at "st"
     refine⟨_,e2,?_,?_,⟨_,rfl⟩,is++[2+(j:Int)],?_,?_,fun e=>?_⟩
     ·rw[List.length_map];exact D9 (by omega)
     ·exact fun a o h=>by rw[aF (gn h hacc)];exact s2 _ _ h
     ·rw[bq,List.map_append];rfl
     ·rw[List.length_append,List.length_singleton];omega
     ·simp at e
    ·have c2:¬(n+i)%(2+(j:Int))=0:=of_decide_eq_false (Bool.eq_false_iff.mpr c2)
     refine⟨s2,⟨_,rfl⟩,is,e2,by omega,fun e d d1 d2=>?_⟩
     rcases next d d2 with h|h
     ·exact h2 e d d1 h
     ·rw[h];exact fun z=>c2 z.2
   ·have c1:¬(2+(j:Int))*(2+j)<=n+i:=of_decide_eq_false (Bool.eq_false_iff.mpr c1)
    walk_at "st"
    refine⟨s2,⟨_,rfl⟩,is,e2,by omega,fun e d d1 d2=>?_⟩
    rcases next d d2 with h|h
    ·exact h2 e d d1 h
    ·rw[h];exact fun z=>c1 z.1
  ·rintro σ H2 ⟨s2,⟨x,rfl⟩,is,e2,l2,h2⟩
   walk_at "st"
   refine R.Ol (by decide) fun p H3 s3 f3 e3=>?_
   refine⟨fun _=>False, .list (is.map PyData.int), .list [], .lst id (s3 _ _ e2) (BQ is), .lst id e3 ai.nil,PU is,by decide,?_⟩
   rw[Jy]
   walk_at "st"
   have s:bf H H3:=s1.trans (s2.trans s3)
   refine mR (fun c=>?_) (fun c=>?_)
   ·have c:is=[]:=by simpa using c
    walk_at "st"
    exact q _ _ s (by omega) (by omega) (N4 (by omega) fun d d1 d2=>h2 c d d1 (by omega))
   ·walk_at "st"
    exact⟨s,_,rfl⟩
 ·rintro σ H1 ⟨s1,x,rfl⟩
  walk_at "st"
  refine q _ _ s1 (by omega) (by omega) fun d d1 d2=>?_
  have:2*2<=d*d:=Int.mul_le_mul d1 d1 (by omega) (by omega)
  omega
def p8:DF:=fun ds Φ=>ds=[]/\∀p:Int,eW p->p<10^40->∀f,Φ f (.int p)
theorem Qk:cF p8:=by
 intro ds Φ Ψ hm z
 obtain⟨e,q⟩:=hm
 exact⟨e,fun p h1 h2 f=>z _ _ (q p h1 h2 f)⟩
theorem IL:∀x∈([2,3,5,7,2,11,101,10007,65537,1000003,998244353,1000000007,2147483647,1000000000039,10^Int.toNat 39+3,10^Int.toNat 40-17,2305843009213693951,618970019642690137449562111,162259276829213363391578010288127,170141183460469231731687303715884105727]:List Int),x∈sN/\x<10^40:=by decide
theorem oZ:bL ["bag","some","way"] ["bag"] (az lJ):=⟨rfl,rfl,rfl,by decide+kernel,rfl,by decide+kernel,by decide+kernel⟩
theorem JP(F:bD K "_law_prime" "_law_prime" lJ f fd)(bY:Callee P w K mg base "_law_draw" 2 ["bag","many"] g6)(K0:Callee P w K mg base "_law_prime_from" 1 ["number"] yV):
  bx P w K mg base bA 3 f fd ["bag"] (er 1 p8):=by
 refine F.ok oZ (fun vs H Q E h=>h.1) (fun cdv A outer s H vs Q E hr h=>?_)
 obtain⟨_,b,l,ws,nb,ds,rfl,hB,hlive,hnb,hds,hF⟩:=h
 obtain⟨Φ,aG,hF⟩:∃Φ:Pd,(∀f d v H',Φ f d->aW (Nb b) H H'->bR H' b l->af (fun a=>nb a\/(f=true/\H a≠none)) H' d v->Q v H')/\p8 ds Φ:=⟨_,fun f d v H' q=>q v H',hF⟩
 obtain⟨rfl,q⟩:=hF
 refine⟨_,(@aq _ _ _ _ _ (@Qv _ 1 _ _ _ _ _ _ oZ.nd rfl (Or.inl rfl) rfl (Or.inl rfl)) (@aq _ _ _ _ _ (@aM _ _ (1) _ _ _ _ oZ.nd rfl (Or.inl rfl) (@aA _ _ _ _ _ _ _ _ mQ (pv 1) (@dR _ _ _ _ (@aa _ _ _ _ _ (@aA _ _ _ _ _ _ _ _ cJ (@aA _ _ _ _ _ _ _ _ rV aj aj) aj) (@aa _ _ _ _ _ (@aA _ _ _ _ _ _ _ _ iD (@aA _ _ _ _ _ _ _ _ rV aj aj) aj) (@aa _ _ _ _ _ aj (@aa _ _ _ _ _ aj ak rfl) rfl) rfl) rfl))) (by rfl) (by first|exact .inl rfl|exact .inr rfl|assumption)) (@aq _ _ _ _ _ (@aM _ _ (1) _ _ _ _ oZ.nd rfl (Or.inl rfl) (@aA _ _ _ _ _ _ _ _ mQ (pv 1) (@dR _ _ _ _ (@aa _ _ _ _ _ aj (@aa _ _ _ _ _ aj ak rfl) rfl))) (by rfl) (by first|exact .inl rfl|exact .inr rfl|assumption)) (@aq _ _ _ _ _ (@aM _ _ (2) _ _ _ _ oZ.nd rfl (Or.inl rfl) (@aI _ _ _ _ _ _ _ _ _ _ bY (hr.mono (by decide)) (@aa _ _ _ _ _ (pv 0) (@aa _ _ _ _ _ aj ak rfl) rfl) (by rfl) (by decide) (by rfl) (by rfl)) (by rfl) (by first|exact .inl rfl|exact .inr rfl|assumption)) (@aE _ _ _ (@aQ _ _ _ _ (@i6 _ _ _ _ _ _ _ _ (@aS _ _ _ _ _ _ _ _ qc (pv 2) aj (aK _)) (@ay _ _ _ _ _ _ (bh K) aR (pv 1) (pv 2) (fun _ _=>rfl)) (@aI _ _ _ _ _ _ _ _ _ _ K0 (hr.mono (by decide)) (@aa _ _ _ _ _ (@aA _ _ _ _ _ _ _ _ cJ aj (@aI _ _ _ _ _ _ _ _ _ _ bY (hr.mono (by decide)) (@aa _ _ _ _ _ (pv 0) (@aa _ _ _ _ _ aj ak rfl) rfl) (by rfl) (by decide) (by rfl) (by rfl))) ak rfl) (by rfl) (by decide) (by rfl) (by rfl))))))))),?_⟩
 refine Sv.j7 hB hlive hnb hds aG (ρ:=[.au, .no, .no]) rfl ?_
 clear aG hds
 walk_at "dt"
 intro way w1 w2
 by_cases c:way<20
 ·walk_at "dt"
  obtain⟨m,em,hm1,hm2⟩:=pick (L:=[2,3,5,7,2,11,101,10007,65537,1000003,998244353,1000000007,2147483647,1000000000039,10^Int.toNat 39+3,10^Int.toNat 40-17,2305843009213693951,618970019642690137449562111,162259276829213363391578010288127,170141183460469231731687303715884105727]) (k:=way) w1 (by show _<(20:Int);omega) _ IL
  refine⟨_,em,?_⟩
  exact q m (RI m hm1) hm2 _
 ·walk_at "dt"
  intro r r1 r2
  walk_at "dt"
  exact fun r' h1 h2=>q r' h1 h2 _
def qX:DF:=fun ds Φ=>∃p a b:Int,ds=[.int p, .int a, .int b]/\eW p/\p<10^40/\b%p≠0/\ -(10^61)<=a/\a<=10^61/\((∃k,b*sol p b a-a=p*k)->Φ true (.int (sol p b a)))
theorem MY:cF qX:=by
 intro ds Φ Ψ hm z
 obtain⟨p,a,b,e,h1,h2,h3,h4,h5,q⟩:=hm
 exact⟨p,a,b,e,h1,h2,h3,h4,h5,fun h=>z _ _ (q h)⟩
theorem iJ:bL ["p","a","b","old","new","one","two","times_v"] ["p","a","b"] (az m9):=⟨rfl,rfl,rfl,by decide+kernel,rfl,by decide+kernel,by decide+kernel⟩
theorem Sz(F:bD K "_law_over" "_law_over" m9 f fd):
  bx P w K mg base bA 1 f fd ["p","a","b"] (aZ 3 qX):=by
 refine F.ok iJ (fun vs H Q E h=>h.1) (fun cdv A outer s H vs Q E hr h=>?_)
 obtain⟨_,nb,ds,hlive,hds,hF⟩:=h
 obtain⟨Φ,aG,hF⟩:∃Φ:Pd,(∀f d v H',Φ f d->bf H H'->af (fun a=>nb a\/(f=true/\H a≠none)) H' d v->Q v H')/\qX ds Φ:=⟨_,fun f d v H' q=>q v H',hF⟩
 obtain⟨p,a,b,rfl,hp,dD,hb,a0,a1,q⟩:=hF
 refine⟨_,(@aq _ _ _ _ _ (@dX _ _ _ _ _ _ (@gR _ _ _ _ _ (@aa _ _ _ _ _ (@aA _ _ _ _ _ _ _ _ dj (pv 2) (pv 0)) (@aa _ _ _ _ _ (pv 0) (@aa _ _ _ _ _ aj (@aa _ _ _ _ _ aj ak rfl) rfl) rfl) rfl)) (@gh _ (K) _ _ _ (4) _ rfl rfl (@bO _ _ _ _ _ (aO (i:=3) iJ.nd rfl (Or.inl rfl)) (@bO _ _ _ _ _ (aO (i:=4) iJ.nd rfl (Or.inl rfl)) (@bO _ _ _ _ _ (aO (i:=5) iJ.nd rfl (Or.inl rfl)) (@bO _ _ _ _ _ (aO (i:=6) iJ.nd rfl (Or.inl rfl)) fQ (by rfl)) (by rfl)) (by rfl)) (by rfl)) (by rfl) (by rfl)) (by rfl) (by rfl) (by rfl)) (@aq _ _ _ _ _ (@EW _ _ _ _ _ _ PassesOwn.never (@aS _ _ _ _ _ _ _ _ fL (pv 4) aj (aK _)) (@aq _ _ _ _ _ (@aM _ _ (7) _ _ _ _ iJ.nd rfl (Or.inl rfl) (@aA _ _ _ _ _ _ _ _ o8 (pv 3) (pv 4)) (by rfl) (by first|exact .inl rfl|exact .inr rfl|assumption)) (@aE _ _ _ (@dX _ _ _ _ _ _ (@gR _ _ _ _ _ (@aa _ _ _ _ _ (pv 4) (@aa _ _ _ _ _ (@aA _ _ _ _ _ _ _ _ iD (pv 3) (@aA _ _ _ _ _ _ _ _ ez (pv 7) (pv 4))) (@aa _ _ _ _ _ (pv 6) (@aa _ _ _ _ _ (@aA _ _ _ _ _ _ _ _ iD (pv 5) (@aA _ _ _ _ _ _ _ _ ez (pv 7) (pv 6))) ak rfl) rfl) rfl) rfl)) (@gh _ (K) _ _ _ (4) _ rfl rfl (@bO _ _ _ _ _ (aO (i:=3) iJ.nd rfl (Or.inl rfl)) (@bO _ _ _ _ _ (aO (i:=4) iJ.nd rfl (Or.inl rfl)) (@bO _ _ _ _ _ (aO (i:=5) iJ.nd rfl (Or.inl rfl)) (@bO _ _ _ _ _ (aO (i:=6) iJ.nd rfl (Or.inl rfl)) fQ (by rfl)) (by rfl)) (by rfl)) (by rfl)) (by rfl) (by rfl)) (by rfl) (by rfl) (by rfl))))) (@aE _ _ _ (@aQ _ _ _ _ (@aA _ _ _ _ _ _ _ _ dj (@aA _ _ _ _ _ _ _ _ ez (pv 1) (pv 5)) (pv 0)))))),?_⟩
 refine Sv.dY hlive hds aG (ρ:=[.d false _, .d false _, .d false _, .no, .no, .no, .no, .no]) rfl ?_
 clear aG hds
 have p2:=hp.1
 have m1:=Int.emod_nonneg b (show p≠0 by omega)
 have m2:=Int.emod_lt_of_pos b (show 0<p by omega)
 walk_at "dt"
 show jK _ _ _ _ [PyData.int (b%p), .int p, .int 1, .int 0] _
 walk_at "dt"
 refine Sv.KS (fun ρ=>∃(L lt r t:Int) (x6:Sl),ρ=[.d false (.int p), .d false (.int a), .d false (.int b), .d true (.int L), .d true (.int r), .d true (.int lt), .d true (.int t),x6]/\(-p<=lt/\lt<=p)/\((L=b%p/\r=p/\lt=1/\t=0)\/Eu p b L lt r t)) (fun ρ:Rh=>match ρ[4]? with|some (Sl.d _ (PyData.int r))=>r.toNat|_=>0) ⟨_,_,_,_,_,rfl,by omega, .inl ⟨rfl,rfl,rfl,rfl⟩⟩ ?_
 rintro ρ ⟨L,lt,r,t,x6,rfl,hlt,hI⟩
 by_cases c:r=0
 ·rcases hI with ⟨_,h,_,_⟩|hE
  ·omega
  subst c
  obtain⟨k,hk⟩:=hE.fin hp hb
  obtain⟨t1,t2⟩:=hE.tb
  have sa:Sm a:=by unfold Sm;omega
  have sl:Sm lt:=by unfold Sm;omega
  walk_at "dt"
  have e:=Int.mul_ediv_add_emod (a*lt) p
  have ef:=Int.mul_ediv_add_emod lt p
  have ex:∃k,b*(a*lt%p)-a=p*k:=⟨a*k+a*(lt/p)*b-a*lt/p*b,by
   generalize a*lt/p=Q1 at*
   generalize a*lt%p=R1 at*
   generalize lt/p=Q2 at*
   generalize lt%p=R2 at*
   have h1:R1=a*lt-p*Q1:=by omega
   have h2:lt=p*Q2+R2:=by omega
   rw[h1]
   have h3:a*(R2*b)=a*(1+p*k):=by rw[hk]
   grind⟩
  have es:=Vm (x:=a*lt%p) (a:=a) hp hb (Int.emod_nonneg _ (by omega)) (Int.emod_lt_of_pos _ (by omega)) ex
  rw[es]
  rw[es] at ex
  exact q ex
 ·rcases hI with ⟨rfl,rfl,rfl,rfl⟩|hE
  ·have e0:b%r/r=0:=Int.ediv_eq_zero_of_lt m1 m2
   walk_at "dt"
   show jK _ _ _ _ [PyData.int r, .int (b%r-b%r/r*r), .int 0, .int (1-b%r/r*0)] _
   rw[e0]
   walk_at "dt"
   refine⟨⟨_,_,_,_,_,rfl,by omega, .inr ?_⟩,?_⟩
   ·rw[Int.zero_mul,Int.sub_zero,Int.mul_zero,Int.sub_zero]
    exact Eu.start p2
   ·show(b%r-0*r).toNat<r.toNat
    rw[Int.zero_mul];omega
  ·obtain⟨t1,t2⟩:=hE.tb
   have e1:=hE.l0
   have e2:=hE.r0
   have e3:=hE.lp
   have e4:=hE.rp
   have hr:0<r:=by omega
   have q1:0<=L/r:=Int.ediv_nonneg (by omega) (by omega)
   have q2:L/r<=L:=Int.ediv_le_self _ (by omega)
   obtain⟨N1,N2⟩:=hE.next hr
   walk_at "dt"
   show jK _ _ _ _ [PyData.int r, .int (L-L/r*r), .int t, .int (lt-L/r*t)] _
   walk_at "dt"
   exact⟨⟨_,_,_,_,_,rfl,⟨t1,t2⟩, .inr N1⟩,by show(L-L/r*r).toNat<r.toNat;omega⟩
def pQ:DF:=fun ds Φ=>∃(p:Int) (prs:aH) (wd:Wo),ds=[.int p,bH prs,cX wd]/\0<p/\prs.length<=10000/\BP prs wd.length/\CA wd/\Φ true (.int (aV prs wd%p))
theorem BK:cF pQ:=by
 intro ds Φ Ψ hm z
 obtain⟨p,prs,wd,e,h1,h2,h3,h4,q⟩:=hm
 exact⟨p,prs,wd,e,h1,h2,h3,h4,z _ _ q⟩
theorem Ja:bL ["p","pairs","word"] ["p","pairs","word"] (az kX):=⟨rfl,rfl,rfl,by decide+kernel,rfl,by decide+kernel,by decide+kernel⟩
theorem SX(F:bD K "_law_sum" "_law_sum" kX f fd)(jk:mg "sum"=none):
    bx P w K mg base bA 1 f fd ["p","pairs","word"] (aZ 3 pQ):=by
  refine F.ok Ja (fun vs H Q E h=>h.1) (fun cdv A outer s H vs Q E hr h=>?_)
  obtain⟨_,nb,ds,hlive,hds,hF⟩:=h
  obtain⟨Φ,aG,hF⟩:∃Φ:Pd,(∀f d v H',Φ f d->bf H H'->af (fun a=>nb a\/(f=true/\H a≠none)) H' d v->Q v H')/\pQ ds Φ:=⟨_,fun f d v H' q=>q v H',hF⟩
  obtain⟨p,prs,wd,rfl,hp,hl,h1,h2,q⟩:=hF
  refine⟨_,(@aE _ _ _ (@aQ _ _ _ _ (@aA _ _ _ _ _ _ _ _ dj (@cy _ _ _ _ _ _ _ _ (nI K) (zL rfl) rfl jk PyProof.Rows.boot_sum (@aa _ _ _ _ _ (dJ (cz.of (show cK (az kX) ["p","pairs","word"] _ ["place","factor","word"] [none,none,some 2]=true by decide+kernel)) (@eu _ _ _ _ (pv 1)) (fun _ _ _ _=>⟨(@gh _ (K) _ _ _ (2) _ rfl rfl (@bO _ _ _ _ _ (aO (i:=0) (by show List.Nodup (["place","factor","word"]:List Str);decide+kernel) rfl (Or.inl rfl)) (@bO _ _ _ _ _ (aO (i:=1) (by show List.Nodup (["place","factor","word"]:List Str);decide+kernel) rfl (Or.inl rfl)) fQ (by rfl)) (by rfl)) (by rfl) (by rfl)),(gJ (@aS _ _ _ _ _ _ _ _ jb (@ay _ _ _ _ _ _ (bh K) aR (pv 2) (pv 0) (fun _ _=>rfl)) dS (aK _))),(@aA _ _ _ _ _ _ _ _ ez (pv 1) (@ay _ _ _ _ _ _ (bh K) aR (pv 2) (pv 0) (fun _ _=>rfl)))⟩)) ak rfl) (by decide) (by decide) (by rfl) (by rfl)) (pv 0)))),?_⟩
  refine Sv.dY hlive hds aG (ρ:=[.d false _, .d false _, .d false _]) rfl ?_
  clear aG hds
  walk_at "dt"
  refine aC.ev (aC.iE (by decide) rfl ?_)
  walk_at "dt"
  refine⟨by rw[List.length_map];exact hl,fun v=>⟨false,fun i ds=>∃ns:List Int,ds=ns.map .int/\ns.sum=aV (prs.take i) wd,⟨[],rfl,by simp[aV]⟩,?_,?_⟩⟩
  · rintro i d ds hd hl' ⟨ns,rfl,hs⟩
    obtain⟨pr,br,rfl⟩:=eF hd
    obtain⟨g1,g2,g3⟩:=h1 pr (List.mem_of_getElem? br)
    obtain⟨o,ho,hat⟩:=jj (xs:=wd) bw g1 g2 rfl
    have hi:i<prs.length:=(List.getElem?_eq_some_iff.mp br).1
    have xH:=xq (wd:=wd) hi
    have M6:prs[i]=pr:=(List.getElem?_eq_some_iff.mp br).2
    rw[M6] at xH
    walk_at "dt"
    refine⟨by walk_at "wk",?_⟩
    walk_at "dt"
    rw[iz]
    cases o with
    | none =>
      walk_at "dt"
      refine⟨ns,rfl,?_⟩
      rw[xH,hs]
      unfold fP
      rw[ho];simp
    | some x =>
      have hx:Sm x:=h2 x (List.mem_of_getElem? ho)
      have vg:aU (wd.map bw) pr.1=some (.int x):=hat
      walk_at "dt"
      refine⟨ns++[pr.2*x],by simp,?_⟩
      rw[xH,List.sum_append,hs]
      unfold fP
      rw[ho];simp
  · rintro ds hl' ⟨ns,rfl,hs⟩
    rw[List.length_map,List.take_length] at hs
    refine⟨ns,rfl,?_⟩
    rw[hs]
    walk_at "dt"
    exact q
def sI:DF:=fun ds Φ=>∃p n:Int,ds=[.int p, .int n]/\BC p/\0<=n/\n<=10000/\∀os:List Int,(os.length:Int)=n->(∀x∈os,0<=x/\x<p)->Φ true (.list (os.map .int))
theorem Pq:cF sI:=by
 intro ds Φ Ψ hm z
 obtain⟨p,n,e,h1,h2,h3,q⟩:=hm
 exact⟨p,n,e,h1,h2,h3,fun os a b=>z _ _ (q os a b)⟩
theorem CK:bL ["bag","p","n","way"] ["bag","p","n"] (az jU):=⟨rfl,rfl,rfl,by decide+kernel,rfl,by decide+kernel,by decide+kernel⟩
theorem Jw(F:bD K "_law_letters" "_law_letters" jU f fd)(bY:Callee P w K mg base "_law_draw" 2 ["bag","many"] g6)(bJ:mg "range"=none)(jc:mg "int"=none)(tP:mg "min"=none):
  bx P w K mg base bA 3 f fd ["bag","p","n"] (er 3 sI):=by
 refine F.ok CK (fun vs H Q E h=>h.1) (fun cdv A outer s H vs Q E hr h=>?_)
 obtain⟨_,b,l,ws,nb,ds,rfl,hB,hlive,hnb,hds,hF⟩:=h
 obtain⟨Φ,aG,hF⟩:∃Φ:Pd,(∀f d v H',Φ f d->aW (Nb b) H H'->bR H' b l->af (fun a=>nb a\/(f=true/\H a≠none)) H' d v->Q v H')/\sI ds Φ:=⟨_,fun f d v H' q=>q v H',hF⟩
 obtain⟨p,n,rfl,⟨p2,Xd⟩,n0,n1,q⟩:=hF
 refine⟨_,(@aq _ _ _ _ _ (@aM _ _ (3) _ _ _ _ CK.nd rfl (Or.inr rfl) (@aI _ _ _ _ _ _ _ _ _ _ bY (hr.mono (by decide)) (@aa _ _ _ _ _ (pv 0) (@aa _ _ _ _ _ aj ak rfl) rfl) (by rfl) (by decide) (by rfl) (by rfl)) (by rfl) (by first|exact .inl rfl|exact .inr rfl|assumption)) (@aq _ _ _ _ _ (@bS _ _ _ _ _ _ _ _ (@aS _ _ _ _ _ _ _ _ bX (pv 3) aj (aK _)) (@aE _ _ _ (@aQ _ _ _ _ (dJ (cz.of (show cK (az jU) ["bag","p","n","way"] _ ["k","bag","p"] [none,some 0,some 1]=true by decide+kernel)) (@fM _ _ _ _ _ _ rfl bJ (@aa _ _ _ _ _ (pv 2) ak rfl) (by rfl)) (fun _ _ _ _=>⟨(aO (i:=0) (by show List.Nodup (["k","bag","p"]:List Str);decide+kernel) rfl (Or.inl rfl)),gk,(@aA _ _ _ _ _ _ _ _ ez (@aI _ _ _ _ _ _ _ _ _ _ bY (hr.mono (by decide)) (@aa _ _ _ _ _ (pv 1) (@aa _ _ _ _ _ (pv 2) ak rfl) rfl) (by rfl) (by decide) (by rfl) (by rfl)) (@lC _ _ _ _ _ _ _ _ _ C2 rfl jc PyProof.Rows.boot_int (@aa _ _ _ _ _ (@eG _ _ _ _ _ _ _ _ bX (@aI _ _ _ _ _ _ _ _ _ _ bY (hr.mono (by decide)) (@aa _ _ _ _ _ (pv 1) (@aa _ _ _ _ _ aj ak rfl) rfl) (by rfl) (by decide) (by rfl) (by rfl)) aj (aK _)) ak rfl) (by decide) (by decide) (by rfl) (by rfl)))⟩)))) cg) (@aE _ _ _ (@aQ _ _ _ _ (dJ (cz.of (show cK (az jU) ["bag","p","n","way"] _ ["k","bag","p","way"] [none,some 0,some 1,some 3]=true by decide+kernel)) (@fM _ _ _ _ _ _ rfl bJ (@aa _ _ _ _ _ (pv 2) ak rfl) (by rfl)) (fun _ _ _ _=>⟨(aO (i:=0) (by show List.Nodup (["k","bag","p","way"]:List Str);decide+kernel) rfl (Or.inl rfl)),gk,(@aI _ _ _ _ _ _ _ _ _ _ bY (hr.mono (by decide)) (@aa _ _ _ _ _ (pv 1) (@aa _ _ _ _ _ (@ay _ _ _ _ _ _ (bh K) aR (@dR _ _ _ _ (@aa _ _ _ _ _ (pv 2) (@aa _ _ _ _ _ (@cy _ _ _ _ _ _ _ _ _ (Qt rfl) rfl tP PyProof.Rows.boot_min (@aa _ _ _ _ _ (pv 2) (@aa _ _ _ _ _ aj ak rfl) rfl) (by decide) (by decide) (by rfl) (by rfl)) ak rfl) rfl)) (pv 3) (fun _ _=>rfl)) ak rfl) rfl) (by rfl) (by decide) (by rfl) (by rfl))⟩)))))),?_⟩
 refine Sv.j7 hB hlive hnb hds aG (ρ:=[.au, .d false _, .d false _, .no]) rfl ?_
 clear aG hds
 walk_at "dt"
 intro way w1 w2
 by_cases c:way=2
 ·walk_at "dt"
  refine aC.ev (aC.ia (by decide) rfl ?_)
  walk_at "dt"
  refine fF.ints (fun x=>0<=x/\x<p) ?_ fun os gc hos=>q os (by omega) hos
  rintro i d ⟨hi,rfl⟩
  walk_at "dt"
  refine⟨by walk_at "wk",?_⟩
  walk_at "dt"
  intro r r1 r2
  walk_at "dt"
  intro s s1 s2
  by_cases c2:s=3
  ·walk_at "dt"
   rw[decide_eq_true c2]
   exact⟨by simp;omega,by simp;omega⟩
  ·walk_at "dt"
   rw[decide_eq_false c2]
   exact⟨by simp,by simp;omega⟩
 ·obtain⟨m,em,m1,m2⟩:∃m:Int,aU [PyData.int p, .int (if 3<p then 3 else p)] way=some (.int m)/\1<=m/\m<=p:=by
   rcases(show way=0\/way=1 by omega) with rfl|rfl
   ·exact⟨p,rfl,by omega,by omega⟩
   ·exact⟨_,rfl,by split<;>omega,by split<;>omega⟩
  walk_at "dt"
  refine aC.ev (aC.ia (by decide) rfl ?_)
  walk_at "dt"
  refine fF.ints (fun x=>0<=x/\x<p) ?_ fun os gc hos=>q os (by omega) hos
  rintro i d ⟨hi,rfl⟩
  walk_at "dt"
  refine⟨by walk_at "wk",?_⟩
  walk_at "dt"
  exact fun r r1 r2=>⟨r,rfl,r1,by omega⟩
def sA:Option aH->PyData
 |none=> .none
 |some prs=>bH prs
def p7:DF:=fun ds Φ=>∃(p wide:Int) (wd:List Int),ds=[.int p, .list (wd.map .int), .int wide]/\eW p/\p<10^40/\1<=wd.length/\wd.length<=400/\(∀x∈wd,0<=x/\x<p)/\1<=wide/\wide<=60/\∀(o:Option aH) (f:Bool),(∀prs,o=some prs->gz p wd.length prs/\aV prs (wd.map some)%p=0)->Φ f (sA o)
theorem VX:cF p7:=by
 intro ds Φ Ψ hm z
 obtain⟨p,w,wd,e,h1,h2,h3,h4,h5,h6,h7,q⟩:=hm
 exact⟨p,w,wd,e,h1,h2,h3,h4,h5,h6,h7,fun o f h=>z _ _ (q o f h)⟩
theorem nk:bL ["bag","p","word","wide","n","places","pairs","rest","last"] ["bag","p","word","wide"] (az jI):=⟨rfl,rfl,rfl,by decide+kernel,rfl,by decide+kernel,by decide+kernel⟩
theorem Kz(F:bD K "_law_planted_check" "_law_planted_check" jI f fd)(ya:Callee P w K mg base "_law_sum" 1 ["p","pairs","word"] (aZ 3 pQ))(bY:Callee P w K mg base "_law_draw" 2 ["bag","many"] g6)(U0:Callee P w K mg base "_law_over" 1 ["p","a","b"] (aZ 3 qX))(bT:mg "len"=none)(vU:mg "sorted"=none)(ur:mg "set"=none)(bJ:mg "range"=none):
  bx P w K mg base bA 3 f fd ["bag","p","word","wide"] (er 4 p7):=by
 refine F.ok nk (fun vs H Q E h=>h.1) (fun cdv A outer s H vs Q E hr h=>?_)
 obtain⟨_,b,l,ws,nb,ds,rfl,hB,hlive,hnb,hds,hF⟩:=h
 obtain⟨Φ,aG,hF⟩:∃Φ:Pd,(∀f d v H',Φ f d->aW (Nb b) H H'->bR H' b l->af (fun a=>nb a\/(f=true/\H a≠none)) H' d v->Q v H')/\p7 ds Φ:=⟨_,fun f d v H' q=>q v H',hF⟩
 obtain⟨p,wide,wd,rfl,hp,dD,w1,w2,cB,d1,d2,q⟩:=hF
 refine⟨_,(@aq _ _ _ _ _ (@aM _ _ (4) _ _ _ _ nk.nd rfl (Or.inr rfl) (@cy _ _ _ _ _ _ _ _ (fk K) gx rfl bT PySem.boot_len (@aa _ _ _ _ _ (pv 2) ak rfl) (by decide) (by decide) (by rfl) (by rfl)) (by rfl) (by first|exact .inl rfl|exact .inr rfl|assumption)) (@aq _ _ _ _ _ (@aM _ _ (5) _ _ _ _ nk.nd rfl (Or.inl rfl) (@cy _ _ _ _ _ _ _ _ (wu P w) (SH rfl) rfl vU PyProof.Rows.boot_sorted (@aa _ _ _ _ _ (@lC _ _ _ _ _ _ _ _ (z0 P w K) (MZ rfl) rfl ur PyProof.Rows.boot_set (@aa _ _ _ _ _ (dJ (cz.of (show cK (az jI) ["bag","p","word","wide","n","places","pairs","rest","last"] _ ["k","bag","n"] [none,some 0,some 4]=true by decide+kernel)) (@fM _ _ _ _ _ _ rfl bJ (@aa _ _ _ _ _ (@aA _ _ _ _ _ _ _ _ cJ aj (@aI _ _ _ _ _ _ _ _ _ _ bY (hr.mono (by decide)) (@aa _ _ _ _ _ (pv 0) (@aa _ _ _ _ _ (pv 3) ak rfl) rfl) (by rfl) (by decide) (by rfl) (by rfl))) ak rfl) (by rfl)) (fun _ _ _ _=>⟨(aO (i:=0) (by show List.Nodup (["k","bag","n"]:List Str);decide+kernel) rfl (Or.inl rfl)),gk,(@aI _ _ _ _ _ _ _ _ _ _ bY (hr.mono (by decide)) (@aa _ _ _ _ _ (pv 1) (@aa _ _ _ _ _ (pv 2) ak rfl) rfl) (by rfl) (by decide) (by rfl) (by rfl))⟩)) ak rfl) (by decide) (by decide) (by rfl) (by rfl)) ak rfl) (by decide) (by decide) (by rfl) (by rfl)) (by rfl) (by first|exact .inl rfl|exact .inr rfl|assumption)) (@aq _ _ _ _ _ (oz (i:=6) nk.nd rfl rfl (cz.of (show cK (az jI) ["bag","p","word","wide","n","places","pairs","rest","last"] _ ["place","bag","p"] [none,some 0,some 1]=true by decide+kernel)) (@eu _ _ _ _ (pv 5)) (fun _ _ _ _=>⟨(aO (i:=0) (by show List.Nodup (["place","bag","p"]:List Str);decide+kernel) rfl (Or.inl rfl)),gk,(@gR _ _ _ _ _ (@aa _ _ _ _ _ (pv 0) (@aa _ _ _ _ _ (@aA _ _ _ _ _ _ _ _ cJ aj (@aI _ _ _ _ _ _ _ _ _ _ bY (hr.mono (by decide)) (@aa _ _ _ _ _ (pv 1) (@aa _ _ _ _ _ (@aA _ _ _ _ _ _ _ _ iD (pv 2) aj) ak rfl) rfl) (by rfl) (by decide) (by rfl) (by rfl))) ak rfl) rfl))⟩)) (@aq _ _ _ _ _ (@aM _ _ (7) _ _ _ _ nk.nd rfl (Or.inl rfl) (@aI _ _ _ _ _ _ _ _ _ _ ya (hr.mono (by decide)) (@aa _ _ _ _ _ (pv 1) (@aa _ _ _ _ _ (@iM _ _ _ _ _ _ _ _ _ (g7 K) i7 (pv 6) ja (@iH _ _ _ (@ly _ _ _ _ _ _ kh aj))) (@aa _ _ _ _ _ (pv 2) ak rfl) rfl) rfl) (by rfl) (by decide) (by rfl) (by rfl)) (by rfl) (by first|exact .inl rfl|exact .inr rfl|assumption)) (@aq _ _ _ _ _ (@aM _ _ (8) _ _ _ _ nk.nd rfl (Or.inl rfl) (@ay _ _ _ _ _ _ (bh K) aR (pv 5) (@ly _ _ _ _ _ _ kh aj) (fun _ _=>rfl)) (by rfl) (by first|exact .inl rfl|exact .inr rfl|assumption)) (@aq _ _ _ _ _ (@bS _ _ _ _ _ _ _ _ (PW.pt (iF (@aS _ _ _ _ _ _ _ _ fL (pv 7) aj (aK _)) (iY (@aS _ _ _ _ _ _ _ _ fL (@ay _ _ _ _ _ _ (bh K) aR (pv 2) (pv 8) (fun _ _=>rfl)) aj (aK _))))) (@aE _ _ _ (@aQ _ _ _ _ (@aA _ _ _ _ _ _ _ _ mQ (@iM _ _ _ _ _ _ _ _ _ (g7 K) i7 (pv 6) ja (@iH _ _ _ (@ly _ _ _ _ _ _ kh aj))) (@dR _ _ _ _ (@aa _ _ _ _ _ (@gR _ _ _ _ _ (@aa _ _ _ _ _ (pv 8) (@aa _ _ _ _ _ (@aI _ _ _ _ _ _ _ _ _ _ U0 (hr.mono (by decide)) (@aa _ _ _ _ _ (pv 1) (@aa _ _ _ _ _ (@aA _ _ _ _ _ _ _ _ iD aj (pv 7)) (@aa _ _ _ _ _ (@ay _ _ _ _ _ _ (bh K) aR (pv 2) (pv 8) (fun _ _=>rfl)) ak rfl) rfl) rfl) (by rfl) (by decide) (by rfl) (by rfl)) ak rfl) rfl)) ak rfl))))) cg) (@aq _ _ _ _ _ (@bS _ _ _ _ _ _ _ _ (PW.pt (iF (@aS _ _ _ _ _ _ _ _ bX (pv 7) aj (aK _)) (iY (@aS _ _ _ _ _ _ _ _ bX (@ay _ _ _ _ _ _ (bh K) aR (pv 2) (pv 8) (fun _ _=>rfl)) aj (aK _))))) (@aE _ _ _ (@aQ _ _ _ _ (pv 6))) cg) (@aE _ _ _ (@aQ _ _ _ _ (@i6 _ _ _ _ _ _ _ _ (PW.pt (iF (@aS _ _ _ _ _ _ _ _ bX (pv 7) aj (aK _)) (iY (@aS _ _ _ _ _ _ _ _ Dn (@cy _ _ _ _ _ _ _ _ (fk K) gx rfl bT PySem.boot_len (@aa _ _ _ _ _ (pv 6) ak rfl) (by decide) (by decide) (by rfl) (by rfl)) aj (aK _))))) (@iM _ _ _ _ _ _ _ _ _ (g7 K) i7 (pv 6) ja (@iH _ _ _ (@ly _ _ _ _ _ _ kh aj))) dS)))))))))),?_⟩
 refine Sv.j7 hB hlive hnb hds aG (ρ:=[.au, .d false _, .d false _, .d false _, .no, .no, .no, .no, .no]) rfl ?_
 clear aG hds
 have p2:=hp.1
 have CB:(wd.map PyData.int).length=wd.length:=List.length_map ..
 have hsm:∀x:Int,0<=x->x<=p->Sm x:=fun x x0 x1=>by unfold Sm;omega
 walk_at "dt"
 refine aC.ev (aC.L7 (aC.ev (aC.ia (by decide) rfl ?_)))
 walk_at "dt"
 intro k0 k1 k2
 walk_at "dt"
 refine fF.ints (fun x=>0<=x/\x<(wd.map PyData.int).length) ?_ fun os gc hos=>⟨os,rfl,by omega,fun rs GG hmem=>?_⟩
 ·rintro i d ⟨hi,rfl⟩
  walk_at "dt"
  refine⟨by walk_at "wk",?_⟩
  walk_at "dt"
  exact fun r r1 r2=>⟨r,rfl,r1,r2⟩
 have hrs:rs.Nodup:=GG.imp fun h=>by omega
 have hrl:0<rs.length:=by
  have:0<os.length:=by omega
  obtain⟨y,hy⟩:=List.exists_mem_of_length_pos this
  exact List.length_pos_of_mem ((hmem y).mpr hy)
 have W7:rs.length<=os.length:=List.Nodup.length_le_of_subset hrs fun k hk=>(hmem k).mp hk
 walk_at "dt"
 refine aC.ev (aC.iE (by decide) rfl ?_)
 walk_at "dt"
 refine⟨by rw[List.length_map];omega,fun v=>fF.rel pairD true (fun i pr=>rs[i]?=some pr.1/\1<=pr.2/\pr.2<p) ?_ fun prs hpl bZ=>?_⟩
 ·rintro i d hd
  obtain⟨x,hx,rfl⟩:=eF hd
  walk_at "dt"
  refine⟨by walk_at "wk",?_⟩
  walk_at "dt"
  intro r r1 r2
  walk_at "dt"
  exact⟨fun _=>rfl,(x,1+r),rfl,hx,by show 1<=1+r;omega,by show 1+r<p;omega⟩
 rw[List.length_map] at hpl
 have DR:prs.map (·.1)=rs:=by
  apply List.ext_getElem?
  intro j
  rw[List.getElem?_map]
  cases e:prs[j]? with
  |none=>rw[List.getElem?_eq_none (by have:=List.getElem?_eq_none_iff.mp e;omega)];rfl
  |some pr=>exact(bZ j pr e).1.symm
 have hQ:gz p wd.length prs:=⟨by rw[DR];exact hrs,by omega,fun pr br=>by
  obtain⟨k,hk⟩:=List.getElem?_of_mem br
  have h2:=bZ k pr hk
  have h1:=hos pr.1 ((hmem _).mp (List.mem_of_getElem? h2.1))
  omega⟩
 have Kq:(prs.map pairD).length=prs.length:=List.length_map ..
 have iP:dH (prs.map pairD) none (some (-1))=prs.dropLast.map pairD:=by
  unfold dH HT.dh
  simp only[List.drop_zero,Nat.sub_zero]
  rw[List.dropLast_eq_take,List.map_take,Kq]
  congr 1
  first|omega|(split<;>omega)
 have hdl:prs.dropLast.length=prs.length-1:=List.length_dropLast ..
 have uf:gz p wd.length prs.dropLast:=⟨((List.dropLast_sublist prs).map _).nodup hQ.1,by omega,fun pr br=>hQ.2.2 pr (List.dropLast_subset _ br)⟩
 have yY:rs.length-1<rs.length:=by omega
 have zk:aU (rs.map PyData.int) (-1)=some (.int rs[rs.length-1]):=by
  unfold aU cH
  rw[if_neg (by decide),if_pos (by rw[List.length_map];omega)]
  show(rs.map PyData.int)[_]?=_
  rw[List.getElem?_map,List.length_map,show(-1+(rs.length:Int)).toNat=rs.length-1 by omega,List.getElem?_eq_getElem yY];rfl
 obtain⟨last,nW⟩:∃x,rs[rs.length-1]=x:=⟨_,rfl⟩
 rw[nW] at zk
 have pH:0<=last/\last<wd.length:=by
  have:=hos last ((hmem _).mp (nW▸List.getElem_mem yY))
  omega
 have hlt:last.toNat<wd.length:=by omega
 have jo:aU (wd.map PyData.int) last=some (.int wd[last.toNat]):=cW pH.1 (by rw[List.getElem?_map,List.getElem?_eq_getElem hlt];rfl)
 have hwl:=cB _ (List.getElem_mem hlt)
 have M1:∀x:Int,fP (wd.map some) (last,x)=x*wd[last.toNat]:=fun x=>nU (pr:=(last,x)) (List.getElem?_eq_getElem hlt)
 generalize wd[last.toNat]=wl at*
 have hD:wd.map PyData.int=(wd.map some).map bw:=by rw[List.map_map];rfl
 have Tj:BP prs.dropLast (wd.map some).length:=fun pr br=>by
  have:=uf.2.2 pr br
  rw[List.length_map]
  exact⟨this.1,this.2.1,hsm _ (by omega) (by omega)⟩
 have Sk:CA (wd.map some):=fun x hx=>by
  obtain⟨y,hy,e⟩:=List.mem_map.mp hx
  cases e
  have:=cB x hy
  exact hsm x (by omega) (by omega)
 walk_at "dt"
 refine Ev.bI BK ?_
 walk_at "dt"
 refine⟨rfl,p,prs.dropLast,wd.map some,by show[_,PyData.list _,PyData.list _]=_;rw[iP,hD],by omega,by omega,Tj,Sk,?_⟩
 have R0:=Int.emod_nonneg (aV prs.dropLast (wd.map some)) (show p≠0 by omega)
 have R1:=Int.emod_lt_of_pos (aV prs.dropLast (wd.map some)) (show 0<p by omega)
 have hall:∃x:Int,prs=prs.dropLast++[(last,x)]:=by
  have hne:prs≠[]:=List.ne_nil_of_length_pos (by omega)
  have e:=List.dropLast_concat_getLast hne
  refine⟨(prs.getLast hne).2,?_⟩
  have e2:(prs.getLast hne).1=last:=by
   rw[<-nW,List.getLast_eq_getElem]
   have hz:=bZ (prs.length-1) _ (List.getElem?_eq_getElem (by omega))
   have e3:rs[prs.length-1]?=some rs[rs.length-1]:=by rw[show prs.length-1=rs.length-1 by omega];exact List.getElem?_eq_getElem yY
   rw[e3] at hz
   exact(Option.some.inj hz.1).symm
  rw[<-e2]
  exact e.symm
 have jy:∀x:Int,aV (prs.dropLast++[(last,x)]) (wd.map some)%p=(aV prs.dropLast (wd.map some)%p+x*wl)%p:=fun x=>by
  rw[PX,qM,M1,Int.emod_add_emod]
  congr 1
  show _+(_+0)=_
  omega
 obtain⟨R,eR⟩:∃R,aV prs.dropLast (wd.map some)%p=R:=⟨_,rfl⟩
 simp only[eR] at jy R0 R1⊢
 walk_at "dt"
 by_cases cR:R=0
 ·walk_at "dt"
  by_cases cw:wl=0
  ·walk_at "dt"
   obtain⟨x,hx⟩:=hall
   exact q (some prs) _ (fun _ e=>by
    cases e
    refine⟨hQ,?_⟩
    rw[hx,jy,cR,cw,Int.mul_zero]
    simp)
  ·walk_at "dt"
   by_cases cl:1<((prs.map pairD).length:Int)
   ·walk_at "dt"
    rw[iP]
    exact q (some prs.dropLast) _ (fun _ e=>by cases e;exact⟨uf,by rw[eR,cR]⟩)
   ·walk_at "dt"
    exact q none _ (fun _ e=>by cases e)
 ·walk_at "dt"
  by_cases cw:wl=0
  ·walk_at "dt"
   exact q none _ (fun _ e=>by cases e)
  ·have hwp:wl%p≠0:=by rw[Int.emod_eq_of_lt (by omega) (by omega)];exact cw
   walk_at "dt"
   refine Ev.bI MY ?_
   walk_at "dt"
   refine⟨rfl,p,0-R,wl,rfl,hp,dD,hwp,by omega,by omega,fun⟨k,hk⟩=>?_⟩
   have hs:=GP (p:=p) (b:=wl) (a:=0-R) (by omega)
   generalize sol p wl (0-R)=sl at*
   have hs1:sl≠0:=fun z=>by
    subst z
    rw[Int.mul_zero] at hk
    have Xf:R=p*k:=by omega
    rcases Int.lt_trichotomy k 0 with z|z|z
    ·have:p*k<=p*(-1):=Int.mul_le_mul_of_nonneg_left (by omega) (by omega)
     omega
    ·subst z;omega
    ·have:p*1<=p*k:=Int.mul_le_mul_of_nonneg_left (by omega) (by omega)
     omega
   walk_at "dt"
   refine⟨by rw[iP,List.length_map];show _+1<=10000;omega,?_⟩
   show Φ _ (.list (dH (prs.map pairD) none (some (-1))++[pairD (last,sl)]))
   rw[iP,show(prs.dropLast.map pairD++[pairD (last,sl)])=(prs.dropLast++[(last,sl)]).map pairD by rw[List.map_append];rfl]
   refine q (some (prs.dropLast++[(last,sl)])) _ (fun _ e=>?_)
   cases e
   have hz:(R+sl*wl)%p=0:=by
    rw[show R+sl*wl=p*k by rw[Int.mul_comm sl wl];omega]
    exact Int.mul_emod_right p k
   refine⟨?_,by rw[jy];exact hz⟩
   have hdr:(prs.dropLast++[(last,sl)]).map (·.1)=rs:=by
    rw[List.map_append,List.map_dropLast,DR,List.map_singleton,<-nW]
    have:=List.dropLast_concat_getLast (List.ne_nil_of_length_pos hrl)
    rw[List.getLast_eq_getElem] at this
    exact this
   refine⟨by rw[hdr];exact hrs,by rw[List.length_append,List.length_singleton];omega,fun pr br=>?_⟩
   rcases List.mem_append.mp br with h|h
   ·exact uf.2.2 pr h
   ·rw[List.mem_singleton.mp h]
    exact⟨pH.1,pH.2,by show 1<=sl;omega,hs.2⟩
def qb:DF:=fun ds Φ=>∃(p many wide:Int) (wd:List Int),ds=[.int p, .list (wd.map .int), .int many, .int wide]/\eW p/\p<10^40/\1<=wd.length/\wd.length<=400/\(∀x∈wd,0<=x/\x<p)/\0<=many/\many<=400/\1<=wide/\wide<=60/\∀(cs:List aH) (f:Bool),(cs.length:Int)<=many->(∀prs∈cs,gz p wd.length prs/\aV prs (wd.map some)%p=0)->Φ f (bz p wd.length cs)
theorem Ut:cF qb:=by
 intro ds Φ Ψ hm z
 obtain⟨p,m,w,wd,e,h1,h2,h3,h4,h5,h6,h7,h8,h9,q⟩:=hm
 exact⟨p,m,w,wd,e,h1,h2,h3,h4,h5,h6,h7,h8,h9,fun cs f a b=>z _ _ (q cs f a b)⟩
theorem HE(o:Option aH):pA (sA o)=o.isNone:=by cases o<;>rfl
theorem Bc:bL ["bag","p","word","many","wide","checks"] ["bag","p","word","many","wide"] (az jJ):=⟨rfl,rfl,rfl,by decide+kernel,rfl,by decide+kernel,by decide+kernel⟩
theorem O8(F:bD K "_law_planted" "_law_planted" jJ f fd)(VU:Callee P w K mg base "_law_planted_check" 3 ["bag","p","word","wide"] (er 4 p7))(bT:mg "len"=none)(bJ:mg "range"=none):
    bx P w K mg base bA 4 f fd ["bag","p","word","many","wide"] (er 5 qb):=by
  refine F.ok Bc (fun vs H Q E h=>h.1) (fun cdv A outer s H vs Q E hr h=>?_)
  obtain⟨_,b,l,ws,nb,ds,rfl,hB,hlive,hnb,hds,hF⟩:=h
  obtain⟨Φ,aG,hF⟩:∃Φ:Pd,(∀f d v H',Φ f d->aW (Nb b) H H'->bR H' b l->af (fun a=>nb a\/(f=true/\H a≠none)) H' d v->Q v H')/\qb ds Φ:=⟨_,fun f d v H' q=>q v H',hF⟩
  obtain⟨p,many,wide,wd,rfl,hp,dD,w1,w2,cB,m1,m2,d1,d2,q⟩:=hF
  refine⟨_,(@aq _ _ _ _ _ (oz (i:=5) Bc.nd rfl rfl (cz.of (show cK (az jJ) ["bag","p","word","many","wide","checks"] _ ["c","bag","p","word","wide"] [none,some 0,some 1,some 2,some 4]=true by decide+kernel)) (@fM _ _ _ _ _ _ rfl bJ (@aa _ _ _ _ _ (pv 3) ak rfl) (by rfl)) (fun _ _ _ _=>⟨(aO (i:=0) (by show List.Nodup (["c","bag","p","word","wide"]:List Str);decide+kernel) rfl (Or.inl rfl)),gk,(@aI _ _ _ _ _ _ _ _ _ _ VU (hr.mono (by decide)) (@aa _ _ _ _ _ (pv 1) (@aa _ _ _ _ _ (pv 2) (@aa _ _ _ _ _ (pv 3) (@aa _ _ _ _ _ (pv 4) ak rfl) rfl) rfl) rfl) (by rfl) (by decide) (by rfl) (by rfl))⟩)) (@aE _ _ _ (@aQ _ _ _ _ (@gR _ _ _ _ _ (@aa _ _ _ _ _ (pv 1) (@aa _ _ _ _ _ (@cy _ _ _ _ _ _ _ _ (fk K) gx rfl bT PySem.boot_len (@aa _ _ _ _ _ (pv 2) ak rfl) (by decide) (by decide) (by rfl) (by rfl)) (@aa _ _ _ _ _ (dJ (cz.of (show cK (az jJ) ["bag","p","word","many","wide","checks"] _ ["pairs"] [none]=true by decide+kernel)) (@eu _ _ _ _ (pv 5)) (fun _ _ _ _=>⟨(aO (i:=0) (by show List.Nodup (["pairs"]:List Str);decide+kernel) rfl (Or.inl rfl)),(gJ (@aS _ _ _ _ _ _ _ _ jb (pv 0) dS (aK _))),(pv 0)⟩)) ak rfl) rfl) rfl))))),?_⟩
  refine Sv.j7 hB hlive hnb hds aG (ρ:=[.au, .d false _, .d false _, .d false _, .d false _, .no]) rfl ?_
  clear aG hds
  have CB:(wd.map PyData.int).length=wd.length:=List.length_map ..
  walk_at "dt"
  refine aC.ev (aC.ia (by decide) rfl ?_)
  walk_at "dt"
  refine fF.rel sA false (fun _ o=>∀prs,o=some prs->gz p wd.length prs/\aV prs (wd.map some)%p=0) ?_ fun os gc hos=>?_
  · rintro i d ⟨hi,rfl⟩
    walk_at "dt"
    refine⟨by walk_at "wk",?_⟩
    refine Ev.ju VX rfl ?_
    walk_at "dt"
    exact⟨rfl,p,wide,wd,rfl,hp,dD,w1,w2,cB,d1,d2,fun o f h=>⟨(fun z=>by cases z),o,rfl,h⟩⟩
  walk_at "dt"
  refine aC.ev (aC.iE (by decide) rfl ?_)
  walk_at "dt"
  refine⟨by rw[List.length_map];omega,fun v=>⟨false,fun i ds=>∃es:List aH,ds=es.map bH/\es.length<=i/\∀prs∈es,gz p wd.length prs/\aV prs (wd.map some)%p=0,⟨[],rfl,Nat.le_refl _,(fun _ h=>nomatch h)⟩,?_,?_⟩⟩
  · rintro j d ds hd hl' ⟨es,rfl,hel,hes⟩
    obtain⟨o,ho,rfl⟩:=eF hd
    walk_at "dt"
    refine⟨by walk_at "wk",?_⟩
    walk_at "dt"
    rw[HE]
    cases o with
    | none =>
      walk_at "dt"
      exact⟨es,rfl,by omega,hes⟩
    | some prs =>
      rw[show sA (some prs)=bH prs from rfl]
      walk_at "dt"
      refine⟨es++[prs],by rw[List.map_append];rfl,by simp;omega,fun q hq=>?_⟩
      rcases List.mem_append.mp hq with h|h
      · exact hes q h
      · rw[List.mem_singleton.mp h];exact hos j _ ho prs rfl
  rintro ds hl' ⟨es,rfl,hel,hes⟩
  walk_at "dt"
  rw[List.length_map] at hel
  show Φ _ (.tuple [.int p, .int ((wd.map PyData.int).length:Int), .list (es.map bH)])
  rw[CB]
  exact q es _ (by omega) hes
def qI:DF:=fun ds Φ=>∃wd:List Int,ds=[.list (wd.map .int)]/\wd.length<=10000/\∀ld:Wo,v7 wd ld->Φ true (cX ld)
theorem Ul:cF qI:=by
 intro ds Φ Ψ hm z
 obtain⟨wd,e,h,q⟩:=hm
 exact⟨wd,e,h,fun ld hl=>z _ _ (q ld hl)⟩
theorem Dv:bL ["bag","word","often"] ["bag","word"] (az kU):=⟨rfl,rfl,rfl,by decide+kernel,rfl,by decide+kernel,by decide+kernel⟩
theorem TL(F:bD K "_law_lossy" "_law_lossy" kU f fd)(bY:Callee P w K mg base "_law_draw" 2 ["bag","many"] g6):
  bx P w K mg base bA 3 f fd ["bag","word"] (er 2 qI):=by
 refine F.ok Dv (fun vs H Q E h=>h.1) (fun cdv A outer s H vs Q E hr h=>?_)
 obtain⟨_,b,l,ws,nb,ds,rfl,hB,hlive,hnb,hds,hF⟩:=h
 obtain⟨Φ,aG,hF⟩:∃Φ:Pd,(∀f d v H',Φ f d->aW (Nb b) H H'->bR H' b l->af (fun a=>nb a\/(f=true/\H a≠none)) H' d v->Q v H')/\qI ds Φ:=⟨_,fun f d v H' q=>q v H',hF⟩
 obtain⟨wd,rfl,hl,q⟩:=hF
 refine⟨_,(@aq _ _ _ _ _ (@aM _ _ (2) _ _ _ _ Dv.nd rfl (Or.inr rfl) (@ay _ _ _ _ _ _ (bh K) aR (@dR _ _ _ _ (@AY _ _ _ rfl)) (@aI _ _ _ _ _ _ _ _ _ _ bY (hr.mono (by decide)) (@aa _ _ _ _ _ (pv 0) (@aa _ _ _ _ _ aj ak rfl) rfl) (by rfl) (by decide) (by rfl) (by rfl)) (fun _ _=>rfl)) (by rfl) (by first|exact .inl rfl|exact .inr rfl|assumption)) (@aE _ _ _ (@aQ _ _ _ _ (dJ (cz.of (show cK (az kU) ["bag","word","often"] _ ["letter","bag","often"] [none,some 0,some 2]=true by decide+kernel)) (@eu _ _ _ _ (pv 1)) (fun _ _ _ _=>⟨(aO (i:=0) (by show List.Nodup (["letter","bag","often"]:List Str);decide+kernel) rfl (Or.inl rfl)),gk,(@i6 _ _ _ _ _ _ _ _ (@aS _ _ _ _ _ _ _ _ bX (@aI _ _ _ _ _ _ _ _ _ _ bY (hr.mono (by decide)) (@aa _ _ _ _ _ (pv 1) (@aa _ _ _ _ _ (pv 2) ak rfl) rfl) (by rfl) (by decide) (by rfl) (by rfl)) aj (aK _)) dS (pv 0))⟩))))),?_⟩
 refine Sv.j7 hB hlive hnb hds aG (ρ:=[.au, .d false _, .no]) rfl ?_
 clear aG hds
 walk_at "dt"
 intro way w1 w2
 have hL:way.toNat<([8,3,2,1]:List Int).length:=by show way.toNat<4;omega
 have hm:∀x∈([8,3,2,1]:List Int),1<=x/\x<=8:=by decide
 obtain⟨m1,m2⟩:=hm _ (List.getElem_mem hL)
 refine⟨way,rfl, .int ([8,3,2,1]:List Int)[way.toNat],?_,?_⟩
 ·show aU (List.map PyData.int [8,3,2,1]) way=_
  exact cW w1 (by rw[List.getElem?_map,List.getElem?_eq_getElem hL];rfl)
 generalize ([8,3,2,1]:List Int)[way.toNat]=often at m1 m2⊢
 walk_at "dt"
 refine aC.ev (aC.iE (by decide) rfl ?_)
 walk_at "dt"
 refine⟨by rw[List.length_map];exact hl,fun v=>⟨true,fun i ds=>ds.length=i/\∀(j:Nat) d,ds[j]?=some d->d= .none\/∃x,wd[j]?=some x/\d= .int x,⟨rfl,fun j d e=>by simp at e⟩,?_,?_⟩⟩
 ·rintro i d ds hd hl' ⟨hl2,hI⟩
  obtain⟨x,hx,rfl⟩:=eF hd
  walk_at "dt"
  refine⟨by walk_at "wk",?_⟩
  walk_at "dt"
  intro r r1 r2
  have key:∀e:PyData,(e= .none\/e= .int x)->(ds++[e]).length=i+1/\∀(j:Nat) d,(ds++[e])[j]?=some d->d= .none\/∃x,wd[j]?=some x/\d= .int x:=fun e he=>by
   refine⟨by rw[List.length_append,List.length_singleton,hl2],fun j d hj=>?_⟩
   rcases Nat.lt_trichotomy j ds.length with h|h|h
   ·exact hI j d (by rwa[List.getElem?_append_left h] at hj)
   ·subst h
    simp at hj
    subst hj
    rw[hl2]
    rcases he with he|he
    ·exact .inl he
    ·exact .inr ⟨x,hx,he⟩
   ·rw[List.getElem?_eq_none (by rw[List.length_append,List.length_singleton];omega)] at hj
    cases hj
  by_cases c:r=0
  ·walk_at "dt"
   exact key _ (.inl rfl)
  ·walk_at "dt"
   exact key _ (.inr rfl)
 ·rintro ds hl' ⟨hl2,hI⟩
  rw[List.length_map] at hl2
  obtain⟨ld,rfl,cL⟩:=G7 (wd:=wd) ds hl2 hI
  exact q ld cL
theorem SE:bL ["net"] ["net"] (az kM):=⟨rfl,rfl,rfl,by decide+kernel,rfl,by decide+kernel,by decide+kernel⟩
theorem Rv(F:bD K "_law_copy" "_law_copy" kM f fd)(fc:mg "list"=none):
  bx P w K mg base bA 1 f fd ["net"] kO:=by
 refine F.ok SE (fun vs H Q E h=>?_) (fun cdv A outer s H vs Q E hr h=>?_)
 ·obtain⟨nb,p,n,cs,v,rfl,hlive,hv,hl,q⟩:=h
  rfl
 obtain⟨nb,p,n,cs,v,rfl,hlive,hv,hl,q⟩:=h
 refine⟨_,(@aE _ _ _ (@aQ _ _ _ _ (@gR _ _ _ _ _ (@aa _ _ _ _ _ (@ay _ _ _ _ _ _ (aY K) bu (pv 0) aj (fun _ _=>rfl)) (@aa _ _ _ _ _ (@ay _ _ _ _ _ _ (aY K) bu (pv 0) aj (fun _ _=>rfl)) (@aa _ _ _ _ _ (dJ (cz.of (show cK (az kM) ["net"] _ ["pairs"] [none]=true by decide+kernel)) (@eu _ _ _ _ (@ay _ _ _ _ _ _ (aY K) bu (pv 0) aj (fun _ _=>rfl))) (fun _ _ _ _=>⟨(aO (i:=0) (by show List.Nodup (["pairs"]:List Str);decide+kernel) rfl (Or.inl rfl)),gk,(@lC _ _ _ _ _ _ _ _ (lB K) sL rfl fc PyProof.Rows.boot_list (@aa _ _ _ _ _ (pv 0) ak rfl) (by decide) (by decide) (by rfl) (by rfl))⟩)) ak rfl) rfl) rfl)))),?_⟩
 refine QJ (N:=["net"]) (ds:=[bz p n cs]) (ρ:=[.d false (bz p n cs)]) hlive (.cons hv .nil) rfl fun yD σ1 H1 W1=>?_
 have E1:Ev ⟨none,H,nb,[]⟩ [.d false (bz p n cs)] (bV (aY K) (dM 0) (tC (V.int 0))) fun _ d=>d= .int p:=by walk_at "dt";rfl
 have E2:Ev ⟨none,H,nb,[]⟩ [.d false (bz p n cs)] (bV (aY K) (dM 0) (tC (V.int 1))) fun _ d=>d= .int n:=by walk_at "dt";rfl
 refine E1 yD σ1 H1 _ W1 fun f1 v1 H2 d1 e1 s1 hv1=>?_
 have W2:=W1.step s1
 refine E2 yD σ1 H2 _ W2 fun f2 v2 H3 d2 e2 s2 hv2=>?_
 have W3:=W2.step s2
 subst e1 e2
 have Ms:=hv1.bP
 have G6:=hv2.bP
 subst Ms G6
 refine aC.iE (G:=⟨none,H,nb,[]⟩) (ρ:=[.d false (bz p n cs)]) (Θ:=fun _ ds=>ds=cs.map bH) (by decide) rfl ?_ yD σ1 H3 _ W3 fun f3 L xs H4 ds e3 s3 hL eL hds=>?_
 ·walk_at "dt"
  refine⟨by rw[List.length_map];exact hl,fun v=>⟨false,fun i ds=>ds=(cs.take i).map bH,rfl,?_,?_⟩⟩
  ·rintro i d ds hd hl' rfl
   obtain⟨prs,bZ,rfl⟩:=eF hd
   walk_at "dt"
   refine⟨by walk_at "wk",?_⟩
   walk_at "dt"
   refine⟨fun z=>(by cases z),?_⟩
   show _=List.map bH (List.take (i+1) cs)
   rw[take_snoc bZ,List.map_append]
   rfl
  ·rintro ds hl' rfl
   rw[List.length_map,List.take_length]
 ·subst e3
  have old:∀{bE ρ' σ' H'},Wd ⟨none,H,nb,[]⟩ bE ρ' σ' H'->bf H H':=fun W a o e=>W.old a o (fun _ _ z=>(by cases z)) e
  have W4:=W3.step s3
  have zU:H L=none:=by
   cases e:H L with
   |none=>rfl
   |some o=>rw[old W3 L o e] at hL;cases hL
  refine⟨by show 3<=sizeLine;decide,fun T hT=>?_⟩
  have lT:H T=none:=by
   cases e:H T with
   |none=>rfl
   |some o=>rw[old W4 T o e] at hT;cases hT
  have oH:L≠T:=fun z=>by rw[z,hT] at eL;cases eL
  refine q T L xs _ (fun a o e=>?_) lT zU bq (by rw[aF oH];exact eL) ((hds.av fun a y=>?_).keep fun a o _ e=>?_)
  ·rw[aF (fun z=>by rw[z,lT] at e;cases e)];exact old W4 a o e
  ·rcases y with y|y
   ·exact .inl (.inr (.inl y))
   ·exact .inr y
  ·rw[aF (fun z=>by rw[z,hT] at e;cases e)];exact e
theorem HS:bL ["found"] ["found"] (az nA):=⟨rfl,rfl,rfl,by decide+kernel,rfl,by decide+kernel,by decide+kernel⟩
theorem G4(F:bD K "_law_whole" "_law_whole" nA f fd)(gG:mg "isinstance"=none)(jc:mg "int"=none)(zg:mg "bool"=none):
  bx P w K mg base bA 1 f fd ["found"] ux:=by
 refine F.ok HS (fun vs H Q E h=>?_) (fun cdv A outer s H vs Q E hr h=>?_)
 ·obtain⟨i,rfl,q⟩:=h
  rfl
 obtain⟨i,rfl,q⟩:=h
 refine⟨_,(@aE _ _ _ (@aQ _ _ _ _ (@lM _ _ _ _ _ _ _ (@cy _ _ _ _ _ _ _ _ (jl K) nD rfl gG PyProof.Rows.boot_isinstance (@aa _ _ _ _ _ (pv 0) (@aa _ _ _ _ _ (oY (v:= .ty "int") rfl jc PyProof.Rows.boot_int rfl) ak rfl) rfl) (by decide) (by decide) (by rfl) (by rfl)) (@kE _ _ _ _ _ (@Ll _ _ _ _ (@cy _ _ _ _ _ _ _ _ (jl K) nD rfl gG PyProof.Rows.boot_isinstance (@aa _ _ _ _ _ (pv 0) (@aa _ _ _ _ _ (oY (v:= .ty "bool") rfl zg PyProof.Rows.boot_bool rfl) ak rfl) rfl) (by decide) (by decide) (by rfl) (by rfl))))))),?_⟩
 walk_at "st"
 refine R.vN ?_
 walk_at "st"
 exact q
def sr:DF:=fun ds Φ=>∃(p n:Int) (cs:List aH),ds=[.int p, .int n, .list (cs.map bH)]/\dw p n cs/\cs≠[]/\∀(prs:aH),gz p n.toNat prs->(∀v:List Int,v.length=n.toNat->(∀q∈cs,p∣aV q (v.map some))->p∣aV prs (v.map some))->Φ true (bH prs)
theorem Ik:cF sr:=by
 intro ds Φ Ψ hm z
 obtain⟨p,n,cs,e,h1,h2,q⟩:=hm
 exact⟨p,n,cs,e,h1,h2,fun prs a b=>z _ _ (q prs a b)⟩
theorem mF:bL ["bag","p","n","checks","row","k","letter","place","factor"] ["bag","p","n","checks"] (az lH):=⟨rfl,rfl,rfl,by decide+kernel,rfl,by decide+kernel,by decide+kernel⟩
theorem Se(F:bD K "_law_summed" "_law_summed" lH f fd)(bY:Callee P w K mg base "_law_draw" 2 ["bag","many"] g6)(bJ:mg "range"=none)(bT:mg "len"=none):
  bx P w K mg base bA 3 f fd ["bag","p","n","checks"] (er 4 sr):=by
 refine F.ok mF (fun vs H Q E h=>h.1) (fun cdv A outer s H vs Q E hr h=>?_)
 obtain⟨_,b,l,ws,nb,ds,rfl,hB,hlive,hnb,hds,hF⟩:=h
 obtain⟨Φ,aG,hF⟩:∃Φ:Pd,(∀f d v H',Φ f d->aW (Nb b) H H'->bR H' b l->af (fun a=>nb a\/(f=true/\H a≠none)) H' d v->Q v H')/\sr ds Φ:=⟨_,fun f d v H' q=>q v H',hF⟩
 obtain⟨p,n,cs,rfl,hN,hne,q⟩:=hF
 refine⟨_,(@aq _ _ _ _ _ (@aM _ _ (4) _ _ _ _ mF.nd rfl (Or.inr rfl) (@aA _ _ _ _ _ _ _ _ qy (@dR _ _ _ _ (@aa _ _ _ _ _ aj ak rfl)) (pv 2)) (by rfl) (by first|exact .inl rfl|exact .inr rfl|assumption)) (@aq _ _ _ _ _ (@fu _ _ _ _ _ _ _ _ PassesOwn.never rfl (@fM _ _ _ _ _ _ rfl bJ (@aa _ _ _ _ _ (@aA _ _ _ _ _ _ _ _ cJ aj (@aI _ _ _ _ _ _ _ _ _ _ bY (hr.mono (by decide)) (@aa _ _ _ _ _ (pv 0) (@aa _ _ _ _ _ aj ak rfl) rfl) (by rfl) (by decide) (by rfl) (by rfl))) ak rfl) (by rfl)) (aO (i:=5) mF.nd rfl (Or.inl rfl)) (@aq _ _ _ _ _ (@aM _ _ (6) _ _ _ _ mF.nd rfl (Or.inl rfl) (@aA _ _ _ _ _ _ _ _ cJ aj (@aI _ _ _ _ _ _ _ _ _ _ bY (hr.mono (by decide)) (@aa _ _ _ _ _ (pv 0) (@aa _ _ _ _ _ (@aA _ _ _ _ _ _ _ _ iD (pv 1) aj) ak rfl) rfl) (by rfl) (by decide) (by rfl) (by rfl))) (by rfl) (by first|exact .inl rfl|exact .inr rfl|assumption)) (@aE _ _ _ (@fu _ _ _ _ _ _ _ _ PassesOwn.never rfl (@eu _ _ _ _ (@ay _ _ _ _ _ _ (bh K) aR (pv 3) (@aI _ _ _ _ _ _ _ _ _ _ bY (hr.mono (by decide)) (@aa _ _ _ _ _ (pv 0) (@aa _ _ _ _ _ (@cy _ _ _ _ _ _ _ _ (fk K) gx rfl bT PySem.boot_len (@aa _ _ _ _ _ (pv 3) ak rfl) (by decide) (by decide) (by rfl) (by rfl)) ak rfl) rfl) (by rfl) (by decide) (by rfl) (by rfl)) (fun _ _=>rfl))) (@gh _ (K) _ _ _ (2) _ rfl rfl (@bO _ _ _ _ _ (aO (i:=7) mF.nd rfl (Or.inl rfl)) (@bO _ _ _ _ _ (aO (i:=8) mF.nd rfl (Or.inl rfl)) fQ (by rfl)) (by rfl)) (by rfl) (by rfl)) (@aE _ _ _ (@dX _ _ _ _ _ _ (@aA _ _ _ _ _ _ _ _ dj (@aA _ _ _ _ _ _ _ _ cJ (@ay _ _ _ _ _ _ (bh K) aR (pv 4) (pv 7) (fun _ _=>rfl)) (@aA _ _ _ _ _ _ _ _ ez (pv 6) (pv 8))) (pv 1)) (fO (pv 4) (pv 7) set_list) (by rfl) (by rfl) (by rfl))) (by intro _;rfl)))) (by intro _;rfl)) (@aE _ _ _ (@aQ _ _ _ _ (dJ (cz.of (show cK (az lH) ["bag","p","n","checks","row","k","letter","place","factor"] _ ["k","row"] [none,some 4]=true by decide+kernel)) (@fM _ _ _ _ _ _ rfl bJ (@aa _ _ _ _ _ (pv 2) ak rfl) (by rfl)) (fun _ _ _ _=>⟨(aO (i:=0) (by show List.Nodup (["k","row"]:List Str);decide+kernel) rfl (Or.inl rfl)),(gJ (@aS _ _ _ _ _ _ _ _ fL (@ay _ _ _ _ _ _ (bh K) aR (pv 1) (pv 0) (fun _ _=>rfl)) aj (aK _))),(@gR _ _ _ _ _ (@aa _ _ _ _ _ (pv 0) (@aa _ _ _ _ _ (@ay _ _ _ _ _ _ (bh K) aR (pv 1) (pv 0) (fun _ _=>rfl)) ak rfl) rfl))⟩)))))),?_⟩
 refine Sv.j7 hB hlive hnb hds aG (ρ:=[.au, .d false _, .d false _, .d false _, .no, .no, .no, .no, .no]) rfl ?_
 clear aG hds
 have p2:=hN.hp.1
 have cM:=hN.cM
 have hcl:=hN.cl
 have n0:=hN.n0
 have n1:=hN.n1
 have jE:(cs.map bH).length=cs.length:=List.length_map ..
 have hc0:0<cs.length:=List.length_pos_iff.mpr hne
 generalize gM:(ji (eE (bV mL _ _) (dN 4)) _:TS)=tl
 walk_at "dt"
 subst gM
 refine Sv.seq ?_
 refine Sv.oK (aC.pX ?_)
 walk_at "dt"
 intro g0
 have hz:List.replicate n.toNat (PyData.int 0)=(List.replicate n.toNat (0:Int)).map PyData.int:=by rw[List.map_replicate]
 rw[hz]
 intro A4
 refine Sv.seq ?_
 refine Sv.wM ?_
 walk_at "dt"
 intro many m0 m1
 walk_at "dt"
 refine⟨fun c ρ=>∃(r:List Int) (g:Bool) (x5 x6 x7 x8:Sl),bB p n.toNat r/\(∀v:List Int,v.length=n.toNat->(∀q∈cs,p∣aV q (v.map some))->p∣ao (gI v) r)/\ρ=[.au, .d false (.int p), .d false (.int n), .d false (.list (cs.map bH)), .own A4 g (r.map .int),x5,x6,x7,x8],⟨_,_,_,_,_,_,(fX.init (cs:=[]) (aD:=[]) (by omega)).ok,fun v _ _=>⟨0,by rw[sH,Int.mul_zero]⟩,rfl⟩,?_,?_⟩
 ·rintro c d ρ ⟨hc,rfl⟩ ⟨r,g,x5,x6,x7,x8,hR,oH,rfl⟩
  walk_at "dt"
  intro l0 l1 l2
  walk_at "dt"
  refine Sv.forL ?_
  walk_at "dt"
  intro ci c0 c1
  obtain⟨prs,bZ,zk⟩:=jj (xs:=cs) bH c0 (by rw[jE] at c1;exact c1) rfl
  obtain⟨g1,g2,g3⟩:=hN.ok prs (List.mem_of_getElem? bZ)
  have oA:(prs.map pairD).length=prs.length:=List.length_map ..
  walk_at "dt"
  refine fun v=>⟨fun j ρ=>∃(r:List Int) (g:Bool) (x7 x8:Sl),bB p n.toNat r/\(∀v:List Int,v.length=n.toNat->(∀q∈cs,p∣aV q (v.map some))->p∣ao (gI v) r-(1+l0)*aV (prs.take j) (v.map some))/\ρ=[.au, .d false (.int p), .d false (.int n), .d false (.list (cs.map bH)), .own A4 g (r.map .int), .d true (.int (0+(c:Int))), .d true (.int (1+l0)),x7,x8],⟨_,_,_,_,hR,fun v h1 h2=>by show p∣_-_*0;rw[Int.mul_zero,Int.sub_zero];exact oH v h1 h2,rfl⟩,?_,?_⟩
  ·rintro j d ρ hd ⟨r,g,x7,x8,hJ,hLJ,rfl⟩
   obtain⟨pr,jf,rfl⟩:=eF hd
   obtain⟨a0,a1,a2,a3⟩:=g3 pr (List.mem_of_getElem? jf)
   have hrl:=hJ.len
   have wo:aU (r.map PyData.int) pr.1=some (.int (gI r pr.1.toNat)):=cW a0 (by rw[List.getElem?_map,hJ.at (by omega)];rfl)
   obtain⟨b0,b1⟩:=hJ.g (i:=pr.1.toNat) (by omega)
   have s1:Sm (1+l0):=by unfold Sm;omega
   have s2:Sm pr.2:=by unfold Sm;omega
   have hix:cH (r.map PyData.int).length pr.1=some pr.1.toNat:=by
    unfold cH
    rw[List.length_map]
    repeat (first|rw[if_pos (by omega)]|rw[if_neg (by omega)])
   generalize zI:(eE (bV _ _ _) (kL (dM 4) _ nv):TS)=tl2
   walk_at "dt"
   subst zI
   refine Sv.lq rfl ?_
   walk_at "dt"
   refine⟨_,_,rfl,hix,?_⟩
   rw[<-List.map_set]
   refine⟨_,_,_,_,hJ.put (Int.emod_nonneg _ (by omega)) (Int.emod_lt_of_pos _ (by omega)),fun v h1 h2=>?_,rfl⟩
   have h3:=JY (l:=1+l0) (pr:=pr) (by omega) (by omega) (hLJ v h1 h2)
   have hjl:=(List.getElem?_eq_some_iff.mp jf).1
   rw[xq hjl,(List.getElem?_eq_some_iff.mp jf).2,nU (List.getElem?_eq_getElem (show pr.1.toNat<v.length by omega))]
   have e:gI v pr.1.toNat=v[pr.1.toNat]'(by omega):=by unfold gI;rw[List.getD_eq_getElem?_getD,List.getElem?_eq_getElem (show pr.1.toNat<v.length by omega)];rfl
   rw[e] at h3
   rw[Int.mul_comm pr.2 (v[pr.1.toNat]'(by omega))]
   exact h3
  ·rintro ρ ⟨r,g,x7,x8,hJ,hLJ,rfl⟩
   refine⟨_,_,_,_,_,_,hJ,fun v h1 h2=>?_,rfl⟩
   have h3:=hLJ v h1 h2
   rw[oA,List.take_length] at h3
   obtain⟨a,ha⟩:=h3
   obtain⟨b,hb⟩:=h2 prs (List.mem_of_getElem? bZ)
   exact⟨a+(1+l0)*b,by rw[hb] at ha;grind⟩
 ·rintro ρ ⟨r,g,x5,x6,x7,x8,hR,oH,rfl⟩
  have hrl:=hR.len
  refine Sv.jB 4 rfl ?_
  walk_at "dt"
  refine aC.ev (aC.ia (by decide) rfl ?_)
  walk_at "dt"
  refine⟨true,fun i ds=>ds=(ie r i).map pairD,rfl,?_,?_⟩
  ·rintro i d ds ⟨hi,rfl⟩ hl' rfl
   have hat:aU (r.map PyData.int) (0+(i:Int))=some (.int (gI r i)):=cW (by omega) (by rw[List.getElem?_map,show(0+(i:Int)).toNat=i by omega,hR.at hi];rfl)
   generalize US:(rD _:TE)=tt
   walk_at "dt"
   refine⟨by walk_at "wk",?_⟩
   walk_at "dt"
   have hs:=AN r i
   by_cases c:gI r i=0
   ·rw[if_neg (by simpa using c)] at hs
    walk_at "dt"
    show _=List.map pairD (ie r (i+1))
    rw[hs,List.append_nil]
   ·rw[if_pos c] at hs
    walk_at "dt"
    subst US
    refine Ev.tupS ?_
    walk_at "dt"
    refine⟨fun _=>Bool.or_true _,?_⟩
    show _=List.map pairD (ie r (i+1))
    rw[hs,List.map_append,Int.zero_add]
    rfl
  ·rintro ds hl' rfl
   exact q _ (Hg hR (by omega) (by omega)) fun v h1 h2=>by rw[L1 h1 hrl];exact oH v h1 h2
def qo:DF:=fun ds Φ=>∃(p n many:Int) (cs:List aH),ds=[bz p n cs, .int many]/\eW p/\p<10^40/\1<=n/\n<=400/\cs.length<=400/\(∀prs∈cs,gz p n.toNat prs)/\0<=many/\many<=10/\∀(f:Bool) (cs':List aH),cs'.length<=410->(∀prs∈cs',gz p n.toNat prs)->(∀v:List Int,v.length=n.toNat->(∀q∈cs,p∣aV q (v.map some))->∀q∈cs',p∣aV q (v.map some))->Φ f (bz p n cs')
theorem OP:cF qo:=by
 intro ds Φ Ψ hm z
 obtain⟨p,n,m,cs,e,h1,h2,h3,h4,h5,h6,h7,h8,q⟩:=hm
 exact⟨p,n,m,cs,e,h1,h2,h3,h4,h5,h6,h7,h8,fun f c a b d=>z _ _ (q f c a b d)⟩
theorem EM{p n:Int}{cs:List aH}(h1:eW p)(h2:p<10^40)(h3:1<=n)(h4:n<=400)(h5:cs.length<=500)(h6:∀prs∈cs,gz p n.toNat prs):dw p n cs:=
 ⟨h1,h2,h3,h4,h5,fun prs hp=>⟨(h6 prs hp).1,(h6 prs hp).2.1,fun pr br=>by have:=(h6 prs hp).2.2 pr br;omega⟩⟩
theorem Vc(cs:List aH):SeqAt.shaped (.list (cs.map bH))=true:=by
 have h1:=QO cs
 unfold SeqAt.shaped
 simp[PyData.canLay0,PyData.depth,h1.2]
 have:=h1.1
 omega
theorem mP:bL ["bag","net","many","p","n","checks","k","pairs"] ["bag","net","many"] (az lV):=⟨rfl,rfl,rfl,by decide+kernel,rfl,by decide+kernel,by decide+kernel⟩
theorem Ig(F:bD K "_law_more" "_law_more" lV f fd)(kQ:Callee P w K mg base "_law_copy" 1 ["net"] kO)(Rj:Callee P w K mg base "_law_summed" 3 ["bag","p","n","checks"] (er 4 sr))(bY:Callee P w K mg base "_law_draw" 2 ["bag","many"] g6)(bJ:mg "range"=none)(bT:mg "len"=none):
  bx P w K mg base bA 4 f fd ["bag","net","many"] (er 3 qo):=by
 refine F.ok mP (fun vs H Q E h=>h.1) (fun cdv A outer s H vs Q E hr h=>?_)
 obtain⟨_,b,l,ws,nb,ds,rfl,hB,hlive,hnb,hds,hF⟩:=h
 obtain⟨Φ,aG,hF⟩:∃Φ:Pd,(∀f d v H',Φ f d->aW (Nb b) H H'->bR H' b l->af (fun a=>nb a\/(f=true/\H a≠none)) H' d v->Q v H')/\qo ds Φ:=⟨_,fun f d v H' q=>q v H',hF⟩
 obtain⟨p,n,many,cs,rfl,hp,dD,n0,n1,hcl,hcs,m0,m1,q⟩:=hF
 refine⟨_,(@aq _ _ _ _ _ (@dX _ _ _ _ _ _ (@aI _ _ _ _ _ _ _ _ _ _ kQ (hr.mono (by decide)) (@aa _ _ _ _ _ (pv 1) ak rfl) (by rfl) (by decide) (by rfl) (by rfl)) (@gh _ (K) _ _ _ (3) _ rfl rfl (@bO _ _ _ _ _ (aO (i:=3) mP.nd rfl (Or.inl rfl)) (@bO _ _ _ _ _ (aO (i:=4) mP.nd rfl (Or.inl rfl)) (@bO _ _ _ _ _ (aO (i:=5) mP.nd rfl (Or.inl rfl)) fQ (by rfl)) (by rfl)) (by rfl)) (by rfl) (by rfl)) (by rfl) (by rfl) (by rfl)) (@aq _ _ _ _ _ (@fu _ _ _ _ _ _ _ _ PassesOwn.never rfl (@fM _ _ _ _ _ _ rfl bJ (@aa _ _ _ _ _ (pv 2) ak rfl) (by rfl)) (aO (i:=6) mP.nd rfl (Or.inl rfl)) (@aq _ _ _ _ _ (@aM _ _ (7) _ _ _ _ mP.nd rfl (Or.inl rfl) (@i6 _ _ _ _ _ _ _ _ (@aS _ _ _ _ _ _ _ _ (FP hr.units) (pv 5) (@dR _ _ _ _ ak) (aK _)) (@aI _ _ _ _ _ _ _ _ _ _ Rj (hr.mono (by decide)) (@aa _ _ _ _ _ (pv 0) (@aa _ _ _ _ _ (pv 3) (@aa _ _ _ _ _ (pv 4) (@aa _ _ _ _ _ (pv 5) ak rfl) rfl) rfl) rfl) (by rfl) (by decide) (by rfl) (by rfl)) (@dR _ _ _ _ ak)) (by rfl) (by first|exact .inl rfl|exact .inr rfl|assumption)) (@aE _ _ _ (@bS _ _ _ _ _ _ _ _ (@aS _ _ _ _ _ _ _ _ (FP hr.units) (pv 7) (@dR _ _ _ _ ak) (aK _)) (@aE _ _ _ (@AA _ _ _ _ (EU PySem.F.plainAttrs_list PySem.F.slot_list_insert PySem.F.type_list_insert LD (pv 5) (@aa _ _ _ _ _ (@aI _ _ _ _ _ _ _ _ _ _ bY (hr.mono (by decide)) (@aa _ _ _ _ _ (pv 0) (@aa _ _ _ _ _ (@aA _ _ _ _ _ _ _ _ cJ (@cy _ _ _ _ _ _ _ _ (fk K) gx rfl bT PySem.boot_len (@aa _ _ _ _ _ (pv 5) ak rfl) (by decide) (by decide) (by rfl) (by rfl)) aj) ak rfl) rfl) (by rfl) (by decide) (by rfl) (by rfl)) (@aa _ _ _ _ _ (pv 7) ak rfl) rfl)) (by rfl))) cg))) (by intro _;rfl)) (@aE _ _ _ (@aQ _ _ _ _ (@gR _ _ _ _ _ (@aa _ _ _ _ _ (pv 3) (@aa _ _ _ _ _ (pv 4) (@aa _ _ _ _ _ (pv 5) ak rfl) rfl) rfl)))))),?_⟩
 refine Sv.j7 hB hlive hnb hds aG (ρ:=[.au, .d false _, .d false _, .no, .no, .no, .no, .no]) rfl ?_
 clear aG hds
 refine Sv.seq ?_
 refine Sv.S0 (by decide) ?_
 walk_at "dt"
 refine⟨p,n,cs,rfl,by omega,fun A5=>?_⟩
 refine Sv.seq ?_
 refine Sv.wM ?_
 walk_at "dt"
 refine⟨fun i ρ=>∃(g:Bool) (cs':List aH) (x6 x7:Sl),cs'.length<=400+i/\(∀prs∈cs',gz p n.toNat prs)/\(∀v:List Int,v.length=n.toNat->(∀q∈cs,p∣aV q (v.map some))->∀q∈cs',p∣aV q (v.map some))/\ρ=[.au, .d false (bz p n cs), .d false (.int many), .d true (.int p), .d true (.int n), .own A5 g (cs'.map bH),x6,x7],⟨_,cs,_,_,hcl,hcs,fun _ _ h=>h,rfl⟩,?_,?_⟩
 ·rintro i d ρ ⟨hi,rfl⟩ ⟨g,cs',x6,x7,hl',hcs',hT,rfl⟩
  refine Gv.j9 ?_
  have jE:(cs'.map bH).length=cs'.length:=List.length_map ..
  refine Sv.seq ?_
  refine Sv.gZ (fun ρ'=>∃(prs:aH) (f7:Bool),gz p n.toNat prs/\(∀v:List Int,v.length=n.toNat->(∀q∈cs',p∣aV q (v.map some))->p∣aV prs (v.map some))/\ρ'=[.au, .d false (bz p n cs), .d false (.int many), .d true (.int p), .d true (.int n), .own A5 g (cs'.map bH), .d true (.int (0+(i:Int))), .d f7 (bH prs)]) ?_ ?_
  ·refine Sv.asg ?_
   refine Ev.Gm ?_
   refine Tv.lend 5 rfl ?_
   walk_at "dt"
   refine⟨Vc cs',by decide,_,rfl,?_⟩
   rw[show(PyData.list (List.map bH cs')).eqv (PyData.list (List.map (fun x:Fd=>x.snd) []))=(cs'.map bH).isEmpty from L2.Ef _]
   by_cases c:cs'=[]
   ·subst c
    rw[if_neg (by decide)]
    walk_at "dt"
    exact⟨[],_,⟨.nil,by decide,(fun _ h=>nomatch h)⟩,(fun _ _ _=>⟨0,by rw[Int.mul_zero];rfl⟩),rfl⟩
   ·rw[if_pos (by cases cs' with|nil=>exact absurd rfl c|cons _ _=>rfl)]
    refine Ev.Fv ?_
    refine fD.U3 5 rfl ?_
    refine fD.ju Ik rfl ?_
    walk_at "dt"
    refine⟨rfl,p,n,cs',rfl,EM hp dD n0 n1 (by omega) hcs',c,fun prs bZ uL=>⟨rfl,?_⟩⟩
    refine Gv.name ?_
    exact⟨prs,_,bZ,uL,rfl⟩
  rintro ρ' ⟨prs,f7,bZ,uL,rfl⟩
  walk_at "dt"
  refine⟨(BL prs).1,by decide,_,rfl,?_⟩
  rw[show(bH prs).eqv (PyData.list (List.map (fun x:Fd=>x.snd) []))=(prs.map pairD).isEmpty from L2.Ef _]
  by_cases c:prs=[]
  ·subst c
   rw[if_neg (by decide)]
   walk_at "dt"
   exact⟨_,_,_,_,by omega,hcs',hT,rfl⟩
  ·rw[if_pos (by cases prs with|nil=>exact absurd rfl c|cons _ _=>rfl)]
   refine Sv.insert rfl ?_
   refine Ev.lend 5 rfl ?_
   walk_at "dt"
   rw[jE]
   intro k k0 k1
   refine⟨rfl,k,rfl,k0,by omega,by omega,?_⟩
   refine Ev.var rfl ?_
   have es:(cs'.map bH).take k.toNat++bH prs::(cs'.map bH).drop k.toNat=(cs'.take k.toNat++prs::cs'.drop k.toNat).map bH:=by
    rw[List.map_append,List.map_cons,List.map_take,List.map_drop]
   rw[es]
   refine⟨_,_,_,_,?_,fun q hq=>?_,fun v h1 h2 q hq=>?_,rfl⟩
   ·rw[List.length_append,List.length_cons,List.length_take,List.length_drop]
    omega
   ·rcases List.mem_append.mp hq with z|z
    ·exact hcs' q (List.mem_of_mem_take z)
    ·rcases List.mem_cons.mp z with z|z
     ·rw[z];exact bZ
     ·exact hcs' q (List.mem_of_mem_drop z)
   ·rcases List.mem_append.mp hq with z|z
    ·exact hT v h1 h2 q (List.mem_of_mem_take z)
    ·rcases List.mem_cons.mp z with z|z
     ·rw[z];exact uL v h1 (hT v h1 h2)
     ·exact hT v h1 h2 q (List.mem_of_mem_drop z)
 ·rintro ρ ⟨g,cs',x6,x7,hl',hcs',hT,rfl⟩
  refine Sv.jB 5 rfl ?_
  walk_at "dt"
  exact q _ cs' (by omega) hcs' hT
def oG:DF:=fun ds Φ=>∃(p many:Int) (v:List Int),ds=[aX v, .int p, .int many]/\(v.length:Int)=many/\v.length<=9000/\(∀x∈v,0<=x/\x<p)/\p<10^40/\Φ true (.bool true)
theorem o6:cF oG:=by
 intro ds Φ Ψ hm z
 obtain⟨p,m,v,e,h1,h2,h3,h4,q⟩:=hm
 exact⟨p,m,v,e,h1,h2,h3,h4,z _ _ q⟩
theorem Mx{os:List Bool}(h:∀(i:Nat) o,os[i]?=some o->o=true):os.all id=true:=by
 rw[List.all_eq_true]
 intro o ho
 obtain⟨i,hi⟩:=List.getElem?_of_mem ho
 exact h i o hi
theorem Hz:bL ["found","p","many"] ["found","p","many"] (az kR):=⟨rfl,rfl,rfl,by decide+kernel,rfl,by decide+kernel,by decide+kernel⟩
theorem JO(F:bD K "_law_letter_list" "_law_letter_list" kR f fd)(Iq:Callee P w K mg base "_law_whole" 1 ["found"] ux)(gb:mg "all"=none)(gG:mg "isinstance"=none)(fc:mg "list"=none)(bT:mg "len"=none):
  bx P w K mg base bA 2 f fd ["found","p","many"] (aZ 3 oG):=by
 refine F.ok Hz (fun vs H Q E h=>h.1) (fun cdv A outer s H vs Q E hr h=>?_)
 obtain⟨_,nb,ds,hlive,hds,hF⟩:=h
 obtain⟨Φ,aG,hF⟩:∃Φ:Pd,(∀f d v H',Φ f d->bf H H'->af (fun a=>nb a\/(f=true/\H a≠none)) H' d v->Q v H')/\oG ds Φ:=⟨_,fun f d v H' q=>q v H',hF⟩
 obtain⟨p,many,u,rfl,BB,Xc,hu,cM,q⟩:=hF
 refine⟨_,(@aq _ _ _ _ _ (@bS _ _ _ _ _ _ _ _ (PW.pt (iU (@fy _ _ _ _ (@dP _ (K) _ _ rfl (@cy _ _ _ _ _ _ _ _ (jl K) nD rfl gG PyProof.Rows.boot_isinstance (@aa _ _ _ _ _ (pv 0) (@aa _ _ _ _ _ (oY (v:= .ty "list") rfl fc PyProof.Rows.boot_list rfl) ak rfl) rfl) (by decide) (by decide) (by rfl) (by rfl)) (fun _=>rfl))) (j5 (@aS _ _ _ _ _ _ _ _ fL (@cy _ _ _ _ _ _ _ _ (fk K) gx rfl bT PySem.boot_len (@aa _ _ _ _ _ (pv 0) ak rfl) (by decide) (by decide) (by rfl) (by rfl)) (pv 2) (aK _))))) (@aE _ _ _ (@aQ _ _ _ _ fh)) cg) (@aE _ _ _ (@aQ _ _ _ _ (@cy _ _ _ _ _ _ _ _ (jQ K) (lY rfl) rfl gb PyProof.Rows.boot_all (@aa _ _ _ _ _ (dJ (cz.of (show cK (az kR) ["found","p","many"] _ ["one","p"] [none,some 1]=true by decide+kernel)) (@eu _ _ _ _ (pv 0)) (fun _ _ _ _=>⟨(aO (i:=0) (by show List.Nodup (["one","p"]:List Str);decide+kernel) rfl (Or.inl rfl)),gk,(@lM _ _ _ _ _ _ _ (@aI _ _ _ _ _ _ _ _ _ _ Iq (hr.mono (by decide)) (@aa _ _ _ _ _ (pv 0) ak rfl) (by rfl) (by decide) (by rfl) (by rfl)) (@lM _ _ _ _ _ _ _ (@eG _ _ _ _ _ _ _ _ BZ aj (pv 0) (aK _)) (@kE _ _ _ _ _ (@eG _ _ _ _ _ _ _ _ qc (pv 0) (pv 1) (aK _)))))⟩)) ak rfl) (by decide) (by decide) (by rfl) (by rfl))))),?_⟩
 refine Sv.dY hlive hds aG (ρ:=[.d false _, .d false _, .d false _]) rfl ?_
 clear aG hds
 have WR:(u.map PyData.int).length=u.length:=List.length_map ..
 walk_at "dt"
 refine aC.ev (aC.iE (by decide) rfl ?_)
 walk_at "dt"
 refine fun v=>?_
 refine fF.rel PyData.bool true (fun i o=>o=true) ?_ fun os gc hos=>⟨os,rfl,?_⟩
 ·rintro i d hd
  obtain⟨x,hx,rfl⟩:=eF hd
  obtain⟨x0,x1⟩:=hu x (List.mem_of_getElem? hx)
  walk_at "dt"
  refine⟨by walk_at "wk",?_⟩
  walk_at "dt"
  exact decide_eq_true x1
 ·rw[Mx hos]
  exact q
def pD:DF:=fun ds Φ=>∃(p n:Int) (cs:List aH) (aD:List Int),ds=[bz p n cs,aX aD]/\dw p n cs/\aD.length=cs.length/\(∀x∈aD,0<=x/\x<p)/\∀rw:List Int,bB p n.toNat rw->(∀i<n.toNat,p∣gI rw i-cD cs aD i)->∀f,Φ f (aX rw)
theorem Be:cF pD:=by
 intro ds Φ Ψ hm z
 obtain⟨p,n,cs,aD,e,h1,h2,h3,q⟩:=hm
 exact⟨p,n,cs,aD,e,h1,h2,h3,fun r a b f=>z _ _ (q r a b f)⟩
theorem pI:bL ["net","factors","row","c","place","factor"] ["net","factors"] (az nj):=⟨rfl,rfl,rfl,by decide+kernel,rfl,by decide+kernel,by decide+kernel⟩
theorem Pf(F:bD K "_law_combined" "_law_combined" nj f fd)(bJ:mg "range"=none)(bT:mg "len"=none):
  bx P w K mg base bA 1 f fd ["net","factors"] (aZ 2 pD):=by
 refine F.ok pI (fun vs H Q E h=>h.1) (fun cdv A outer s H vs Q E hr h=>?_)
 obtain⟨_,nb,ds,hlive,hds,hF⟩:=h
 obtain⟨Φ,aG,hF⟩:∃Φ:Pd,(∀f d v H',Φ f d->bf H H'->af (fun a=>nb a\/(f=true/\H a≠none)) H' d v->Q v H')/\pD ds Φ:=⟨_,fun f d v H' q=>q v H',hF⟩
 obtain⟨p,n,cs,aD,rfl,hN,hfl,hfr,q⟩:=hF
 refine⟨_,(@aq _ _ _ _ _ (@aM _ _ (2) _ _ _ _ pI.nd rfl (Or.inl rfl) (@aA _ _ _ _ _ _ _ _ qy (@dR _ _ _ _ (@aa _ _ _ _ _ aj ak rfl)) (@ay _ _ _ _ _ _ (aY K) bu (pv 0) aj (fun _ _=>rfl))) (by rfl) (by first|exact .inl rfl|exact .inr rfl|assumption)) (@aq _ _ _ _ _ (@fu _ _ _ _ _ _ _ _ PassesOwn.never rfl (@fM _ _ _ _ _ _ rfl bJ (@aa _ _ _ _ _ (@cy _ _ _ _ _ _ _ _ (fk K) gx rfl bT PySem.boot_len (@aa _ _ _ _ _ (pv 1) ak rfl) (by decide) (by decide) (by rfl) (by rfl)) ak rfl) (by rfl)) (aO (i:=3) pI.nd rfl (Or.inl rfl)) (@aE _ _ _ (@fu _ _ _ _ _ _ _ _ PassesOwn.never rfl (@eu _ _ _ _ (@ay _ _ _ _ _ _ (bh K) aR (@ay _ _ _ _ _ _ (aY K) bu (pv 0) aj (fun _ _=>rfl)) (pv 3) (fun _ _=>rfl))) (@gh _ (K) _ _ _ (2) _ rfl rfl (@bO _ _ _ _ _ (aO (i:=4) pI.nd rfl (Or.inl rfl)) (@bO _ _ _ _ _ (aO (i:=5) pI.nd rfl (Or.inl rfl)) fQ (by rfl)) (by rfl)) (by rfl) (by rfl)) (@aE _ _ _ (@dX _ _ _ _ _ _ (@aA _ _ _ _ _ _ _ _ dj (@aA _ _ _ _ _ _ _ _ cJ (@ay _ _ _ _ _ _ (bh K) aR (pv 2) (pv 4) (fun _ _=>rfl)) (@aA _ _ _ _ _ _ _ _ ez (pv 5) (@ay _ _ _ _ _ _ (bh K) aR (pv 1) (pv 3) (fun _ _=>rfl)))) (@ay _ _ _ _ _ _ (aY K) bu (pv 0) aj (fun _ _=>rfl))) (fO (pv 2) (pv 4) set_list) (by rfl) (by rfl) (by rfl))) (by intro _;rfl))) (by intro _;rfl)) (@aE _ _ _ (@aQ _ _ _ _ (pv 2))))),?_⟩
 refine Sv.dY hlive hds aG (ρ:=[.d false _, .d false _, .no, .no, .no, .no]) rfl ?_
 clear aG hds
 have p2:=hN.hp.1
 have cM:=hN.cM
 have hcl:=hN.cl
 have n0:=hN.n0
 have n1:=hN.n1
 have jE:(cs.map bH).length=cs.length:=List.length_map ..
 have hfm:(aD.map PyData.int).length=aD.length:=List.length_map ..
 generalize gM:(ji (eE (bV mL _ _) (dN 2)) _:TS)=tl
 walk_at "dt"
 subst gM
 refine Sv.seq ?_
 refine Sv.oK (aC.pX ?_)
 walk_at "dt"
 intro g0
 have hz:List.replicate n.toNat (PyData.int 0)=(List.replicate n.toNat (0:Int)).map PyData.int:=by rw[List.map_replicate]
 rw[hz]
 intro A2
 refine Sv.seq ?_
 refine Sv.wM ?_
 walk_at "dt"
 refine⟨fun c ρ=>∃(r:List Int) (g:Bool) (x3 x4 x5:Sl),fX p n cs aD c [] 0 r/\ρ=[.d false (bz p n cs), .d false (aX aD), .own A2 g (r.map .int),x3,x4,x5],⟨_,_,_,_,_,fX.init (by omega),rfl⟩,?_,?_⟩
 ·rintro c d ρ ⟨hc,rfl⟩ ⟨r,g,x3,x4,x5,hI,rfl⟩
  have Je:c<cs.length:=by rw[hfm] at hc;omega
  have bZ:cs[c]?=some cs[c]:=List.getElem?_eq_getElem Je
  have hfc:aD[c]?=some (aD[c]'(by omega)):=List.getElem?_eq_getElem (by omega)
  generalize cs[c]=prs at bZ
  generalize (aD[c]'(by omega))=x at hfc
  obtain⟨g1,g2,g3⟩:=hN.ok prs (List.mem_of_getElem? bZ)
  obtain⟨y0,y1⟩:=hfr x (List.mem_of_getElem? hfc)
  have zk:aU (cs.map bH) (0+(c:Int))=some (bH prs):=cW (by omega) (by rw[List.getElem?_map,show(0+(c:Int)).toNat=c by omega,bZ];rfl)
  have jo:aU (aD.map PyData.int) (0+(c:Int))=some (.int x):=cW (by omega) (by rw[List.getElem?_map,show(0+(c:Int)).toNat=c by omega,hfc];rfl)
  have oA:(prs.map pairD).length=prs.length:=List.length_map ..
  have sx:Sm x:=by unfold Sm;omega
  refine Gv.j9 ?_
  refine Sv.forL ?_
  walk_at "dt"
  refine fun v=>⟨fun j ρ=>∃(r:List Int) (g:Bool) (x4 x5:Sl),fX p n cs aD c (prs.take j) x r/\ρ=[.d false (bz p n cs), .d false (aX aD), .own A2 g (r.map .int), .d true (.int (0+(c:Int))),x4,x5],⟨_,_,_,_,hI.start,rfl⟩,?_,?_⟩
  ·rintro j d ρ hd ⟨r,g,x4,x5,hJ,rfl⟩
   obtain⟨pr,jf,rfl⟩:=eF hd
   obtain⟨a0,a1,a2,a3⟩:=g3 pr (List.mem_of_getElem? jf)
   have hrl:=hJ.ok.len
   have wo:aU (r.map PyData.int) pr.1=some (.int (gI r pr.1.toNat)):=cW a0 (by rw[List.getElem?_map,hJ.ok.at (by omega)];rfl)
   obtain⟨b0,b1⟩:=hJ.ok.g (i:=pr.1.toNat) (by omega)
   have s2:Sm pr.2:=by unfold Sm;omega
   have s3:Sm (gI r pr.1.toNat):=by unfold Sm;omega
   have hix:cH (r.map PyData.int).length pr.1=some pr.1.toNat:=by
    unfold cH
    rw[List.length_map]
    repeat (first|rw[if_pos (by omega)]|rw[if_neg (by omega)])
   generalize zI:(eE (bV _ _ _) (kL (dM 2) _ nv):TS)=tl2
   walk_at "dt"
   subst zI
   refine Sv.lq rfl ?_
   walk_at "dt"
   refine⟨_,_,rfl,hix,?_⟩
   have es:prs.take (j+1)=prs.take j++[pr]:=take_snoc jf
   rw[<-List.map_set]
   refine⟨_,_,_,_,?_,rfl⟩
   rw[es]
   exact hJ.step (by omega) a0 a1
  ·rintro ρ ⟨r,g,x4,x5,hJ,rfl⟩
   rw[oA,List.take_length] at hJ
   exact⟨_,_,_,_,_,hJ.next bZ hfc hfl,rfl⟩
 ·rintro ρ ⟨r,g,x3,x4,x5,hI,rfl⟩
  rw[hfm,hfl] at hI
  refine Sv.jB 2 rfl ?_
  walk_at "dt"
  refine q r hI.ok (fun i hi=>?_) _
  have:=hI.sum i hi
  rw[Int.toNat_natCast,List.take_length,<-hfl,List.take_length] at this
  simpa[co] using this
def nO:DF:=fun ds Φ=>∃(p n:Int) (cs:List aH) (v:List Int),ds=[bz p n cs,aX v]/\dw p n cs/\v.length=n.toNat/\(∀x∈v,0<=x/\x<p)/\(∀prs∈cs,p∣aV prs (v.map some))/\Φ true (.bool true)
theorem By:cF nO:=by
 intro ds Φ Ψ hm z
 obtain⟨p,n,cs,v,e,h1,h2,h3,h4,q⟩:=hm
 exact⟨p,n,cs,v,e,h1,h2,h3,h4,z _ _ q⟩
theorem all_true{os:List Bool}(h:∀(i:Nat) o,os[i]?=some o->o=true):os.all id=true:=by
 rw[List.all_eq_true]
 intro o ho
 obtain⟨i,hi⟩:=List.getElem?_of_mem ho
 exact h i o hi
theorem Mf:bL ["net","word"] ["net","word"] (az lu):=⟨rfl,rfl,rfl,by decide+kernel,rfl,by decide+kernel,by decide+kernel⟩
theorem Ql(F:bD K "_law_true" "_law_true" lu f fd)(ya:Callee P w K mg base "_law_sum" 1 ["p","pairs","word"] (aZ 3 pQ))(gb:mg "all"=none):
  bx P w K mg base bA 2 f fd ["net","word"] (aZ 2 nO):=by
 refine F.ok Mf (fun vs H Q E h=>h.1) (fun cdv A outer s H vs Q E hr h=>?_)
 obtain⟨_,nb,ds,hlive,hds,hF⟩:=h
 obtain⟨Φ,aG,hF⟩:∃Φ:Pd,(∀f d v H',Φ f d->bf H H'->af (fun a=>nb a\/(f=true/\H a≠none)) H' d v->Q v H')/\nO ds Φ:=⟨_,fun f d v H' q=>q v H',hF⟩
 obtain⟨p,n,cs,u,rfl,hN,BB,hu,htr,q⟩:=hF
 refine⟨_,(@aE _ _ _ (@aQ _ _ _ _ (@cy _ _ _ _ _ _ _ _ (jQ K) (lY rfl) rfl gb PyProof.Rows.boot_all (@aa _ _ _ _ _ (dJ (cz.of (show cK (az lu) ["net","word"] _ ["pairs","net","word"] [none,some 0,some 1]=true by decide+kernel)) (@eu _ _ _ _ (@ay _ _ _ _ _ _ (aY K) bu (pv 0) aj (fun _ _=>rfl))) (fun _ _ _ _=>⟨(aO (i:=0) (by show List.Nodup (["pairs","net","word"]:List Str);decide+kernel) rfl (Or.inl rfl)),gk,(@eG _ _ _ _ _ _ _ _ bX (@aI _ _ _ _ _ _ _ _ _ _ ya (hr.mono (by decide)) (@aa _ _ _ _ _ (@ay _ _ _ _ _ _ (aY K) bu (pv 1) aj (fun _ _=>rfl)) (@aa _ _ _ _ _ (pv 0) (@aa _ _ _ _ _ (pv 2) ak rfl) rfl) rfl) (by rfl) (by decide) (by rfl) (by rfl)) aj (aK _))⟩)) ak rfl) (by decide) (by decide) (by rfl) (by rfl)))),?_⟩
 refine Sv.dY hlive hds aG (ρ:=[.d false _, .d false _]) rfl ?_
 clear aG hds
 have p2:=hN.hp.1
 have cM:=hN.cM
 have hcl:=hN.cl
 have n0:=hN.n0
 have jE:(cs.map bH).length=cs.length:=List.length_map ..
 have hD:u.map PyData.int=(u.map some).map bw:=by rw[List.map_map];rfl
 walk_at "dt"
 refine aC.ev (aC.iE (by decide) rfl ?_)
 walk_at "dt"
 refine fun v=>?_
 refine fF.rel PyData.bool true (fun i o=>o=true) ?_ fun os gc hos=>⟨os,rfl,?_⟩
 ·rintro i d hd
  obtain⟨prs,bZ,rfl⟩:=eF hd
  obtain⟨g1,g2,g3⟩:=hN.ok prs (List.mem_of_getElem? bZ)
  walk_at "dt"
  refine⟨by walk_at "wk",?_⟩
  walk_at "dt"
  refine Ev.bI BK ?_
  walk_at "dt"
  refine⟨rfl,p,prs,u.map some,by show[_,PyData.list _,PyData.list _]=_;rw[hD],by omega,by omega,fun pr br=>?_,fun x hx=>?_,?_⟩
  ·have:=g3 pr br
   rw[List.length_map]
   exact⟨this.1,by omega,by unfold Sm;omega⟩
  ·obtain⟨y,hy,e⟩:=List.mem_map.mp hx
   cases e
   have:=hu x hy
   unfold Sm;omega
  ·have:aV prs (u.map some)%p=0:=Int.emod_eq_zero_of_dvd (htr prs (List.mem_of_getElem? bZ))
   rw[this]
   walk_at "dt"
   rfl
 ·rw[all_true hos]
  exact q
def Th(p n:Int)(cs:List aH)(wd:Wo)(pl:Nat)(d:PyData):Prop:=(∃v aD,oV p n cs wd pl v aD/\d= .tuple [.str "told", .int v,aX aD])\/∃u,dW p n cs (iw wd pl) u/\d= .tuple [.str "open",aX u]
def sD:DF:=fun ds Φ=>∃(p n:Int) (cs:List aH) (wd:Wo) (pl:Nat) (d:PyData),ds=[bz p n cs,cX wd, .int (pl:Int),d]/\dw p n cs/\wd.length=n.toNat/\(∀x,some x∈wd->0<=x/\x<p)/\wd[pl]?=some none/\Th p n cs wd pl d/\Φ true (.bool true)
theorem Br:cF sD:=by
 intro ds Φ Ψ hm z
 obtain⟨p,n,cs,wd,pl,d,e,h1,h2,h3,h4,h5,q⟩:=hm
 exact⟨p,n,cs,wd,pl,d,e,h1,h2,h3,h4,h5,z _ _ q⟩
theorem i9(a b:Str):fB (.str a) (.str b) (decide (a=b)):=fB.sd a b
theorem EN:∀(f:Nat->Int) (xs:List Int) (x:Int),ao f (xs++[x])=ao f xs+f xs.length*x
  |f,[],x=>by simp[ao]
  | f, y :: ys, x => by
    show f 0*y+ao _ (ys++[x])=(f 0*y+ao _ ys)+f (ys.length+1)*x
    rw[EN (fun i=>f (i+1)) ys x]
    omega
theorem m8:bL ["net","word","place","found","p","n","checks","other","row"] ["net","word","place","found"] (az jz):=⟨rfl,rfl,rfl,by decide+kernel,rfl,by decide+kernel,by decide+kernel⟩
theorem Ni(F:bD K "_law_settles" "_law_settles" jz f fd)(wU:Callee P w K mg base "_law_combined" 1 ["net","factors"] (aZ 2 pD))(lO:Callee P w K mg base "_law_letter_list" 2 ["found","p","many"] (aZ 3 oG))(wX:Callee P w K mg base "_law_true" 2 ["net","word"] (aZ 2 nO))(bT:mg "len"=none)(gb:mg "all"=none)(gG:mg "isinstance"=none)(mZ:mg "tuple"=none)(jk:mg "sum"=none)(jc:mg "int"=none)(bJ:mg "range"=none):
    bx P w K mg base bA 3 f fd ["net","word","place","found"] (aZ 4 sD):=by
  refine F.ok m8 (fun vs H Q E h=>h.1) (fun cdv A outer s H vs Q E hr h=>?_)
  obtain⟨_,nb,ds,hlive,hds,hF⟩:=h
  obtain⟨Φ,aG,hF⟩:∃Φ:Pd,(∀f d v H',Φ f d->bf H H'->af (fun a=>nb a\/(f=true/\H a≠none)) H' d v->Q v H')/\sD ds Φ:=⟨_,fun f d v H' q=>q v H',hF⟩
  obtain⟨p,n,cs,wd,pl,d,rfl,hN,hwl,cB,hpl,hD,q⟩:=hF
  refine⟨_,(@aq _ _ _ _ _ (@dX _ _ _ _ _ _ (pv 0) (@gh _ (K) _ _ _ (3) _ rfl rfl (@bO _ _ _ _ _ (aO (i:=4) m8.nd rfl (Or.inl rfl)) (@bO _ _ _ _ _ (aO (i:=5) m8.nd rfl (Or.inl rfl)) (@bO _ _ _ _ _ (aO (i:=6) m8.nd rfl (Or.inl rfl)) fQ (by rfl)) (by rfl)) (by rfl)) (by rfl) (by rfl)) (by rfl) (by rfl) (by rfl)) (@aq _ _ _ _ _ (@bS _ _ _ _ _ _ _ _ (PW.pt (iU (@fy _ _ _ _ (@dP _ (K) _ _ rfl (@cy _ _ _ _ _ _ _ _ (jl K) nD rfl gG PyProof.Rows.boot_isinstance (@aa _ _ _ _ _ (pv 3) (@aa _ _ _ _ _ (oY (v:= .ty "tuple") rfl mZ PyProof.Rows.boot_tuple rfl) ak rfl) rfl) (by decide) (by decide) (by rfl) (by rfl)) (fun _=>rfl))) (iU (@aS _ _ _ _ _ _ _ _ qc (@cy _ _ _ _ _ _ _ _ (fk K) gx rfl bT PySem.boot_len (@aa _ _ _ _ _ (pv 3) ak rfl) (by decide) (by decide) (by rfl) (by rfl)) aj (aK _)) (j5 (@aS _ _ _ _ _ _ _ _ Dn (@cy _ _ _ _ _ _ _ _ (fk K) gx rfl bT PySem.boot_len (@aa _ _ _ _ _ (pv 3) ak rfl) (by decide) (by decide) (by rfl) (by rfl)) aj (aK _)))))) (@aE _ _ _ (@aQ _ _ _ _ fh)) cg) (@aq _ _ _ _ _ (@bS _ _ _ _ _ _ _ _ (@aS _ _ _ _ _ _ _ _ bX (@cy _ _ _ _ _ _ _ _ (fk K) gx rfl bT PySem.boot_len (@aa _ _ _ _ _ (pv 3) ak rfl) (by decide) (by decide) (by rfl) (by rfl)) aj (aK _)) (@aq _ _ _ _ _ (@aM _ _ (7) _ _ _ _ m8.nd rfl (Or.inr rfl) (@ay _ _ _ _ _ _ (aY K) bu (pv 3) aj (fun _ _=>rfl)) (by rfl) (by first|exact .inl rfl|exact .inr rfl|assumption)) (@aq _ _ _ _ _ (@bS _ _ _ _ _ _ _ _ (PW.pt (iU (@aS _ _ _ _ _ _ _ _ fL (@ay _ _ _ _ _ _ (aY K) bu (pv 3) aj (fun _ _=>rfl)) gE (aK _)) (iU (@fy _ _ _ _ (@dP _ (K) _ _ rfl (@aI _ _ _ _ _ _ _ _ _ _ lO (hr.mono (by decide)) (@aa _ _ _ _ _ (pv 7) (@aa _ _ _ _ _ (pv 4) (@aa _ _ _ _ _ (pv 5) ak rfl) rfl) rfl) (by rfl) (by decide) (by rfl) (by rfl)) (fun _=>rfl))) (j5 (@fy _ _ _ _ (@dP _ (K) _ _ rfl (@aI _ _ _ _ _ _ _ _ _ _ wX (hr.mono (by decide)) (@aa _ _ _ _ _ (pv 0) (@aa _ _ _ _ _ (pv 7) ak rfl) rfl) (by rfl) (by decide) (by rfl) (by rfl)) (fun _=>rfl))))))) (@aE _ _ _ (@aQ _ _ _ _ fh)) cg) (@aE _ _ _ (@aQ _ _ _ _ (@lM _ _ _ _ _ _ _ (@eG _ _ _ _ _ _ _ _ bX (@ay _ _ _ _ _ _ (bh K) aR (pv 7) (pv 2) (fun _ _=>rfl)) aj (aK _)) (@kE _ _ _ _ _ (@cy _ _ _ _ _ _ _ _ (jQ K) (lY rfl) rfl gb PyProof.Rows.boot_all (@aa _ _ _ _ _ (dJ (cz.of (show cK (az jz) ["net","word","place","found","p","n","checks","other","row"] _ ["k","word","other"] [none,some 1,some 7]=true by decide+kernel)) (@fM _ _ _ _ _ _ rfl bJ (@aa _ _ _ _ _ (pv 5) ak rfl) (by rfl)) (fun _ _ _ _=>⟨(aO (i:=0) (by show List.Nodup (["k","word","other"]:List Str);decide+kernel) rfl (Or.inl rfl)),(gJ (@aS _ _ _ _ _ _ _ _ jb (@ay _ _ _ _ _ _ (bh K) aR (pv 1) (pv 0) (fun _ _=>rfl)) dS (aK _))),(@eG _ _ _ _ _ _ _ _ bX (@ay _ _ _ _ _ _ (bh K) aR (pv 2) (pv 0) (fun _ _=>rfl)) aj (aK _))⟩)) ak rfl) (by decide) (by decide) (by rfl) (by rfl)))))))) cg) (@aq _ _ _ _ _ (@bS _ _ _ _ _ _ _ _ (PW.pt (iU (@aS _ _ _ _ _ _ _ _ fL (@ay _ _ _ _ _ _ (aY K) bu (pv 3) aj (fun _ _=>rfl)) gE (aK _)) (j5 (@fy _ _ _ _ (@dP _ (K) _ _ rfl (@aI _ _ _ _ _ _ _ _ _ _ lO (hr.mono (by decide)) (@aa _ _ _ _ _ (@dR _ _ _ _ (@aa _ _ _ _ _ (@ay _ _ _ _ _ _ (aY K) bu (pv 3) aj (fun _ _=>rfl)) ak rfl)) (@aa _ _ _ _ _ (pv 4) (@aa _ _ _ _ _ aj ak rfl) rfl) rfl) (by rfl) (by decide) (by rfl) (by rfl)) (fun _=>rfl)))))) (@aE _ _ _ (@aQ _ _ _ _ fh)) cg) (@aq _ _ _ _ _ (@bS _ _ _ _ _ _ _ _ (@fy _ _ _ _ (@dP _ (K) _ _ rfl (@aI _ _ _ _ _ _ _ _ _ _ lO (hr.mono (by decide)) (@aa _ _ _ _ _ (@ay _ _ _ _ _ _ (aY K) bu (pv 3) aj (fun _ _=>rfl)) (@aa _ _ _ _ _ (pv 4) (@aa _ _ _ _ _ (@cy _ _ _ _ _ _ _ _ (fk K) gx rfl bT PySem.boot_len (@aa _ _ _ _ _ (pv 6) ak rfl) (by decide) (by decide) (by rfl) (by rfl)) ak rfl) rfl) rfl) (by rfl) (by decide) (by rfl) (by rfl)) (fun _=>rfl))) (@aE _ _ _ (@aQ _ _ _ _ fh)) cg) (@aq _ _ _ _ _ (@aM _ _ (8) _ _ _ _ m8.nd rfl (Or.inr rfl) (@aI _ _ _ _ _ _ _ _ _ _ wU (hr.mono (by decide)) (@aa _ _ _ _ _ (pv 0) (@aa _ _ _ _ _ (@ay _ _ _ _ _ _ (aY K) bu (pv 3) aj (fun _ _=>rfl)) ak rfl) rfl) (by rfl) (by decide) (by rfl) (by rfl)) (by rfl) (by first|exact .inl rfl|exact .inr rfl|assumption)) (@aq _ _ _ _ _ (@bS _ _ _ _ _ _ _ _ (@fy _ _ _ _ (@dP _ (K) _ _ rfl (@cy _ _ _ _ _ _ _ _ (jQ K) (lY rfl) rfl gb PyProof.Rows.boot_all (@aa _ _ _ _ _ (dJ (cz.of (show cK (az jz) ["net","word","place","found","p","n","checks","other","row"] _ ["k","word","place","row"] [none,some 1,some 2,some 8]=true by decide+kernel)) (@fM _ _ _ _ _ _ rfl bJ (@aa _ _ _ _ _ (pv 5) ak rfl) (by rfl)) (fun _ _ _ _=>⟨(aO (i:=0) (by show List.Nodup (["k","word","place","row"]:List Str);decide+kernel) rfl (Or.inl rfl)),(gJ (@aS _ _ _ _ _ _ _ _ mO (@ay _ _ _ _ _ _ (bh K) aR (pv 1) (pv 0) (fun _ _=>rfl)) dS (aK _))),(@eG _ _ _ _ _ _ _ _ bX (@ay _ _ _ _ _ _ (bh K) aR (pv 3) (pv 0) (fun _ _=>rfl)) (@lC _ _ _ _ _ _ _ _ _ C2 rfl jc PyProof.Rows.boot_int (@aa _ _ _ _ _ (@eG _ _ _ _ _ _ _ _ bX (pv 0) (pv 2) (aK _)) ak rfl) (by decide) (by decide) (by rfl) (by rfl)) (aK _))⟩)) ak rfl) (by decide) (by decide) (by rfl) (by rfl)) (fun _=>rfl))) (@aE _ _ _ (@aQ _ _ _ _ fh)) cg) (@aE _ _ _ (@aQ _ _ _ _ (@eG _ _ _ _ _ _ _ _ bX (@aA _ _ _ _ _ _ _ _ dj (@aA _ _ _ _ _ _ _ _ cJ (@ay _ _ _ _ _ _ (aY K) bu (pv 3) aj (fun _ _=>rfl)) (@cy _ _ _ _ _ _ _ _ (nI K) (zL rfl) rfl jk PyProof.Rows.boot_sum (@aa _ _ _ _ _ (dJ (cz.of (show cK (az jz) ["net","word","place","found","p","n","checks","other","row"] _ ["k","word","row"] [none,some 1,some 8]=true by decide+kernel)) (@fM _ _ _ _ _ _ rfl bJ (@aa _ _ _ _ _ (pv 5) ak rfl) (by rfl)) (fun _ _ _ _=>⟨(aO (i:=0) (by show List.Nodup (["k","word","row"]:List Str);decide+kernel) rfl (Or.inl rfl)),(gJ (@aS _ _ _ _ _ _ _ _ jb (@ay _ _ _ _ _ _ (bh K) aR (pv 1) (pv 0) (fun _ _=>rfl)) dS (aK _))),(@aA _ _ _ _ _ _ _ _ ez (@ay _ _ _ _ _ _ (bh K) aR (pv 2) (pv 0) (fun _ _=>rfl)) (@ay _ _ _ _ _ _ (bh K) aR (pv 1) (pv 0) (fun _ _=>rfl)))⟩)) ak rfl) (by decide) (by decide) (by rfl) (by rfl))) (pv 4)) aj (aK _))))))))))),?_⟩
  refine Sv.dY hlive hds aG (ρ:=[.d false _, .d false _, .d false _, .d false _, .no, .no, .no, .no, .no]) rfl ?_
  clear aG hds
  have p2:=hN.hp.1
  have cM:=hN.cM
  have hcl:=hN.cl
  have n0:=hN.n0
  have n1:=hN.n1
  have jg:=(List.getElem?_eq_some_iff.mp hpl).1
  have ku:(wd.map bw).length=wd.length:=List.length_map ..
  rcases hD with ⟨v,aD,hT,rfl⟩|⟨u,hW,rfl⟩
  · have hfl:=hT.len
    walk_at "dt"
    refine⟨_,i9 _ _,_,rfl,?_⟩
    rw[if_neg (by decide)]
    walk_at "dt"
    refine Ev.bI o6 ?_
    walk_at "dt"
    refine⟨rfl,p,1,[v],rfl,rfl,by show 1<=9000;omega,?_,cM,?_⟩
    · intro x hx
      rw[List.mem_singleton.mp hx]
      exact⟨hT.v0,hT.v1⟩
    walk_at "dt"
    refine Ev.bI o6 ?_
    walk_at "dt"
    refine⟨rfl,p,(cs.map bH).length,aD,rfl,by rw[List.length_map];omega,by omega,hT.rg,cM,?_⟩
    walk_at "dt"
    refine Ev.bI Be ?_
    walk_at "dt"
    refine⟨rfl,p,n,cs,aD,rfl,hN,hfl,hT.rg,fun r hr hsum f=>?_⟩
    obtain⟨hz,h1⟩:=hT.oF r hr.len hsum
    have hrl:=hr.len
    walk_at "dt"
    refine aC.ev (aC.ia (by decide) rfl ?_)
    walk_at "dt"
    refine⟨true,fun i ds=>∃bs:List Bool,ds=bs.map .bool/\bs.all id=true,⟨[],rfl,rfl⟩,?_,?_⟩
    · rintro i d ds ⟨hi,rfl⟩ hl' ⟨bs,rfl,hbs⟩
      obtain⟨o,ho,hat⟩:=jj (xs:=wd) (k:=0+(i:Int)) bw (by omega) (show 0+(i:Int)<wd.length by omega) rfl
      rw[show(0+(i:Int)).toNat=i by omega] at ho
      have jo:aU (r.map PyData.int) (0+(i:Int))=some (.int (gI r i)):=cW (by omega) (by rw[List.getElem?_map,show(0+(i:Int)).toNat=i by omega,hr.at hi];rfl)
      walk_at "dt"
      refine⟨by walk_at "wk",?_⟩
      walk_at "dt"
      rw[iz]
      cases o with
      | some x =>
        walk_at "dt"
        exact⟨bs,rfl,hbs⟩
      | none =>
        have hg:=hr.g (i:=i) (by omega)
        have hk:gI r i=if i=pl then 1 else 0:=by
          obtain⟨kk,hkk⟩:=hz i ho
          by_cases c:i=pl
          · rw[if_pos c] at hkk⊢
            have h2:gI r i%p=1:=by rw[show gI r i=1+p*kk by omega,Int.add_mul_emod_self_left,Int.emod_eq_of_lt (by omega) (by omega)]
            rw[Int.emod_eq_of_lt hg.1 hg.2] at h2;exact h2
          · rw[if_neg c] at hkk⊢
            have h2:gI r i%p=0:=by rw[show gI r i=0+p*kk by omega,Int.add_mul_emod_self_left,Int.zero_emod]
            rw[Int.emod_eq_of_lt hg.1 hg.2] at h2;exact h2
        walk_at "dt"
        refine⟨bs++[true],?_,by rw[List.all_append,hbs];rfl⟩
        rw[List.map_append,hk]
        by_cases c:i=pl
        · subst c;simp
        · have:¬((i:Int)=(pl:Int)):=by omega
          simp[c,this]
    · rintro ds hl' ⟨bs,rfl,hbs⟩
      refine⟨bs,rfl,?_⟩
      rw[hbs]
      walk_at "dt"
      refine aC.ev (aC.ia (by decide) rfl ?_)
      walk_at "dt"
      refine⟨true,fun i ds=>∃ns:List Int,ds=ns.map .int/\ns.sum=ao (aT wd) (r.take i),⟨[],rfl,rfl⟩,?_,?_⟩
      · rintro i d ds ⟨hi,rfl⟩ hl' ⟨ns,rfl,hns⟩
        obtain⟨o,ho,hat⟩:=jj (xs:=wd) (k:=0+(i:Int)) bw (by omega) (show 0+(i:Int)<wd.length by omega) rfl
        rw[show(0+(i:Int)).toNat=i by omega] at ho
        have jo:aU (r.map PyData.int) (0+(i:Int))=some (.int (gI r i)):=cW (by omega) (by rw[List.getElem?_map,show(0+(i:Int)).toNat=i by omega,hr.at hi];rfl)
        have hs:ao (aT wd) (r.take (i+1))=ao (aT wd) (r.take i)+aT wd i*gI r i:=by
          rw[take_snoc (hr.at hi),EN,List.length_take,Nat.min_eq_left (by omega)]
        obtain⟨r0,r1⟩:=hr.g (i:=i) (by omega)
        walk_at "dt"
        refine⟨by walk_at "wk",?_⟩
        walk_at "dt"
        rw[iz]
        cases o with
        | none =>
          walk_at "dt"
          refine⟨ns,rfl,?_⟩
          rw[hs,hns]
          unfold aT
          rw[ho]
          simp
        | some x =>
          have vg:aU (wd.map bw) (0+(i:Int))=some (.int x):=hat
          obtain⟨x0,x1⟩:=cB x (List.mem_of_getElem? ho)
          have s1:Sm x:=by unfold Sm;omega
          have s2:Sm (gI r i):=by unfold Sm;omega
          walk_at "dt"
          refine⟨ns++[gI r i*x],by rw[List.map_append];rfl,?_⟩
          rw[hs,List.sum_append,hns]
          unfold aT
          rw[ho]
          simp[Int.mul_comm]
      · rintro ds hl' ⟨ns,rfl,hns⟩
        rw[<-hrl,List.take_length] at hns
        refine⟨ns,rfl,?_⟩
        walk_at "dt"
        rw[hns]
        have:(v+ao (aT wd) r)%p=0:=Int.emod_eq_zero_of_dvd h1
        rw[this]
        exact q
  · have hvl:=hW.len
    walk_at "dt"
    refine⟨_,i9 _ _,_,rfl,?_⟩
    rw[if_neg (by decide)]
    walk_at "dt"
    refine Ev.bI o6 ?_
    walk_at "dt"
    refine⟨rfl,p,n,u,rfl,by omega,by omega,hW.rg,cM,?_⟩
    walk_at "dt"
    refine Ev.bI By ?_
    walk_at "dt"
    refine⟨rfl,p,n,cs,u,rfl,hN,hvl,hW.rg,hW.kJ,?_⟩
    walk_at "dt"
    have hk1:gI u pl=1:=hW.known pl 1 (by rw[jV jg,if_pos rfl])
    have wo:aU (u.map PyData.int) (pl:Int)=some (.int (gI u pl)):=cW (by omega) (by rw[List.getElem?_map,Int.toNat_natCast,(bB.at (p:=p) (w:=n.toNat) ⟨hvl,hW.rg⟩ (by omega))];rfl)
    refine⟨_,wo,?_⟩
    walk_at "dt"
    refine aC.ev (aC.ia (by decide) rfl ?_)
    walk_at "dt"
    refine⟨true,fun i ds=>∃bs:List Bool,ds=bs.map .bool/\bs.all id=true,⟨[],rfl,rfl⟩,?_,?_⟩
    · rintro i d ds ⟨hi,rfl⟩ hl' ⟨bs,rfl,hbs⟩
      obtain⟨o,ho,hat⟩:=jj (xs:=wd) (k:=0+(i:Int)) bw (by omega) (show 0+(i:Int)<wd.length by omega) rfl
      rw[show(0+(i:Int)).toNat=i by omega] at ho
      have jo:aU (u.map PyData.int) (0+(i:Int))=some (.int (gI u i)):=cW (by omega) (by rw[List.getElem?_map,show(0+(i:Int)).toNat=i by omega,(bB.at (p:=p) (w:=n.toNat) ⟨hvl,hW.rg⟩ hi)];rfl)
      walk_at "dt"
      refine⟨by walk_at "wk",?_⟩
      walk_at "dt"
      rw[iz]
      cases o with
      | none =>
        walk_at "dt"
        exact⟨bs,rfl,hbs⟩
      | some x =>
        have Il:i≠pl:=fun z=>by subst z;rw[hpl] at ho;cases ho
        have hk:gI u i=0:=hW.known i 0 (by rw[jV (by omega),if_neg Il,if_neg (by rw[ho];intro z;cases z)])
        walk_at "dt"
        exact⟨bs++[true],by rw[List.map_append,decide_eq_true hk];rfl,by rw[List.all_append,hbs];rfl⟩
    · rintro ds hl' ⟨bs,rfl,hbs⟩
      refine⟨bs,rfl,?_⟩
      rw[hbs]
      exact q
def LO(p n:Int)(cs:List aH)(wd:Wo)(d:PyData):Prop:=(∃v,dW p n cs wd v/\d= .tuple [.str "word",aX v])\/∃aD,rQ p n cs wd aD/\d= .tuple [.str "none",aX aD]
def rG:DF:=fun ds Φ=>∃(p n:Int) (cs:List aH) (wd:Wo) (d:PyData),ds=[bz p n cs,cX wd,d]/\dw p n cs/\wd.length=n.toNat/\(∀x,some x∈wd->0<=x/\x<p)/\LO p n cs wd d/\Φ true (.bool true)
theorem EF:cF rG:=by
 intro ds Φ Ψ hm z
 obtain⟨p,n,cs,wd,d,e,h1,h2,h3,h4,q⟩:=hm
 exact⟨p,n,cs,wd,d,e,h1,h2,h3,h4,z _ _ q⟩
theorem pO(a b:Str):fB (.str a) (.str b) (decide (a=b)):=fB.sd a b
theorem FE:∀(f:Nat->Int) (xs:List Int) (x:Int),ao f (xs++[x])=ao f xs+f xs.length*x
  |f,[],x=>by simp[ao]
  | f, y :: ys, x => by
    show f 0*y+ao _ (ys++[x])=(f 0*y+ao _ ys)+f (ys.length+1)*x
    rw[FE (fun i=>f (i+1)) ys x]
    omega
theorem oh:bL ["net","word","found","p","n","checks","row"] ["net","word","found"] (az jC):=⟨rfl,rfl,rfl,by decide+kernel,rfl,by decide+kernel,by decide+kernel⟩
theorem U4(F:bD K "_law_fills" "_law_fills" jC f fd)(wU:Callee P w K mg base "_law_combined" 1 ["net","factors"] (aZ 2 pD))(lO:Callee P w K mg base "_law_letter_list" 2 ["found","p","many"] (aZ 3 oG))(wX:Callee P w K mg base "_law_true" 2 ["net","word"] (aZ 2 nO))(gb:mg "all"=none)(gG:mg "isinstance"=none)(mZ:mg "tuple"=none)(bT:mg "len"=none)(jk:mg "sum"=none)(bJ:mg "range"=none):
    bx P w K mg base bA 3 f fd ["net","word","found"] (aZ 3 rG):=by
  refine F.ok oh (fun vs H Q E h=>h.1) (fun cdv A outer s H vs Q E hr h=>?_)
  obtain⟨_,nb,ds,hlive,hds,hF⟩:=h
  obtain⟨Φ,aG,hF⟩:∃Φ:Pd,(∀f d v H',Φ f d->bf H H'->af (fun a=>nb a\/(f=true/\H a≠none)) H' d v->Q v H')/\rG ds Φ:=⟨_,fun f d v H' q=>q v H',hF⟩
  obtain⟨p,n,cs,wd,d,rfl,hN,hwl,cB,hD,q⟩:=hF
  refine⟨_,(@aq _ _ _ _ _ (@dX _ _ _ _ _ _ (pv 0) (@gh _ (K) _ _ _ (3) _ rfl rfl (@bO _ _ _ _ _ (aO (i:=3) oh.nd rfl (Or.inl rfl)) (@bO _ _ _ _ _ (aO (i:=4) oh.nd rfl (Or.inl rfl)) (@bO _ _ _ _ _ (aO (i:=5) oh.nd rfl (Or.inl rfl)) fQ (by rfl)) (by rfl)) (by rfl)) (by rfl) (by rfl)) (by rfl) (by rfl) (by rfl)) (@aq _ _ _ _ _ (@bS _ _ _ _ _ _ _ _ (PW.pt (iU (@fy _ _ _ _ (@dP _ (K) _ _ rfl (@cy _ _ _ _ _ _ _ _ (jl K) nD rfl gG PyProof.Rows.boot_isinstance (@aa _ _ _ _ _ (pv 2) (@aa _ _ _ _ _ (oY (v:= .ty "tuple") rfl mZ PyProof.Rows.boot_tuple rfl) ak rfl) rfl) (by decide) (by decide) (by rfl) (by rfl)) (fun _=>rfl))) (j5 (@aS _ _ _ _ _ _ _ _ fL (@cy _ _ _ _ _ _ _ _ (fk K) gx rfl bT PySem.boot_len (@aa _ _ _ _ _ (pv 2) ak rfl) (by decide) (by decide) (by rfl) (by rfl)) aj (aK _))))) (@aE _ _ _ (@aQ _ _ _ _ fh)) cg) (@aq _ _ _ _ _ (@bS _ _ _ _ _ _ _ _ (@aS _ _ _ _ _ _ _ _ bX (@ay _ _ _ _ _ _ (aY K) bu (pv 2) aj (fun _ _=>rfl)) gE (aK _)) (@aq _ _ _ _ _ (@bS _ _ _ _ _ _ _ _ (PW.pt (iU (@fy _ _ _ _ (@dP _ (K) _ _ rfl (@aI _ _ _ _ _ _ _ _ _ _ lO (hr.mono (by decide)) (@aa _ _ _ _ _ (@ay _ _ _ _ _ _ (aY K) bu (pv 2) aj (fun _ _=>rfl)) (@aa _ _ _ _ _ (pv 3) (@aa _ _ _ _ _ (pv 4) ak rfl) rfl) rfl) (by rfl) (by decide) (by rfl) (by rfl)) (fun _=>rfl))) (j5 (@fy _ _ _ _ (@dP _ (K) _ _ rfl (@aI _ _ _ _ _ _ _ _ _ _ wX (hr.mono (by decide)) (@aa _ _ _ _ _ (pv 0) (@aa _ _ _ _ _ (@ay _ _ _ _ _ _ (aY K) bu (pv 2) aj (fun _ _=>rfl)) ak rfl) rfl) (by rfl) (by decide) (by rfl) (by rfl)) (fun _=>rfl)))))) (@aE _ _ _ (@aQ _ _ _ _ fh)) cg) (@aE _ _ _ (@aQ _ _ _ _ (@cy _ _ _ _ _ _ _ _ (jQ K) (lY rfl) rfl gb PyProof.Rows.boot_all (@aa _ _ _ _ _ (dJ (cz.of (show cK (az jC) ["net","word","found","p","n","checks","row"] _ ["k","word","found"] [none,some 1,some 2]=true by decide+kernel)) (@fM _ _ _ _ _ _ rfl bJ (@aa _ _ _ _ _ (pv 4) ak rfl) (by rfl)) (fun _ _ _ _=>⟨(aO (i:=0) (by show List.Nodup (["k","word","found"]:List Str);decide+kernel) rfl (Or.inl rfl)),(gJ (@aS _ _ _ _ _ _ _ _ jb (@ay _ _ _ _ _ _ (bh K) aR (pv 1) (pv 0) (fun _ _=>rfl)) dS (aK _))),(@eG _ _ _ _ _ _ _ _ bX (@ay _ _ _ _ _ _ (bh K) aR (@ay _ _ _ _ _ _ (aY K) bu (pv 2) aj (fun _ _=>rfl)) (pv 0) (fun _ _=>rfl)) (@ay _ _ _ _ _ _ (bh K) aR (pv 1) (pv 0) (fun _ _=>rfl)) (aK _))⟩)) ak rfl) (by decide) (by decide) (by rfl) (by rfl))))) cg) (@aq _ _ _ _ _ (@bS _ _ _ _ _ _ _ _ (PW.pt (iU (@aS _ _ _ _ _ _ _ _ fL (@ay _ _ _ _ _ _ (aY K) bu (pv 2) aj (fun _ _=>rfl)) gE (aK _)) (j5 (@fy _ _ _ _ (@dP _ (K) _ _ rfl (@aI _ _ _ _ _ _ _ _ _ _ lO (hr.mono (by decide)) (@aa _ _ _ _ _ (@ay _ _ _ _ _ _ (aY K) bu (pv 2) aj (fun _ _=>rfl)) (@aa _ _ _ _ _ (pv 3) (@aa _ _ _ _ _ (@cy _ _ _ _ _ _ _ _ (fk K) gx rfl bT PySem.boot_len (@aa _ _ _ _ _ (pv 5) ak rfl) (by decide) (by decide) (by rfl) (by rfl)) ak rfl) rfl) rfl) (by rfl) (by decide) (by rfl) (by rfl)) (fun _=>rfl)))))) (@aE _ _ _ (@aQ _ _ _ _ fh)) cg) (@aq _ _ _ _ _ (@aM _ _ (6) _ _ _ _ oh.nd rfl (Or.inr rfl) (@aI _ _ _ _ _ _ _ _ _ _ wU (hr.mono (by decide)) (@aa _ _ _ _ _ (pv 0) (@aa _ _ _ _ _ (@ay _ _ _ _ _ _ (aY K) bu (pv 2) aj (fun _ _=>rfl)) ak rfl) rfl) (by rfl) (by decide) (by rfl) (by rfl)) (by rfl) (by first|exact .inl rfl|exact .inr rfl|assumption)) (@aq _ _ _ _ _ (@bS _ _ _ _ _ _ _ _ (@fy _ _ _ _ (@dP _ (K) _ _ rfl (@cy _ _ _ _ _ _ _ _ (jQ K) (lY rfl) rfl gb PyProof.Rows.boot_all (@aa _ _ _ _ _ (dJ (cz.of (show cK (az jC) ["net","word","found","p","n","checks","row"] _ ["k","word","row"] [none,some 1,some 6]=true by decide+kernel)) (@fM _ _ _ _ _ _ rfl bJ (@aa _ _ _ _ _ (pv 4) ak rfl) (by rfl)) (fun _ _ _ _=>⟨(aO (i:=0) (by show List.Nodup (["k","word","row"]:List Str);decide+kernel) rfl (Or.inl rfl)),(gJ (@aS _ _ _ _ _ _ _ _ mO (@ay _ _ _ _ _ _ (bh K) aR (pv 1) (pv 0) (fun _ _=>rfl)) dS (aK _))),(@eG _ _ _ _ _ _ _ _ bX (@ay _ _ _ _ _ _ (bh K) aR (pv 2) (pv 0) (fun _ _=>rfl)) aj (aK _))⟩)) ak rfl) (by decide) (by decide) (by rfl) (by rfl)) (fun _=>rfl))) (@aE _ _ _ (@aQ _ _ _ _ fh)) cg) (@aE _ _ _ (@aQ _ _ _ _ (@eG _ _ _ _ _ _ _ _ bX (@aA _ _ _ _ _ _ _ _ dj (@cy _ _ _ _ _ _ _ _ (nI K) (zL rfl) rfl jk PyProof.Rows.boot_sum (@aa _ _ _ _ _ (dJ (cz.of (show cK (az jC) ["net","word","found","p","n","checks","row"] _ ["k","word","row"] [none,some 1,some 6]=true by decide+kernel)) (@fM _ _ _ _ _ _ rfl bJ (@aa _ _ _ _ _ (pv 4) ak rfl) (by rfl)) (fun _ _ _ _=>⟨(aO (i:=0) (by show List.Nodup (["k","word","row"]:List Str);decide+kernel) rfl (Or.inl rfl)),(gJ (@aS _ _ _ _ _ _ _ _ jb (@ay _ _ _ _ _ _ (bh K) aR (pv 1) (pv 0) (fun _ _=>rfl)) dS (aK _))),(@aA _ _ _ _ _ _ _ _ ez (@ay _ _ _ _ _ _ (bh K) aR (pv 2) (pv 0) (fun _ _=>rfl)) (@ay _ _ _ _ _ _ (bh K) aR (pv 1) (pv 0) (fun _ _=>rfl)))⟩)) ak rfl) (by decide) (by decide) (by rfl) (by rfl)) (pv 3)) aj (aK _)))))))))),?_⟩
  refine Sv.dY hlive hds aG (ρ:=[.d false _, .d false _, .d false _, .no, .no, .no, .no]) rfl ?_
  clear aG hds
  have p2:=hN.hp.1
  have cM:=hN.cM
  have hcl:=hN.cl
  have n0:=hN.n0
  have n1:=hN.n1
  have ku:(wd.map bw).length=wd.length:=List.length_map ..
  rcases hD with ⟨v,hW,rfl⟩|⟨aD,hFN,rfl⟩
  · have hvl:=hW.len
    walk_at "dt"
    refine⟨_,pO _ _,_,rfl,?_⟩
    rw[if_pos (by decide)]
    walk_at "dt"
    refine Ev.bI o6 ?_
    walk_at "dt"
    refine⟨rfl,p,n,v,rfl,by omega,by omega,hW.rg,cM,?_⟩
    walk_at "dt"
    refine Ev.bI By ?_
    walk_at "dt"
    refine⟨rfl,p,n,cs,v,rfl,hN,hvl,hW.rg,hW.kJ,?_⟩
    walk_at "dt"
    refine aC.ev (aC.ia (by decide) rfl ?_)
    walk_at "dt"
    refine⟨true,fun i ds=>∃bs:List Bool,ds=bs.map .bool/\bs.all id=true,⟨[],rfl,rfl⟩,?_,?_⟩
    · rintro i d ds ⟨hi,rfl⟩ hl' ⟨bs,rfl,hbs⟩
      obtain⟨o,ho,hat⟩:=jj (xs:=wd) (k:=0+(i:Int)) bw (by omega) (show 0+(i:Int)<wd.length by omega) rfl
      rw[show(0+(i:Int)).toNat=i by omega] at ho
      have jo:aU (v.map PyData.int) (0+(i:Int))=some (.int (gI v i)):=cW (by omega) (by rw[List.getElem?_map,show(0+(i:Int)).toNat=i by omega,(bB.at (p:=p) (w:=n.toNat) ⟨hvl,hW.rg⟩ hi)];rfl)
      walk_at "dt"
      refine⟨by walk_at "wk",?_⟩
      walk_at "dt"
      rw[iz]
      cases o with
      | none =>
        walk_at "dt"
        exact⟨bs,rfl,hbs⟩
      | some x =>
        have hk:=hW.known i x ho
        have vg:aU (wd.map bw) (0+(i:Int))=some (.int x):=hat
        walk_at "dt"
        exact⟨bs++[true],by rw[List.map_append,decide_eq_true hk];rfl,by rw[List.all_append,hbs];rfl⟩
    · rintro ds hl' ⟨bs,rfl,hbs⟩
      refine⟨bs,rfl,?_⟩
      rw[hbs]
      exact q
  · have hfl:=hFN.len
    walk_at "dt"
    refine⟨_,pO _ _,_,rfl,?_⟩
    rw[if_neg (by decide)]
    walk_at "dt"
    refine⟨_,pO _ _,_,rfl,?_⟩
    rw[if_neg (by decide)]
    walk_at "dt"
    refine Ev.bI o6 ?_
    walk_at "dt"
    refine⟨rfl,p,(cs.map bH).length,aD,rfl,by rw[List.length_map];omega,by omega,hFN.rg,cM,?_⟩
    walk_at "dt"
    refine Ev.bI Be ?_
    walk_at "dt"
    refine⟨rfl,p,n,cs,aD,rfl,hN,hfl,hFN.rg,fun r hr hsum f=>?_⟩
    obtain⟨hz,h1⟩:=hFN.oF r hr.len hsum
    have hrl:=hr.len
    walk_at "dt"
    refine aC.ev (aC.ia (by decide) rfl ?_)
    walk_at "dt"
    refine⟨true,fun i ds=>∃bs:List Bool,ds=bs.map .bool/\bs.all id=true,⟨[],rfl,rfl⟩,?_,?_⟩
    · rintro i d ds ⟨hi,rfl⟩ hl' ⟨bs,rfl,hbs⟩
      obtain⟨o,ho,hat⟩:=jj (xs:=wd) (k:=0+(i:Int)) bw (by omega) (show 0+(i:Int)<wd.length by omega) rfl
      rw[show(0+(i:Int)).toNat=i by omega] at ho
      have jo:aU (r.map PyData.int) (0+(i:Int))=some (.int (gI r i)):=cW (by omega) (by rw[List.getElem?_map,show(0+(i:Int)).toNat=i by omega,hr.at hi];rfl)
      walk_at "dt"
      refine⟨by walk_at "wk",?_⟩
      walk_at "dt"
      rw[iz]
      cases o with
      | some x =>
        walk_at "dt"
        exact⟨bs,rfl,hbs⟩
      | none =>
        have hk:gI r i=0:=by
          obtain⟨kk,hkk⟩:=hz i ho
          have:=hr.g (i:=i) (by omega)
          rw[<-Int.emod_eq_of_lt this.1 this.2];exact Int.emod_eq_zero_of_dvd ⟨kk,hkk⟩
        walk_at "dt"
        exact⟨bs++[true],by rw[List.map_append,decide_eq_true hk];rfl,by rw[List.all_append,hbs];rfl⟩
    · rintro ds hl' ⟨bs,rfl,hbs⟩
      refine⟨bs,rfl,?_⟩
      rw[hbs]
      walk_at "dt"
      refine aC.ev (aC.ia (by decide) rfl ?_)
      walk_at "dt"
      refine⟨true,fun i ds=>∃ns:List Int,ds=ns.map .int/\ns.sum=ao (aT wd) (r.take i),⟨[],rfl,rfl⟩,?_,?_⟩
      · rintro i d ds ⟨hi,rfl⟩ hl' ⟨ns,rfl,hns⟩
        obtain⟨o,ho,hat⟩:=jj (xs:=wd) (k:=0+(i:Int)) bw (by omega) (show 0+(i:Int)<wd.length by omega) rfl
        rw[show(0+(i:Int)).toNat=i by omega] at ho
        have jo:aU (r.map PyData.int) (0+(i:Int))=some (.int (gI r i)):=cW (by omega) (by rw[List.getElem?_map,show(0+(i:Int)).toNat=i by omega,hr.at hi];rfl)
        have hs:ao (aT wd) (r.take (i+1))=ao (aT wd) (r.take i)+aT wd i*gI r i:=by
          rw[take_snoc (hr.at hi),FE,List.length_take,Nat.min_eq_left (by omega)]
        obtain⟨r0,r1⟩:=hr.g (i:=i) (by omega)
        walk_at "dt"
        refine⟨by walk_at "wk",?_⟩
        walk_at "dt"
        rw[iz]
        cases o with
        | none =>
          walk_at "dt"
          refine⟨ns,rfl,?_⟩
          rw[hs,hns]
          unfold aT
          rw[ho]
          simp
        | some x =>
          have vg:aU (wd.map bw) (0+(i:Int))=some (.int x):=hat
          obtain⟨x0,x1⟩:=cB x (List.mem_of_getElem? ho)
          have s1:Sm x:=by unfold Sm;omega
          have s2:Sm (gI r i):=by unfold Sm;omega
          walk_at "dt"
          refine⟨ns++[gI r i*x],by rw[List.map_append];rfl,?_⟩
          rw[hs,List.sum_append,hns]
          unfold aT
          rw[ho]
          simp[Int.mul_comm]
      · rintro ds hl' ⟨ns,rfl,hns⟩
        rw[<-hrl,List.take_length] at hns
        refine⟨ns,rfl,?_⟩
        walk_at "dt"
        rw[hns]
        have:ao (aT wd) r%p=1:=by
          obtain⟨kk,hkk⟩:=h1
          rw[show ao (aT wd) r=1+p*kk by omega,Int.add_mul_emod_self_left,Int.emod_eq_of_lt (by omega) (by omega)]
        rw[this]
        exact q
def oN:DF:=fun ds Φ=>∃(p n:Int) (cs:List aH) (wd:Wo),ds=[bz p n cs,cX wd]/\dw p n cs/\wd.length=n.toNat/\(∀x,some x∈wd->0<=x/\x<p)/\∀b:Bool,(b=true↔je p n cs wd)->Φ true (.bool b)
theorem pV:cF oN:=by
 intro ds Φ Ψ hm z
 obtain⟨p,n,cs,wd,e,h1,h2,h3,q⟩:=hm
 exact⟨p,n,cs,wd,e,h1,h2,h3,fun b h=>z _ _ (q b h)⟩
theorem Bd:bL ["net","word","found"] ["net","word"] (az lN):=⟨rfl,rfl,rfl,by decide+kernel,rfl,by decide+kernel,by decide+kernel⟩
theorem RX(F:bD K "_law_can" "_law_can" lN f fd)(G1:Callee P w K mg base "filled" 5 ["net","word"] (aZ 2 sJ))(kQ:Callee P w K mg base "_law_copy" 1 ["net"] kO)(Nr:Callee P w K mg base "_law_fills" 3 ["net","word","found"] (aZ 3 rG))(fc:mg "list"=none):
  bx P w K mg base bA 6 f fd ["net","word"] (aZ 2 oN):=by
 refine F.ok Bd (fun vs H Q E h=>h.1) (fun cdv A outer s H vs Q E hr h=>?_)
 obtain⟨_,nb,ds,hlive,hds,hF⟩:=h
 obtain⟨Φ,aG,hF⟩:∃Φ:Pd,(∀f d v H',Φ f d->bf H H'->af (fun a=>nb a\/(f=true/\H a≠none)) H' d v->Q v H')/\oN ds Φ:=⟨_,fun f d v H' q=>q v H',hF⟩
 obtain⟨p,n,cs,wd,rfl,hN,hwl,cB,q⟩:=hF
 refine⟨_,(@aq _ _ _ _ _ (@aM _ _ (2) _ _ _ _ Bd.nd rfl (Or.inl rfl) (@aI _ _ _ _ _ _ _ _ _ _ G1 (hr.mono (by decide)) (@aa _ _ _ _ _ (@aI _ _ _ _ _ _ _ _ _ _ kQ (hr.mono (by decide)) (@aa _ _ _ _ _ (pv 0) ak rfl) (by rfl) (by decide) (by rfl) (by rfl)) (@aa _ _ _ _ _ (@lC _ _ _ _ _ _ _ _ (lB K) sL rfl fc PyProof.Rows.boot_list (@aa _ _ _ _ _ (pv 1) ak rfl) (by decide) (by decide) (by rfl) (by rfl)) ak rfl) rfl) (by rfl) (by decide) (by rfl) (by rfl)) (by rfl) (by first|exact .inl rfl|exact .inr rfl|assumption)) (@aE _ _ _ (@aQ _ _ _ _ (@i6 _ _ _ _ _ _ _ _ (@dP _ (K) _ _ rfl (@aI _ _ _ _ _ _ _ _ _ _ Nr (hr.mono (by decide)) (@aa _ _ _ _ _ (pv 0) (@aa _ _ _ _ _ (pv 1) (@aa _ _ _ _ _ (pv 2) ak rfl) rfl) rfl) (by rfl) (by decide) (by rfl) (by rfl)) (fun _=>rfl)) (@eG _ _ _ _ _ _ _ _ bX (@ay _ _ _ _ _ _ (aY K) bu (pv 2) aj (fun _ _=>rfl)) gE (aK _)) dS)))),?_⟩
 refine Sv.dY hlive hds aG (ρ:=[.d false _, .d false _, .no]) rfl ?_
 clear aG hds
 have hcl:=hN.cl
 walk_at "dt"
 refine Ev.bI S7 ?_
 walk_at "dt"
 refine Ev.xw ?_
 walk_at "dt"
 refine⟨p,n,cs,rfl,by omega,?_⟩
 walk_at "dt"
 refine⟨rfl,p,n,cs,wd,rfl,hN,hwl,cB,fun v hv=>?_,fun aD hf=>?_⟩
 ·walk_at "dt"
  refine Ev.bI EF ?_
  walk_at "dt"
  refine⟨rfl,p,n,cs,wd,_,rfl,hN,hwl,cB, .inl ⟨v,hv,rfl⟩,?_⟩
  walk_at "dt"
  refine⟨_,pO _ _,?_⟩
  exact q _ ⟨fun _=>⟨v,hv⟩,fun _=>by decide⟩
 ·walk_at "dt"
  refine Ev.bI EF ?_
  walk_at "dt"
  refine⟨rfl,p,n,cs,wd,_,rfl,hN,hwl,cB, .inr ⟨aD,hf,rfl⟩,?_⟩
  walk_at "dt"
  refine⟨_,pO _ _,?_⟩
  exact q _ ⟨fun z=>absurd z (by decide),fun⟨w,hw⟩=>(PN hN hwl hf hw).elim⟩
def sC:DF:=fun ds Φ=>∃(wd:Wo) (pl:Nat) (x:Int),ds=[cX wd, .int (pl:Int), .int x]/\pl<wd.length/\wd.length<=400/\∀f,Φ f (cX (wd.set pl (some x)))
theorem xu:cF sC:=by
 intro ds Φ Ψ hm z
 obtain⟨wd,pl,x,e,h1,h2,q⟩:=hm
 exact⟨wd,pl,x,e,h1,h2,fun f=>z _ _ (q f)⟩
theorem M7:bL ["word","place","letter"] ["word","place","letter"] (az mJ):=⟨rfl,rfl,rfl,by decide+kernel,rfl,by decide+kernel,by decide+kernel⟩
theorem Ro(F:bD K "_law_put" "_law_put" mJ f fd):
  bx P w K mg base bA 1 f fd ["word","place","letter"] (aZ 3 sC):=by
 refine F.ok M7 (fun vs H Q E h=>h.1) (fun cdv A outer s H vs Q E hr h=>?_)
 obtain⟨_,nb,ds,hlive,hds,hF⟩:=h
 obtain⟨Φ,aG,hF⟩:∃Φ:Pd,(∀f d v H',Φ f d->bf H H'->af (fun a=>nb a\/(f=true/\H a≠none)) H' d v->Q v H')/\sC ds Φ:=⟨_,fun f d v H' q=>q v H',hF⟩
 obtain⟨wd,pl,x,rfl,hpl,hl,q⟩:=hF
 refine⟨_,(@aE _ _ _ (@aQ _ _ _ _ (@aA _ _ _ _ _ _ _ _ mQ (@aA _ _ _ _ _ _ _ _ mQ (@iM _ _ _ _ _ _ _ _ _ (g7 K) i7 (pv 0) ja (@iH _ _ _ (pv 1))) (@dR _ _ _ _ (@aa _ _ _ _ _ (pv 2) ak rfl))) (@iM _ _ _ _ _ _ _ _ _ (g7 K) i7 (pv 0) (@iH _ _ _ (@aA _ _ _ _ _ _ _ _ cJ (pv 1) aj)) ja)))),?_⟩
 refine Sv.dY hlive hds aG (ρ:=[.d false _, .d false _, .d false _]) rfl ?_
 clear aG hds
 have ku:(wd.map bw).length=wd.length:=List.length_map ..
 have hc1:=Fg (xs:=wd.map bw) (lo:=none) (hi:=some (pl:Int))
 have hc2:=Fg (xs:=wd.map bw) (lo:=some ((pl:Int)+1)) (hi:=none)
 have lU:=Sq (xs:=wd.map bw) (y:=PyData.int x) (k:=(pl:Int)) (by omega) (by rw[ku];omega)
 rw[Int.toNat_natCast,show PyData.int x=bw (some x) from rfl,<-List.map_set] at lU
 walk_at "dt"
 refine⟨by show _+1<=10000;omega,_,rfl,?_⟩
 walk_at "dt"
 refine⟨by rw[List.length_append];show _+1+_<=10000;omega,?_⟩
 show Φ _ (PyData.list (_++[bw (some x)]++_))
 rw[lU]
 exact q _
def p9:DF:=fun ds Φ=>∃(p n:Int) (cs:List aH) (wd:Wo) (pl:Nat) (b:Bool),ds=[bz p n cs,cX wd, .int (pl:Int), .bool b]/\dw p n cs/\wd.length=n.toNat/\(∀x,some x∈wd->0<=x/\x<p)/\wd[pl]?=some none/\(b=true↔je p n cs wd)/\Φ true (.bool true)
theorem Pb:cF p9:=by
 intro ds Φ Ψ hm z
 obtain⟨p,n,cs,wd,pl,b,e,h1,h2,h3,h4,h5,q⟩:=hm
 exact⟨p,n,cs,wd,pl,b,e,h1,h2,h3,h4,h5,z _ _ q⟩
theorem L6{be b:Bool}{S T q:Prop}[Decidable q](hb:b=true↔S)(cS:be=true↔T)(hs:T↔S/\q):be=(b && decide q):=by
  rw[hs,<-hb] at cS
  cases be with
  | true =>
    have h:=cS.mp rfl
    rw[h.1,decide_eq_true h.2]
    rfl
  | false =>
    cases b with
    |false=>rfl
    | true =>
      have h:¬q:=fun z=>by have:=cS.mpr ⟨rfl,z⟩;cases this
      rw[decide_eq_false h]
      rfl
theorem UJ{be b:Bool}{S T:Prop}(hb:b=true↔S)(cS:be=true↔T)(hs:T↔S):be=b:=by
 rw[hs,<-hb] at cS
 cases be<;>cases b<;>simp_all
theorem jm:bL ["bag","net","word","place","can","p","ahead","letter","early","found","one","due"] ["bag","net","word","place","can"] (az lW):=⟨rfl,rfl,rfl,by decide+kernel,rfl,by decide+kernel,by decide+kernel⟩
theorem IM(F:bD K "_law_place_right" "_law_place_right" lW f fd)(bY:Callee P w K mg base "_law_draw" 2 ["bag","many"] g6)(uP:Callee P w K mg base "settled" 5 ["net","word","place"] (aZ 3 oW))(pR:Callee P w K mg base "_law_can" 6 ["net","word"] (aZ 2 oN))(kQ:Callee P w K mg base "_law_copy" 1 ["net"] kO)(NI:Callee P w K mg base "_law_settles" 3 ["net","word","place","found"] (aZ 4 sD))(EA:Callee P w K mg base "_law_put" 1 ["word","place","letter"] (aZ 3 sC))(fc:mg "list"=none):
    bx P w K mg base bA 7 f fd ["bag","net","word","place","can"] (er 5 p9):=by
  refine F.ok jm (fun vs H Q E h=>h.1) (fun cdv A outer s H vs Q E hr h=>?_)
  obtain⟨_,b,l,ws,nb,ds,rfl,hB,hlive,hnb,hds,hF⟩:=h
  obtain⟨Φ,aG,hF⟩:∃Φ:Pd,(∀f d v H',Φ f d->aW (Nb b) H H'->bR H' b l->af (fun a=>nb a\/(f=true/\H a≠none)) H' d v->Q v H')/\p9 ds Φ:=⟨_,fun f d v H' q=>q v H',hF⟩
  obtain⟨p,n,cs,wd,pl,b,rfl,hN,hwl,cB,hpl,hb,q⟩:=hF
  refine⟨_,(@aq _ _ _ _ _ (@aM _ _ (5) _ _ _ _ jm.nd rfl (Or.inl rfl) (@ay _ _ _ _ _ _ (aY K) bu (pv 1) aj (fun _ _=>rfl)) (by rfl) (by first|exact .inl rfl|exact .inr rfl|assumption)) (@aq _ _ _ _ _ (@aM _ _ (6) _ _ _ _ jm.nd rfl (Or.inl rfl) (@aI _ _ _ _ _ _ _ _ _ _ bY (hr.mono (by decide)) (@aa _ _ _ _ _ (pv 0) (@aa _ _ _ _ _ aj ak rfl) rfl) (by rfl) (by decide) (by rfl) (by rfl)) (by rfl) (by first|exact .inl rfl|exact .inr rfl|assumption)) (@aq _ _ _ _ _ (@aM _ _ (7) _ _ _ _ jm.nd rfl (Or.inl rfl) (@aI _ _ _ _ _ _ _ _ _ _ bY (hr.mono (by decide)) (@aa _ _ _ _ _ (pv 0) (@aa _ _ _ _ _ (pv 5) ak rfl) rfl) (by rfl) (by decide) (by rfl) (by rfl)) (by rfl) (by first|exact .inl rfl|exact .inr rfl|assumption)) (@aq _ _ _ _ _ (@aM _ _ (8) _ _ _ _ jm.nd rfl (Or.inl rfl) (@i6 _ _ _ _ _ _ _ _ (@aS _ _ _ _ _ _ _ _ bX (pv 6) aj (aK _)) (@aI _ _ _ _ _ _ _ _ _ _ pR (hr.mono (by decide)) (@aa _ _ _ _ _ (pv 1) (@aa _ _ _ _ _ (@aI _ _ _ _ _ _ _ _ _ _ EA (hr.mono (by decide)) (@aa _ _ _ _ _ (pv 2) (@aa _ _ _ _ _ (pv 3) (@aa _ _ _ _ _ (pv 7) ak rfl) rfl) rfl) (by rfl) (by decide) (by rfl) (by rfl)) ak rfl) rfl) (by rfl) (by decide) (by rfl) (by rfl)) dS) (by rfl) (by first|exact .inl rfl|exact .inr rfl|assumption)) (@aq _ _ _ _ _ (@aM _ _ (9) _ _ _ _ jm.nd rfl (Or.inl rfl) (@aI _ _ _ _ _ _ _ _ _ _ uP (hr.mono (by decide)) (@aa _ _ _ _ _ (@aI _ _ _ _ _ _ _ _ _ _ kQ (hr.mono (by decide)) (@aa _ _ _ _ _ (pv 1) ak rfl) (by rfl) (by decide) (by rfl) (by rfl)) (@aa _ _ _ _ _ (@lC _ _ _ _ _ _ _ _ (lB K) sL rfl fc PyProof.Rows.boot_list (@aa _ _ _ _ _ (pv 2) ak rfl) (by decide) (by decide) (by rfl) (by rfl)) (@aa _ _ _ _ _ (pv 3) ak rfl) rfl) rfl) (by rfl) (by decide) (by rfl) (by rfl)) (by rfl) (by first|exact .inl rfl|exact .inr rfl|assumption)) (@aq _ _ _ _ _ (@bS _ _ _ _ _ _ _ _ (@fy _ _ _ _ (@dP _ (K) _ _ rfl (@aI _ _ _ _ _ _ _ _ _ _ NI (hr.mono (by decide)) (@aa _ _ _ _ _ (pv 1) (@aa _ _ _ _ _ (pv 2) (@aa _ _ _ _ _ (pv 3) (@aa _ _ _ _ _ (pv 9) ak rfl) rfl) rfl) rfl) (by rfl) (by decide) (by rfl) (by rfl)) (fun _=>rfl))) (@aE _ _ _ (@aQ _ _ _ _ fh)) cg) (@aq _ _ _ _ _ (@bS _ _ _ _ _ _ _ _ (@aS _ _ _ _ _ _ _ _ bX (pv 6) aj (aK _)) (@aE _ _ _ (@bS _ _ _ _ _ _ _ _ (@aS _ _ _ _ _ _ _ _ fL (pv 8) (@lM _ _ _ _ _ _ _ (pv 4) (@kE _ _ _ _ _ (@AU _ _ _ _ _ _ _ (@eG _ _ _ _ _ _ _ _ bX (@ay _ _ _ _ _ _ (aY K) bu (pv 9) aj (fun _ _=>rfl)) gE (aK _)) (@kE _ _ _ _ _ (@eG _ _ _ _ _ _ _ _ bX (@ay _ _ _ _ _ _ (aY K) bu (pv 9) aj (fun _ _=>rfl)) (pv 7) (aK _)))))) (aK _)) (@aE _ _ _ (@aQ _ _ _ _ fh)) cg)) cg) (@aq _ _ _ _ _ (@bS _ _ _ _ _ _ _ _ (PW.pt (iF (@aS _ _ _ _ _ _ _ _ bX (@ay _ _ _ _ _ _ (aY K) bu (pv 9) aj (fun _ _=>rfl)) gE (aK _)) (iY (@aS _ _ _ _ _ _ _ _ bX (@aI _ _ _ _ _ _ _ _ _ _ bY (hr.mono (by decide)) (@aa _ _ _ _ _ (pv 0) (@aa _ _ _ _ _ aj ak rfl) rfl) (by rfl) (by decide) (by rfl) (by rfl)) aj (aK _))))) (@aE _ _ _ (@aM _ _ (7) _ _ _ _ jm.nd rfl (Or.inl rfl) (@ay _ _ _ _ _ _ (aY K) bu (pv 9) aj (fun _ _=>rfl)) (by rfl) (by first|exact .inl rfl|exact .inr rfl|assumption))) cg) (@aq _ _ _ _ _ (@fu _ _ _ _ _ _ _ _ PassesOwn.never rfl (@eu _ _ _ _ (@dR _ _ _ _ (@aa _ _ _ _ _ (pv 7) (@aa _ _ _ _ _ (@aA _ _ _ _ _ _ _ _ dj (@aA _ _ _ _ _ _ _ _ cJ (@aA _ _ _ _ _ _ _ _ cJ (pv 7) aj) (@aI _ _ _ _ _ _ _ _ _ _ bY (hr.mono (by decide)) (@aa _ _ _ _ _ (pv 0) (@aa _ _ _ _ _ (@aA _ _ _ _ _ _ _ _ iD (pv 5) aj) ak rfl) rfl) (by rfl) (by decide) (by rfl) (by rfl))) (pv 5)) ak rfl) rfl))) (aO (i:=10) jm.nd rfl (Or.inl rfl)) (@aq _ _ _ _ _ (@aM _ _ (11) _ _ _ _ jm.nd rfl (Or.inl rfl) (@lM _ _ _ _ _ _ _ (pv 4) (@kE _ _ _ _ _ (@AU _ _ _ _ _ _ _ (@eG _ _ _ _ _ _ _ _ bX (@ay _ _ _ _ _ _ (aY K) bu (pv 9) aj (fun _ _=>rfl)) gE (aK _)) (@kE _ _ _ _ _ (@eG _ _ _ _ _ _ _ _ bX (@ay _ _ _ _ _ _ (aY K) bu (pv 9) aj (fun _ _=>rfl)) (pv 10) (aK _)))))) (by rfl) (by first|exact .inl rfl|exact .inr rfl|assumption)) (@aE _ _ _ (@bS _ _ _ _ _ _ _ _ (@aS _ _ _ _ _ _ _ _ fL (@aI _ _ _ _ _ _ _ _ _ _ pR (hr.mono (by decide)) (@aa _ _ _ _ _ (pv 1) (@aa _ _ _ _ _ (@aI _ _ _ _ _ _ _ _ _ _ EA (hr.mono (by decide)) (@aa _ _ _ _ _ (pv 2) (@aa _ _ _ _ _ (pv 3) (@aa _ _ _ _ _ (pv 10) ak rfl) rfl) rfl) (by rfl) (by decide) (by rfl) (by rfl)) ak rfl) rfl) (by rfl) (by decide) (by rfl) (by rfl)) (pv 11) (aK _)) (@aE _ _ _ (@aQ _ _ _ _ fh)) cg))) (by intro _;rfl)) (@aE _ _ _ (@aQ _ _ _ _ fh))))))))))),?_⟩
  refine Sv.j7 hB hlive hnb hds aG (ρ:=[.au, .d false _, .d false _, .d false _, .d false _, .no, .no, .no, .no, .no, .no, .no]) rfl ?_
  clear aG hds
  have hcl:=hN.cl
  have p2:=hN.hp.1
  have cM:=hN.cM
  walk_at "dt"
  intro ahead h0 h1
  walk_at "dt"
  intro letter l0 l1
  have jg:=(List.getElem?_eq_some_iff.mp hpl).1
  have hn1:=hN.n1
  have lU:∀x:Int,0<=x->x<p->∀y,some y∈wd.set pl (some x)->0<=y/\y<p:=fun x x0 x1 y hy=>by
    rcases List.mem_or_eq_of_mem_set hy with z|z
    · exact cB y z
    · cases z;exact⟨x0,x1⟩
  refine Gv.name ?_
  refine Sv.seq ?_
  refine Sv.gZ (fun ρ'=>∃(g8:Bool) (e8:PyData),(ahead=1->∃be:Bool,e8= .bool be/\(be=true↔je p n cs (wd.set pl (some letter))))/\ρ'=[.au, .d false (bz p n cs), .d false (cX wd), .d false (.int (pl:Int)), .d false (.bool b), .d true (.int p), .d true (.int ahead), .d true (.int letter), .d g8 e8, .no, .no, .no]) ?_ ?_
  · walk_at "dt"
    by_cases c:ahead=1
    · rw[if_pos (by simpa using c)]
      refine Ev.bI pV ?_
      walk_at "dt"
      refine Ev.bI xu ?_
      walk_at "dt"
      refine⟨rfl,wd,pl,letter,rfl,jg,by omega,fun f=>?_⟩
      walk_at "dt"
      refine⟨rfl,p,n,cs,wd.set pl (some letter),rfl,hN,by rw[List.length_set];exact hwl,lU letter l0 l1,fun be cS=>?_⟩
      refine Gv.name ?_
      exact⟨_,_,fun _=>⟨be,rfl,cS⟩,rfl⟩
    · rw[if_neg (by simpa using c)]
      walk_at "dt"
      exact⟨_,_,fun z=>absurd z c,rfl⟩
  rintro ρ' ⟨g8,e8,he8,rfl⟩
  walk_at "dt"
  refine Ev.bI CD ?_
  walk_at "dt"
  refine Ev.xw ?_
  walk_at "dt"
  refine⟨p,n,cs,rfl,by omega,?_⟩
  walk_at "dt"
  refine⟨rfl,p,n,cs,wd,pl,rfl,hN,hwl,cB,hpl,fun v aD hS=>?_,fun u hU=>?_⟩
  · have jy:∀x,0<=x->x<p->∀be:Bool,(be=true↔je p n cs (wd.set pl (some x)))->be=(b && decide (v=x)):=fun x _ _ be cS=>by
      exact L6 hb cS (R4 (x:=x) hN hwl hpl hS)
    refine Gv.name ?_
    walk_at "dt"
    refine Ev.bI Br ?_
    walk_at "dt"
    refine⟨rfl,p,n,cs,wd,pl,_,rfl,hN,hwl,cB,hpl, .inl ⟨v,aD,hS,rfl⟩,?_⟩
    refine⟨_,rfl,?_⟩
    rw[if_neg (by decide)]
    refine Sv.next ?_
    refine Sv.seq ?_
    refine Sv.gZ (fun ρ'=>ρ'=[.au, .d false (bz p n cs), .d false (cX wd), .d false (.int (pl:Int)), .d false (.bool b), .d true (.int p), .d true (.int ahead), .d true (.int letter), .d g8 e8, .d true (.tuple [.str "told", .int v,aX aD]), .no, .no]) ?_ ?_
    · walk_at "dt"
      by_cases c:ahead=1
      · rw[if_pos (by simpa using c)]
        obtain⟨be,rfl,cS⟩:=he8 c
        have hd:=jy letter l0 l1 be cS
        subst hd
        walk_at "dt"
        cases b with
        | false =>
          rw[if_neg (by decide)]
          refine⟨_, .bb _ _,_,rfl,?_⟩
          rw[if_neg (by simp)]
          walk_at "dt"
          rfl
        | true =>
          rw[if_pos rfl]
          walk_at "dt"
          refine⟨_,i9 _ _,_,rfl,?_⟩
          rw[if_neg (by decide)]
          walk_at "dt"
          rw[if_neg (by simp)]
          walk_at "dt"
          rfl
      · rw[if_neg (by simpa using c)]
        walk_at "dt"
        rfl
    rintro ρ' rfl
    refine Sv.seq ?_
    refine Sv.gZ (fun ρ'=>∃let2:Int,0<=let2/\let2<p/\ρ'=[.au, .d false (bz p n cs), .d false (cX wd), .d false (.int (pl:Int)), .d false (.bool b), .d true (.int p), .d true (.int ahead), .d true (.int let2), .d g8 e8, .d true (.tuple [.str "told", .int v,aX aD]), .no, .no]) ?_ ?_
    · walk_at "dt"
      refine⟨_,i9 _ _,_,rfl,?_⟩
      rw[if_pos (by decide)]
      walk_at "dt"
      intro r r0 r1
      walk_at "dt"
      by_cases c:r=1
      · rw[if_pos (by simpa using c)]
        walk_at "dt"
        exact⟨v,hS.v0,hS.v1,rfl⟩
      · rw[if_neg (by simpa using c)]
        walk_at "dt"
        exact⟨letter,l0,l1,rfl⟩
    rintro ρ' ⟨let2,y0,y1,rfl⟩
    have s1:Sm let2:=by unfold Sm;omega
    refine Sv.seq ?_
    refine Sv.forL ?_
    walk_at "dt"
    intro r r0 r1
    walk_at "dt"
    refine fun v'=>⟨fun i ρ=>∃(iB lD:Sl),ρ=[.au, .d false (bz p n cs), .d false (cX wd), .d false (.int (pl:Int)), .d false (.bool b), .d true (.int p), .d true (.int ahead), .d true (.int let2), .d g8 e8, .d true (.tuple [.str "told", .int v,aX aD]),iB,lD],⟨_,_,rfl⟩,?_,?_⟩
    · rintro i d ρ hd ⟨iB,lD,rfl⟩
      obtain⟨one,o0,o1,rfl⟩:∃one:Int,0<=one/\one<p/\d= .int one:=by
        have hm:=List.mem_of_getElem? hd
        simp only[List.map_cons,List.map_nil,List.mem_cons,List.not_mem_nil,or_false] at hm
        rcases hm with rfl|rfl
        · exact⟨_,y0,y1,rfl⟩
        · exact⟨_,Int.emod_nonneg _ (by omega),Int.emod_lt_of_pos _ (by omega),rfl⟩
      refine Gv.j9 ?_
      refine Sv.seq ?_
      refine Sv.gZ (fun ρ'=>∃g11:Bool,ρ'=[.au, .d false (bz p n cs), .d false (cX wd), .d false (.int (pl:Int)), .d false (.bool b), .d true (.int p), .d true (.int ahead), .d true (.int let2), .d g8 e8, .d true (.tuple [.str "told", .int v,aX aD]), .d true (.int one), .d g11 (.bool (b && decide (v=one)))]) ?_ ?_
      · walk_at "dt"
        cases b with
        | false =>
          rw[if_neg (by decide)]
          walk_at "dt"
          exact⟨_,rfl⟩
        | true =>
          rw[if_pos rfl]
          walk_at "dt"
          refine⟨_,i9 _ _,_,rfl,?_⟩
          rw[if_neg (by decide)]
          walk_at "dt"
          exact⟨_,rfl⟩
      rintro ρ' ⟨g11,rfl⟩
      walk_at "dt"
      refine Ev.bI pV ?_
      walk_at "dt"
      refine Ev.bI xu ?_
      walk_at "dt"
      refine⟨rfl,wd,pl,one,rfl,jg,by omega,fun f=>?_⟩
      walk_at "dt"
      refine⟨rfl,p,n,cs,wd.set pl (some one),rfl,hN,by rw[List.length_set];exact hwl,lU one o0 o1,fun be cS=>?_⟩
      have hd2:=jy one o0 o1 be cS
      subst hd2
      walk_at "dt"
      rw[if_neg (by simp)]
      walk_at "dt"
      exact⟨_,_,rfl⟩
    · rintro ρ ⟨iB,lD,rfl⟩
      walk_at "dt"
      exact q
  · have jy:∀x,0<=x->x<p->∀be:Bool,(be=true↔je p n cs (wd.set pl (some x)))->be=b:=fun x x0 x1 be cS=>by
      exact UJ hb cS (LJ (x:=x) hN hwl cB hpl x0 x1 hU)
    refine Gv.name ?_
    walk_at "dt"
    refine Ev.bI Br ?_
    walk_at "dt"
    refine⟨rfl,p,n,cs,wd,pl,_,rfl,hN,hwl,cB,hpl, .inr ⟨u,hU,rfl⟩,?_⟩
    refine⟨_,rfl,?_⟩
    rw[if_neg (by decide)]
    refine Sv.next ?_
    refine Sv.seq ?_
    refine Sv.gZ (fun ρ'=>ρ'=[.au, .d false (bz p n cs), .d false (cX wd), .d false (.int (pl:Int)), .d false (.bool b), .d true (.int p), .d true (.int ahead), .d true (.int letter), .d g8 e8, .d true (.tuple [.str "open",aX u]), .no, .no]) ?_ ?_
    · walk_at "dt"
      by_cases c:ahead=1
      · rw[if_pos (by simpa using c)]
        obtain⟨be,rfl,cS⟩:=he8 c
        have hd:=jy letter l0 l1 be cS
        rw[hd]
        walk_at "dt"
        cases b with
        | false =>
          rw[if_neg (by decide)]
          refine⟨_, .bb _ _,_,rfl,?_⟩
          rw[if_neg (by simp)]
          walk_at "dt"
          rfl
        | true =>
          rw[if_pos rfl]
          walk_at "dt"
          refine⟨_,i9 _ _,_,rfl,?_⟩
          rw[if_pos (by decide)]
          refine⟨_, .bb _ _,_,rfl,?_⟩
          rw[if_neg (by simp)]
          walk_at "dt"
          rfl
      · rw[if_neg (by simpa using c)]
        walk_at "dt"
        rfl
    rintro ρ' rfl
    refine Sv.seq ?_
    refine Sv.gZ (fun ρ'=>∃let2:Int,0<=let2/\let2<p/\ρ'=[.au, .d false (bz p n cs), .d false (cX wd), .d false (.int (pl:Int)), .d false (.bool b), .d true (.int p), .d true (.int ahead), .d true (.int let2), .d g8 e8, .d true (.tuple [.str "open",aX u]), .no, .no]) ?_ ?_
    · walk_at "dt"
      refine⟨_,i9 _ _,_,rfl,?_⟩
      rw[if_neg (by decide)]
      walk_at "dt"
      exact⟨letter,l0,l1,rfl⟩
    rintro ρ' ⟨let2,y0,y1,rfl⟩
    have s1:Sm let2:=by unfold Sm;omega
    refine Sv.seq ?_
    refine Sv.forL ?_
    walk_at "dt"
    intro r r0 r1
    walk_at "dt"
    refine fun v'=>⟨fun i ρ=>∃(iB lD:Sl),ρ=[.au, .d false (bz p n cs), .d false (cX wd), .d false (.int (pl:Int)), .d false (.bool b), .d true (.int p), .d true (.int ahead), .d true (.int let2), .d g8 e8, .d true (.tuple [.str "open",aX u]),iB,lD],⟨_,_,rfl⟩,?_,?_⟩
    · rintro i d ρ hd ⟨iB,lD,rfl⟩
      obtain⟨one,o0,o1,rfl⟩:∃one:Int,0<=one/\one<p/\d= .int one:=by
        have hm:=List.mem_of_getElem? hd
        simp only[List.map_cons,List.map_nil,List.mem_cons,List.not_mem_nil,or_false] at hm
        rcases hm with rfl|rfl
        · exact⟨_,y0,y1,rfl⟩
        · exact⟨_,Int.emod_nonneg _ (by omega),Int.emod_lt_of_pos _ (by omega),rfl⟩
      refine Gv.j9 ?_
      refine Sv.seq ?_
      refine Sv.gZ (fun ρ'=>∃g11:Bool,ρ'=[.au, .d false (bz p n cs), .d false (cX wd), .d false (.int (pl:Int)), .d false (.bool b), .d true (.int p), .d true (.int ahead), .d true (.int let2), .d g8 e8, .d true (.tuple [.str "open",aX u]), .d true (.int one), .d g11 (.bool b)]) ?_ ?_
      · walk_at "dt"
        cases b with
        | false =>
          rw[if_neg (by decide)]
          walk_at "dt"
          exact⟨_,rfl⟩
        | true =>
          rw[if_pos rfl]
          walk_at "dt"
          refine⟨_,i9 _ _,_,rfl,?_⟩
          rw[if_pos (by decide)]
          walk_at "dt"
          exact⟨_,rfl⟩
      rintro ρ' ⟨g11,rfl⟩
      walk_at "dt"
      refine Ev.bI pV ?_
      walk_at "dt"
      refine Ev.bI xu ?_
      walk_at "dt"
      refine⟨rfl,wd,pl,one,rfl,jg,by omega,fun f=>?_⟩
      walk_at "dt"
      refine⟨rfl,p,n,cs,wd.set pl (some one),rfl,hN,by rw[List.length_set];exact hwl,lU one o0 o1,fun be cS=>?_⟩
      have hd2:=jy one o0 o1 be cS
      rw[hd2]
      walk_at "dt"
      rw[if_neg (by simp)]
      walk_at "dt"
      exact⟨_,_,rfl⟩
    · rintro ρ ⟨iB,lD,rfl⟩
      walk_at "dt"
      exact q
theorem Ws{G:Gx}{ρ:Rh}{te:TE}{Φ Ψ:Pd}(h:Ev G ρ te Φ)(m:∀f d,Φ f d->Ψ f d):Ev G ρ te Ψ:=fun nb σ H Q W z=>h nb σ H Q W fun f v H' d p=>z f v H' d (m f d p)
theorem fU:bL ["script","bag","wrong","more","large","p","n","whole","net","word","place","last","can","found"] ["script"] (az iN):=⟨rfl,rfl,rfl,by decide+kernel,rfl,by decide+kernel,by decide+kernel⟩
theorem Lz(F:bD K "law" "law" iN f fd)(QU:Callee P w K mg base "_law_bag" 1 ["script"] (Bh K))(bY:Callee P w K mg base "_law_draw" 2 ["bag","many"] g6)(Wb:Callee P w K mg base "_law_prime" 3 ["bag"] (er 1 p8))(PM:Callee P w K mg base "_law_letters" 3 ["bag","p","n"] (er 3 sI))(N8:Callee P w K mg base "_law_more" 4 ["bag","net","many"] (er 3 qo))(VQ:Callee P w K mg base "_law_lossy" 3 ["bag","word"] (er 2 qI))(pR:Callee P w K mg base "_law_can" 6 ["net","word"] (aZ 2 oN))(VN:Callee P w K mg base "_law_planted" 4 ["bag","p","word","many","wide"] (er 5 qb))(uP:Callee P w K mg base "settled" 5 ["net","word","place"] (aZ 3 oW))(G5:Callee P w K mg base "_law_place_right" 7 ["bag","net","word","place","can"] (er 5 p9))(kQ:Callee P w K mg base "_law_copy" 1 ["net"] kO)(fc:mg "list"=none)(bJ:mg "range"=none):
    bx P w K mg base bA 8 f fd ["script"] (pW K):=by
  refine F.ok fU (fun vs H Q E h=>?_) (fun cdv A outer s H vs Q E hr h=>?_)
  · obtain⟨a,ns,rfl,hS,hl,q⟩:=h
    rfl
  obtain⟨a,ns,rfl,hS,hl,q⟩:=h
  refine⟨_,(@aq _ _ _ _ _ (@aM _ _ (1) _ _ _ _ fU.nd rfl (Or.inl rfl) (@aI _ _ _ _ _ _ _ _ _ _ QU (hr.mono (by decide)) (@aa _ _ _ _ _ (pv 0) ak rfl) (by rfl) (by decide) (by rfl) (by rfl)) (by rfl) (by first|exact .inl rfl|exact .inr rfl|assumption)) (@aq _ _ _ _ _ (@aM _ _ (2) _ _ _ _ fU.nd rfl (Or.inl rfl) (@eG _ _ _ _ _ _ _ _ bX (@aI _ _ _ _ _ _ _ _ _ _ bY (hr.mono (by decide)) (@aa _ _ _ _ _ (pv 1) (@aa _ _ _ _ _ aj ak rfl) rfl) (by rfl) (by decide) (by rfl) (by rfl)) aj (aK _)) (by rfl) (by first|exact .inl rfl|exact .inr rfl|assumption)) (@aq _ _ _ _ _ (@aM _ _ (3) _ _ _ _ fU.nd rfl (Or.inl rfl) (@aI _ _ _ _ _ _ _ _ _ _ bY (hr.mono (by decide)) (@aa _ _ _ _ _ (pv 1) (@aa _ _ _ _ _ aj ak rfl) rfl) (by rfl) (by decide) (by rfl) (by rfl)) (by rfl) (by first|exact .inl rfl|exact .inr rfl|assumption)) (@aq _ _ _ _ _ (@aM _ _ (4) _ _ _ _ fU.nd rfl (Or.inl rfl) (@eG _ _ _ _ _ _ _ _ bX (@aI _ _ _ _ _ _ _ _ _ _ bY (hr.mono (by decide)) (@aa _ _ _ _ _ (pv 1) (@aa _ _ _ _ _ aj ak rfl) rfl) (by rfl) (by decide) (by rfl) (by rfl)) aj (aK _)) (by rfl) (by first|exact .inl rfl|exact .inr rfl|assumption)) (@aq _ _ _ _ _ (@aM _ _ (5) _ _ _ _ fU.nd rfl (Or.inl rfl) (@aI _ _ _ _ _ _ _ _ _ _ Wb (hr.mono (by decide)) (@aa _ _ _ _ _ (pv 1) ak rfl) (by rfl) (by decide) (by rfl) (by rfl)) (by rfl) (by first|exact .inl rfl|exact .inr rfl|assumption)) (@aq _ _ _ _ _ (@aM _ _ (6) _ _ _ _ fU.nd rfl (Or.inl rfl) (@aA _ _ _ _ _ _ _ _ cJ aj (@aI _ _ _ _ _ _ _ _ _ _ bY (hr.mono (by decide)) (@aa _ _ _ _ _ (pv 1) (@aa _ _ _ _ _ (@i6 _ _ _ _ _ _ _ _ (@dP _ (K) _ _ rfl (pv 4) (fun _=>rfl)) aj aj) ak rfl) rfl) (by rfl) (by decide) (by rfl) (by rfl))) (by rfl) (by first|exact .inl rfl|exact .inr rfl|assumption)) (@aq _ _ _ _ _ (@aM _ _ (7) _ _ _ _ fU.nd rfl (Or.inl rfl) (@aI _ _ _ _ _ _ _ _ _ _ PM (hr.mono (by decide)) (@aa _ _ _ _ _ (pv 1) (@aa _ _ _ _ _ (pv 5) (@aa _ _ _ _ _ (pv 6) ak rfl) rfl) rfl) (by rfl) (by decide) (by rfl) (by rfl)) (by rfl) (by first|exact .inl rfl|exact .inr rfl|assumption)) (@aq _ _ _ _ _ (@aM _ _ (8) _ _ _ _ fU.nd rfl (Or.inl rfl) (@aI _ _ _ _ _ _ _ _ _ _ N8 (hr.mono (by decide)) (@aa _ _ _ _ _ (pv 1) (@aa _ _ _ _ _ (@aI _ _ _ _ _ _ _ _ _ _ VN (hr.mono (by decide)) (@aa _ _ _ _ _ (pv 1) (@aa _ _ _ _ _ (pv 5) (@aa _ _ _ _ _ (pv 7) (@aa _ _ _ _ _ (@aI _ _ _ _ _ _ _ _ _ _ bY (hr.mono (by decide)) (@aa _ _ _ _ _ (pv 1) (@aa _ _ _ _ _ (@i6 _ _ _ _ _ _ _ _ (@dP _ (K) _ _ rfl (pv 4) (fun _=>rfl)) aj aj) ak rfl) rfl) (by rfl) (by decide) (by rfl) (by rfl)) (@aa _ _ _ _ _ aj ak rfl) rfl) rfl) rfl) rfl) (by rfl) (by decide) (by rfl) (by rfl)) (@aa _ _ _ _ _ (pv 3) ak rfl) rfl) rfl) (by rfl) (by decide) (by rfl) (by rfl)) (by rfl) (by first|exact .inl rfl|exact .inr rfl|assumption)) (@aq _ _ _ _ _ (@aM _ _ (9) _ _ _ _ fU.nd rfl (Or.inr rfl) (@aI _ _ _ _ _ _ _ _ _ _ VQ (hr.mono (by decide)) (@aa _ _ _ _ _ (pv 1) (@aa _ _ _ _ _ (pv 7) ak rfl) rfl) (by rfl) (by decide) (by rfl) (by rfl)) (by rfl) (by first|exact .inl rfl|exact .inr rfl|assumption)) (@aq _ _ _ _ _ (@aM _ _ (10) _ _ _ _ fU.nd rfl (Or.inl rfl) (@aI _ _ _ _ _ _ _ _ _ _ bY (hr.mono (by decide)) (@aa _ _ _ _ _ (pv 1) (@aa _ _ _ _ _ (pv 6) ak rfl) rfl) (by rfl) (by decide) (by rfl) (by rfl)) (by rfl) (by first|exact .inl rfl|exact .inr rfl|assumption)) (@aq _ _ _ _ _ (@bS _ _ _ _ _ _ _ _ (PW.pt (iF (@dP _ (K) _ _ rfl (pv 2) (fun _=>rfl)) (iY (@aS _ _ _ _ _ _ _ _ jb (@ay _ _ _ _ _ _ (bh K) aR (pv 9) (pv 10) (fun _ _=>rfl)) dS (aK _))))) (@aE _ _ _ (@dX _ _ _ _ _ _ (@aA _ _ _ _ _ _ _ _ dj (@aA _ _ _ _ _ _ _ _ cJ (@aA _ _ _ _ _ _ _ _ cJ (@ay _ _ _ _ _ _ (bh K) aR (pv 7) (pv 10) (fun _ _=>rfl)) aj) (@aI _ _ _ _ _ _ _ _ _ _ bY (hr.mono (by decide)) (@aa _ _ _ _ _ (pv 1) (@aa _ _ _ _ _ (@aA _ _ _ _ _ _ _ _ iD (pv 5) aj) ak rfl) rfl) (by rfl) (by decide) (by rfl) (by rfl))) (pv 5)) (fO (pv 9) (pv 10) set_list) (by rfl) (by rfl) (by rfl))) cg) (@aq _ _ _ _ _ (@aM _ _ (11) _ _ _ _ fU.nd rfl (Or.inl rfl) (@aI _ _ _ _ _ _ _ _ _ _ bY (hr.mono (by decide)) (@aa _ _ _ _ _ (pv 1) (@aa _ _ _ _ _ (pv 6) ak rfl) rfl) (by rfl) (by decide) (by rfl) (by rfl)) (by rfl) (by first|exact .inl rfl|exact .inr rfl|assumption)) (@aq _ _ _ _ _ (@dX _ _ _ _ _ _ dS (fO (pv 9) (pv 11) set_list) (by rfl) (by rfl) (by rfl)) (@aq _ _ _ _ _ (@aM _ _ (12) _ _ _ _ fU.nd rfl (Or.inl rfl) (@aI _ _ _ _ _ _ _ _ _ _ pR (hr.mono (by decide)) (@aa _ _ _ _ _ (pv 8) (@aa _ _ _ _ _ (pv 9) ak rfl) rfl) (by rfl) (by decide) (by rfl) (by rfl)) (by rfl) (by first|exact .inl rfl|exact .inr rfl|assumption)) (@aq _ _ _ _ _ (@bS _ _ _ _ _ _ _ _ (PW.pt (iU (@aS _ _ _ _ _ _ _ _ mO (pv 12) dS (aK _)) (j5 (PW.pt (iF (@fy _ _ _ _ (@dP _ (K) _ _ rfl (pv 12) (fun _=>rfl))) (iY (@fy _ _ _ _ (@dP _ (K) _ _ rfl (pv 2) (fun _=>rfl))))))))) (@aE _ _ _ (@aQ _ _ _ _ fh)) cg) (@aq _ _ _ _ _ (@fu _ _ _ _ _ _ _ _ PassesOwn.never rfl (@eu _ _ _ _ (@i6 _ _ _ _ _ _ _ _ (@dP _ (K) _ _ rfl (pv 4) (fun _=>rfl)) (@dR _ _ _ _ (@aa _ _ _ _ _ (pv 11) ak rfl)) (dJ (cz.of (show cK (az iN) ["script","bag","wrong","more","large","p","n","whole","net","word","place","last","can","found"] _ ["k","word"] [none,some 9]=true by decide+kernel)) (@fM _ _ _ _ _ _ rfl bJ (@aa _ _ _ _ _ (pv 6) ak rfl) (by rfl)) (fun _ _ _ _=>⟨(aO (i:=0) (by show List.Nodup (["k","word"]:List Str);decide+kernel) rfl (Or.inl rfl)),(gJ (@aS _ _ _ _ _ _ _ _ mO (@ay _ _ _ _ _ _ (bh K) aR (pv 1) (pv 0) (fun _ _=>rfl)) dS (aK _))),(pv 0)⟩)))) (aO (i:=10) fU.nd rfl (Or.inl rfl)) (@aq _ _ _ _ _ (@bS _ _ _ _ _ _ _ _ (@fy _ _ _ _ (@dP _ (K) _ _ rfl (@aI _ _ _ _ _ _ _ _ _ _ G5 (hr.mono (by decide)) (@aa _ _ _ _ _ (pv 1) (@aa _ _ _ _ _ (pv 8) (@aa _ _ _ _ _ (pv 9) (@aa _ _ _ _ _ (pv 10) (@aa _ _ _ _ _ (pv 12) ak rfl) rfl) rfl) rfl) rfl) (by rfl) (by decide) (by rfl) (by rfl)) (fun _=>rfl))) (@aE _ _ _ (@aQ _ _ _ _ fh)) cg) (@aq _ _ _ _ _ (@aM _ _ (13) _ _ _ _ fU.nd rfl (Or.inl rfl) (@aI _ _ _ _ _ _ _ _ _ _ uP (hr.mono (by decide)) (@aa _ _ _ _ _ (@aI _ _ _ _ _ _ _ _ _ _ kQ (hr.mono (by decide)) (@aa _ _ _ _ _ (pv 8) ak rfl) (by rfl) (by decide) (by rfl) (by rfl)) (@aa _ _ _ _ _ (@lC _ _ _ _ _ _ _ _ (lB K) sL rfl fc PyProof.Rows.boot_list (@aa _ _ _ _ _ (pv 9) ak rfl) (by decide) (by decide) (by rfl) (by rfl)) (@aa _ _ _ _ _ (pv 10) ak rfl) rfl) rfl) (by rfl) (by decide) (by rfl) (by rfl)) (by rfl) (by first|exact .inl rfl|exact .inr rfl|assumption)) (@aE _ _ _ (@bS _ _ _ _ _ _ _ _ (PW.pt (iF (@fy _ _ _ _ (@dP _ (K) _ _ rfl (pv 2) (fun _=>rfl))) (iF (@aS _ _ _ _ _ _ _ _ bX (@ay _ _ _ _ _ _ (aY K) bu (pv 13) aj (fun _ _=>rfl)) gE (aK _)) (iY (@aS _ _ _ _ _ _ _ _ fL (@ay _ _ _ _ _ _ (aY K) bu (pv 13) aj (fun _ _=>rfl)) (@ay _ _ _ _ _ _ (bh K) aR (pv 7) (pv 10) (fun _ _=>rfl)) (aK _)))))) (@aE _ _ _ (@aQ _ _ _ _ fh)) cg)))) (by intro _;rfl)) (@aE _ _ _ (@aQ _ _ _ _ fh)))))))))))))))))),?_⟩
  walk_at "st"
  refine⟨a,ns,rfl,hS,hl,fun b l H1 s1 f1 B1=>?_⟩
  have zW:=s1.seq hS
  have key:∀(t:TS) (D:Ends),(∀H,D.rt (.bl true) H)->Sv (zx b l H1) [.raw (.ref a), .au, .no, .no, .no, .no, .no, .no, .no, .no, .no, .no, .no, .no] t {nx:=fun _=>False,rt:=fun _ d=>d= .bool true}->t D [some (.ref a),some (.ref b),none,none,none,none,none,none,none,none,none,none,none,none] H1:=fun t D d2 h=>h _ _ _ D (SW (m:=12) B1) (R5 d2)
  refine R.EX ?_
  dsimp only
  refine key _ _ (fun H=>?_) ?_
  · exact q _
  walk_at "dt"
  intro wr wr0 wr1
  walk_at "dt"
  intro mo mo0 mo1
  walk_at "dt"
  intro lg lg0 lg1
  walk_at "dt"
  refine Ev.ju Qk rfl ?_
  walk_at "dt"
  refine⟨rfl,fun p hp dD f=>?_⟩
  have p2:=hp.1
  have hpk:BC p:=⟨by omega,by omega⟩
  refine Gv.j9 ?_
  refine Sv.seq ?_
  refine Sv.gZ (fun ρ'=>∃n:Int,1<=n/\n<=40/\ρ'=[.raw (.ref a), .au, .d true (.bool (decide (wr=2))), .d true (.int mo), .d true (.bool (decide (lg=7))), .d true (.int p), .d true (.int n), .no, .no, .no, .no, .no, .no, .no]) ?_ ?_
  · walk_at "dt"
    by_cases c:lg=7
    · rw[if_pos (decide_eq_true c)]
      walk_at "dt"
      intro r r0 r1
      walk_at "dt"
      exact⟨1+r,by omega,by omega,rfl⟩
    · rw[if_neg (by simpa using c)]
      walk_at "dt"
      intro r r0 r1
      walk_at "dt"
      exact⟨1+r,by omega,by omega,rfl⟩
  rintro ρ' ⟨n,n0,n1,rfl⟩
  walk_at "dt"
  refine Ev.ju Pq rfl ?_
  walk_at "dt"
  refine⟨rfl,p,n,rfl,hpk,by omega,by omega,fun os gc hos=>?_⟩
  have WU:(os.map PyData.int).length=os.length:=List.length_map ..
  refine Gv.name ?_
  refine Sv.seq ?_
  refine Sv.gZ (fun ρ'=>∃(cs:List aH) (f8:Bool),cs.length<=500/\(∀prs∈cs,gz p n.toNat prs)/\(∀prs∈cs,p∣aV prs (os.map some))/\ρ'=[.raw (.ref a), .au, .d true (.bool (decide (wr=2))), .d true (.int mo), .d true (.bool (decide (lg=7))), .d true (.int p), .d true (.int n), .d true (.list (os.map .int)), .d f8 (bz p n cs), .no, .no, .no, .no, .no]) ?_ ?_
  · walk_at "dt"
    refine Ev.ju OP rfl ?_
    walk_at "dt"
    refine Ev.ju Ut rfl ?_
    walk_at "dt"
    by_cases c:lg=7
    · rw[if_pos (by simpa using c)]
      walk_at "dt"
      intro r r0 r1
      walk_at "dt"
      refine⟨rfl,p,r,4,os,rfl,hp,dD,by omega,by omega,hos,by omega,by omega,by omega,by omega,fun yi g0 Ti pe=>?_⟩
      have sS:(os.length:Int)=n:=gc
      rw[sS]
      walk_at "dt"
      refine⟨rfl,p,n,mo,yi,rfl,hp,dD,n0,by omega,by omega,fun prs hm=>?_,mo0,by omega,fun nH cs hcl hcs hT=>?_⟩
      · have:=(pe prs hm).1
        rwa[show os.length=n.toNat by omega] at this
      refine Gv.name ?_
      exact⟨cs,_,by omega,hcs,hT os (by omega) fun q hq=>Int.dvd_of_emod_eq_zero (pe q hq).2,rfl⟩
    · rw[if_neg (by simpa using c)]
      walk_at "dt"
      intro r r0 r1
      walk_at "dt"
      refine⟨rfl,p,r,4,os,rfl,hp,dD,by omega,by omega,hos,by omega,by omega,by omega,by omega,fun yi g0 Ti pe=>?_⟩
      have sS:(os.length:Int)=n:=gc
      rw[sS]
      walk_at "dt"
      refine⟨rfl,p,n,mo,yi,rfl,hp,dD,n0,by omega,by omega,fun prs hm=>?_,mo0,by omega,fun nH cs hcl hcs hT=>?_⟩
      · have:=(pe prs hm).1
        rwa[show os.length=n.toNat by omega] at this
      refine Gv.name ?_
      exact⟨cs,_,by omega,hcs,hT os (by omega) fun q hq=>Int.dvd_of_emod_eq_zero (pe q hq).2,rfl⟩
  rintro ρ' ⟨cs,f8,hcl,hcs,hct,rfl⟩
  have hN:dw p n cs:=EM hp dD n0 (by omega) (by omega) hcs
  refine Sv.seq ?_
  refine Sv.Sg (fD.ju Ul rfl ?_)
  walk_at "dt"
  refine⟨rfl,os,rfl,by omega,fun ld cL=>⟨rfl, .inl ⟨_,rfl,fun A9=>?_⟩⟩⟩
  have qx:=cL.1
  walk_at "dt"
  intro k k0 k1
  refine Gv.name ?_
  refine Sv.seq ?_
  refine Sv.gZ (fun ρ'=>∃(ld:Wo) (g9:Bool),ld.length=n.toNat/\(∀x,some x∈ld->0<=x/\x<p)/\(wr≠2->∀(i:Nat) x,ld[i]?=some (some x)->os[i]?=some x)/\ρ'=[.raw (.ref a), .au, .d true (.bool (decide (wr=2))), .d true (.int mo), .d true (.bool (decide (lg=7))), .d true (.int p), .d true (.int n), .d true (.list (os.map .int)), .d f8 (bz p n cs), .own A9 g9 (ld.map bw), .d true (.int k), .no, .no, .no]) ?_ ?_
  · have kP:k.toNat<ld.length:=by omega
    have hko:k.toNat<os.length:=by omega
    have BG:∀x,some x∈ld->0<=x/\x<p:=fun x hx=>hos x (Oo cL hx)
    have stay:∃(qh:Wo) (g9:Bool),qh.length=n.toNat/\(∀x,some x∈qh->0<=x/\x<p)/\(wr≠2->∀(i:Nat) x,qh[i]?=some (some x)->os[i]?=some x)/\([.raw (.ref a), .au, .d true (.bool (decide (wr=2))), .d true (.int mo), .d true (.bool (decide (lg=7))), .d true (.int p), .d true (.int n), .d true (.list (os.map .int)), .d f8 (bz p n cs), .own A9 true (ld.map bw), .d true (.int k), .no, .no, .no]:Rh)=[.raw (.ref a), .au, .d true (.bool (decide (wr=2))), .d true (.int mo), .d true (.bool (decide (lg=7))), .d true (.int p), .d true (.int n), .d true (.list (os.map .int)), .d f8 (bz p n cs), .own A9 g9 (qh.map bw), .d true (.int k), .no, .no, .no]:=⟨ld,true,by omega,BG,fun _=>cL.2,rfl⟩
    have hat:aU (ld.map bw) k=some (bw ld[k.toNat]):=cW k0 (by rw[List.getElem?_map,List.getElem?_eq_getElem kP];rfl)
    have jo:aU (os.map PyData.int) k=some (.int os[k.toNat]):=cW k0 (by rw[List.getElem?_map,List.getElem?_eq_getElem hko];rfl)
    obtain⟨o0,o1⟩:=hos _ (List.getElem_mem hko)
    have so:Sm os[k.toNat]:=by unfold Sm;omega
    have hix:cH (ld.map bw).length k=some k.toNat:=by
      unfold cH
      rw[List.length_map]
      repeat (first|rw[if_pos (by omega)]|rw[if_neg (by omega)])
    walk_at "dt"
    by_cases c:wr=2
    · rw[if_pos (by simpa using c)]
      refine Tv.lend 9 rfl ?_
      walk_at "dt"
      rw[iz]
      cases e:ld[k.toNat] with
      | none =>
        walk_at "dt"
        exact stay
      | some x =>
        walk_at "dt"
        intro r r0 r1
        walk_at "dt"
        refine⟨_,_,rfl,hix,?_⟩
        rw[show(ld.map bw).set k.toNat (.int ((os[k.toNat]+1+r)%p))=(ld.set k.toNat (some ((os[k.toNat]+1+r)%p))).map bw by rw[List.map_set];rfl]
        refine⟨ld.set k.toNat (some ((os[k.toNat]+1+r)%p)),_,by rw[List.length_set];omega,fun y hy=>?_,fun z=>absurd c z,rfl⟩
        rcases List.mem_or_eq_of_mem_set hy with z|z
        · exact BG y z
        · cases z
          exact⟨Int.emod_nonneg _ (by omega),Int.emod_lt_of_pos _ (by omega)⟩
    · rw[if_neg (by simpa using c)]
      walk_at "dt"
      exact stay
  rintro ρ' ⟨ld,g9,qx,hlr,hlo,rfl⟩
  walk_at "dt"
  intro la la0 la1
  walk_at "dt"
  have hix:cH (ld.map bw).length la=some la.toNat:=by
    unfold cH
    rw[List.length_map]
    repeat (first|rw[if_pos (by omega)]|rw[if_neg (by omega)])
  refine⟨_,_,rfl,hix,?_⟩
  rw[show(ld.map bw).set la.toNat .none=(ld.set la.toNat none).map bw by rw[List.map_set];rfl]
  obtain⟨wd,nY⟩:∃wd,ld.set la.toNat none=wd:=⟨_,rfl⟩
  have hwl:wd.length=n.toNat:=by rw[<-nY,List.length_set];omega
  have cB:∀x,some x∈wd->0<=x/\x<p:=fun x hx=>by
    rw[<-nY] at hx
    rcases List.mem_or_eq_of_mem_set hx with z|z
    · exact hlr x z
    · cases z
  have Qi:wr≠2->∀(i:Nat) x,wd[i]?=some (some x)->os[i]?=some x:=fun hw i x e=>by
    rw[<-nY,List.getElem?_set] at e
    split at e
    · split at e<;>cases e
    · exact hlo hw i x e
  have hla:wd[la.toNat]?=some none:=by rw[<-nY];exact List.getElem?_set_self (by omega)
  rw[nY]
  have hfill:wr≠2->dW p n cs wd os:=fun hw=>⟨by omega,hos,fun j x e=>by
    have:=Qi hw j x e
    unfold gI
    rw[List.getD_eq_getElem?_getD,this]
    rfl,hct⟩
  refine Sv.jB 9 rfl ?_
  generalize (g9 && true)=f9
  have ku:(wd.map bw).length=wd.length:=List.length_map ..
  walk_at "dt"
  refine Ev.bI pV ?_
  walk_at "dt"
  refine⟨rfl,p,n,cs,wd,rfl,hN,hwl,cB,fun cb hcb=>?_⟩
  refine Gv.name ?_
  refine Sv.seq ?_
  refine Sv.gZ (fun ρ'=>(wr≠2->cb=true)/\ρ'=[.raw (.ref a), .au, .d true (.bool (decide (wr=2))), .d true (.int mo), .d true (.bool (decide (lg=7))), .d true (.int p), .d true (.int n), .d true (.list (os.map .int)), .d f8 (bz p n cs), .d f9 (cX wd), .d true (.int k), .d true (.int la), .d true (.bool cb), .no]) ?_ ?_
  · have Og:wr≠2->cb=true:=fun hw=>hcb.mpr ⟨os,hfill hw⟩
    walk_at "dt"
    cases cb with
    | true =>
      rw[if_neg (by decide)]
      walk_at "dt"
      first|exact⟨fun _=>rfl,rfl⟩|rfl
    | false =>
      have LZ:wr=2:=Classical.byContradiction fun z=>by cases Og z
      rw[if_pos (by decide)]
      walk_at "dt"
      first|exact⟨fun z=>absurd LZ z,rfl⟩|rfl
  rintro ρ' ⟨hcbt,rfl⟩
  refine Sv.seq ?_
  refine Sv.forL ?_
  refine Ws (Φ:=fun _ d=>∃L:List Nat,L.length<=40/\(∀x∈L,wd[x]?=some none)/\d= .list (L.map fun(x:Nat)=>PyData.int (x:Int))) ?_ ?_
  · walk_at "dt"
    by_cases c:lg=7
    · rw[if_pos (by simpa using c)]
      walk_at "dt"
      exact⟨[la.toNat],by show 1<=40;omega,fun x hx=>by rw[List.mem_singleton.mp hx];exact hla,by show PyData.list [.int la]= .list [.int (la.toNat:Int)];rw[Int.toNat_of_nonneg la0]⟩
    · rw[if_neg (by simpa using c)]
      refine aC.ev (aC.ia (by decide) rfl ?_)
      walk_at "dt"
      refine⟨true,fun i ds=>∃L:List Nat,ds=L.map (fun(x:Nat)=>PyData.int (x:Int))/\L.length<=i/\∀x∈L,wd[x]?=some none,⟨[],rfl,Nat.le_refl _,(fun _ h=>nomatch h)⟩,?_,?_⟩
      · rintro i d ds ⟨hi,rfl⟩ hl' ⟨L,rfl,vQ,hL⟩
        obtain⟨o,ho,hat⟩:=jj (xs:=wd) (k:=0+(i:Int)) bw (by omega) (show 0+(i:Int)<wd.length by omega) rfl
        rw[show(0+(i:Int)).toNat=i by omega] at ho
        walk_at "dt"
        refine⟨by walk_at "wk",?_⟩
        walk_at "dt"
        rw[iz]
        cases o with
        | some x =>
          walk_at "dt"
          exact⟨L,rfl,by omega,hL⟩
        | none =>
          walk_at "dt"
          refine⟨L++[i],by rw[List.map_append];simp,by rw[List.length_append,List.length_singleton];omega,fun x hx=>?_⟩
          rcases List.mem_append.mp hx with z|z
          · exact hL x z
          · rw[List.mem_singleton.mp z];exact ho
      rintro ds hl' ⟨L,rfl,vQ,hL⟩
      exact⟨L,by omega,hL,rfl⟩
  rintro f0 d ⟨L,vQ,hL,rfl⟩
  refine⟨_,rfl,fun v=>⟨fun i ρ=>∃(iB wZ:Sl),ρ=[.raw (.ref a), .au, .d true (.bool (decide (wr=2))), .d true (.int mo), .d true (.bool (decide (lg=7))), .d true (.int p), .d true (.int n), .d true (.list (os.map .int)), .d f8 (bz p n cs), .d f9 (cX wd),iB, .d true (.int la), .d true (.bool cb),wZ],⟨_,_,rfl⟩,?_,?_⟩⟩
  · rintro i d ρ hd ⟨iB,wZ,rfl⟩
    obtain⟨pl,hpl,rfl⟩:∃pl:Nat,L[i]?=some pl/\d= .int (pl:Int):=by
      rw[List.getElem?_map] at hd
      obtain⟨x,hx,e⟩:=Option.map_eq_some_iff.mp hd
      exact⟨x,hx,e.symm⟩
    have qW:=hL pl (List.mem_of_getElem? hpl)
    have Xg:=(List.getElem?_eq_some_iff.mp qW).1
    have Cf:pl<os.length:=by omega
    have hat:aU (os.map PyData.int) (pl:Int)=some (.int os[pl]):=cW (by omega) (by rw[Int.toNat_natCast,List.getElem?_map,List.getElem?_eq_getElem Cf];rfl)
    refine Gv.j9 ?_
    walk_at "dt"
    refine Ev.ju Pb rfl ?_
    walk_at "dt"
    refine⟨rfl,p,n,cs,wd,pl,cb,rfl,hN,hwl,cB,qW,hcb,?_⟩
    walk_at "dt"
    refine Ev.bI CD ?_
    walk_at "dt"
    refine Ev.xw ?_
    walk_at "dt"
    refine⟨p,n,cs,rfl,by omega,?_⟩
    walk_at "dt"
    refine⟨rfl,p,n,cs,wd,pl,rfl,hN,hwl,cB,qW,fun v2 aD TN=>?_,fun u hU=>?_⟩
    · walk_at "dt"
      by_cases c:wr=2
      · rw[if_neg (by simp[c])]
        walk_at "dt"
        exact⟨_,_,rfl⟩
      · rw[if_pos (by simp[c])]
        have hv:v2=os[pl]:=by
          rw[<-t8 hN hwl qW TN (hfill c)]
          unfold gI
          rw[List.getD_eq_getElem?_getD,List.getElem?_eq_getElem Cf]
          rfl
        rw[hv]
        walk_at "dt"
        refine⟨_,i9 _ _,_,rfl,?_⟩
        rw[if_pos (by decide)]
        walk_at "dt"
        exact⟨_,_,rfl⟩
    · walk_at "dt"
      by_cases c:wr=2
      · rw[if_neg (by simp[c])]
        walk_at "dt"
        exact⟨_,_,rfl⟩
      · rw[if_pos (by simp[c])]
        walk_at "dt"
        refine⟨_,i9 _ _,_,rfl,?_⟩
        rw[if_neg (by decide)]
        walk_at "dt"
        exact⟨_,_,rfl⟩
  · rintro ρ ⟨iB,wZ,rfl⟩
    walk_at "dt"
    rfl
end
theorem all_mk{l:PySem.W.OpenLaw}{w:World}{K:PySem.W.Frag}{h:Heap}{mg:Str->Option Value}{fa:Addr}{f0 f1 f2 f3 f4 f5 f6 f7 f8 f9 sO nH Au t6 xS yF zp yb we xy zb uK zc Aa vI xx uu z7 tH Ai tE xo f32 vD xX vz:Addr}(X:K.In h)(G:h.Ns mainGlobals mg)(Mj:mg "law"=some (.ref fa))
  {Rp Qg:Option Addr} {UH:Array (Option Value)} {OX QK RJ OD CU IE:Value} {HU Iz:Option Addr} {MN:Array (Option Value)} {NK Uv Kg KP Es GF:Value} {GX VA:Option Addr} {sl2:Array (Option Value)} {Jr UA OR Vh Bb MR:Value} {MG Ny:Option Addr} {Tg:Array (Option Value)} {UL K1 S9 QC Cj Hl:Value} {Kl Hq:Option Addr} {Ow:Array (Option Value)} {Np PR Nz Ug Eg Wm:Value} {Rf WE:Option Addr} {LR:Array (Option Value)} {Qx S3 QE RS CP Nd:Value} {OE Q0:Option Addr} {Lb:Array (Option Value)} {NT WC Mq Gq Fj TJ:Value} {KW Mk:Option Addr} {Tc:Array (Option Value)} {JC ON Ob UQ Cg Nc:Value} {Mt LS:Option Addr} {Jg:Array (Option Value)} {UU GR J8 Jd A7 V5:Value} {IQ WD:Option Addr} {Rz:Array (Option Value)} {JS Ke MO Wg Bv LA:Value} {IJ GI:Option Addr} {HJ:Array (Option Value)} {Nu SA Hh Lp FD UO:Value} {Lh MA:Option Addr} {TM:Array (Option Value)} {NY Uz JW HH Gh Hi:Value} {Gs T5:Option Addr} {Rq:Array (Option Value)} {NR Sx Mu Vt DU Uy:Value} {Pp VF:Option Addr} {Iv:Array (Option Value)} {Ve Lr TY Vg CL Q3:Value} {LC Vu:Option Addr} {T6:Array (Option Value)} {GD Ml Wn Li Ek Ld:Value} {Ko Iw:Option Addr} {R3:Array (Option Value)} {Qc L3 Pc Ky Du RZ:Value} {P0 JN:Option Addr} {Wj:Array (Option Value)} {S5 GB JK Wu Ce IP:Value} {HF O6:Option Addr} {HZ:Array (Option Value)} {LV MI JX VE EO Nt:Value} {HW Ip:Option Addr} {Nh:Array (Option Value)} {J4 HL HA Ud Fl Vv:Value} {UZ P4:Option Addr} {UX:Array (Option Value)} {WI RQ MW Gp B9 TV:Value} {OS Pw:Option Addr} {RM:Array (Option Value)} {JH QN R7 Vl B6 O2:Value} {V2 Nf:Option Addr} {G3:Array (Option Value)} {N9 Mg Rk We ED Na:Value} {Ie Ra:Option Addr} {Tp:Array (Option Value)} {UD RP Kd Lk Bu V0:Value} {TH Sy:Option Addr} {Pz:Array (Option Value)} {UM LI Vk LG C0 Nl:Value} {JR JZ:Option Addr} {J7:Array (Option Value)} {PL Vq LN GN DS Qa:Value} {Wr Hf:Option Addr} {NV:Array (Option Value)} {Jb J2 Sw Km BI Gr:Value} {V3 MD:Option Addr} {JL:Array (Option Value)} {IT MP KJ WB D7 Qn:Value} {J6 Qq:Option Addr} {Ht:Array (Option Value)} {M9 Ii M0 KY Gk Oq:Value} {Jo JD:Option Addr} {TF:Array (Option Value)} {Jp Vw UG QB Eh NZ:Value} {RL Rr:Option Addr} {NQ:Array (Option Value)} {T7 RK OU Kc A6 MV:Value} {Jh O7:Option Addr} {Vp:Array (Option Value)} {Lo Tz R6 IS Gi RD:Value} {Oc NS:Option Addr} {Hu:Array (Option Value)} {VV MX RV Q9 Fy Jj:Value} {Pj SJ:Option Addr} {Kn:Array (Option Value)} {MK HX Oe PB Er LF:Value} {Nn UB:Option Addr} {ID:Array (Option Value)} {V9 QZ Lm S2 Bm Sn:Value} {GY VT:Option Addr} {T8:Array (Option Value)} {OM Pe UP Qf B7 M5:Value} {GQ Cz:Option Addr} {ML:Array (Option Value)} {SK Dd Et B8 xA Fo:Value}
  (a0:PySem.W.nsIn K mainGlobals "inverse"=some (some (.ref f0))) (l0:K.lookup f0=some ⟨OX,Rp, .func (PySem.W.fnOf "inverse" "inverse" (bG mV) (bC mV) (az mV) .none QK RJ OD Qg CU IE),UH⟩) (c0:PySem.W.codeIn K CU "inverse"=true) (k0:PySem.W.keepIn K (.ref f0)=true)
  (a1:PySem.W.nsIn K mainGlobals "total"=some (some (.ref f1))) (l1:K.lookup f1=some ⟨NK,HU, .func (PySem.W.fnOf "total" "total" (bG mq) (bC mq) (az mq) .none Uv Kg KP Iz Es GF),MN⟩) (c1:PySem.W.codeIn K Es "total"=true) (k1:PySem.W.keepIn K (.ref f1)=true)
  (a2:PySem.W.nsIn K mainGlobals "lost_of"=some (some (.ref f2))) (l2:K.lookup f2=some ⟨Jr,GX, .func (PySem.W.fnOf "lost_of" "lost_of" (bG lA) (bC lA) (az lA) .none UA OR Vh VA Bb MR),sl2⟩) (c2:PySem.W.codeIn K Bb "lost_of"=true) (k2:PySem.W.keepIn K (.ref f2)=true)
  (a3:PySem.W.nsIn K mainGlobals "rows_of"=some (some (.ref f3))) (l3:K.lookup f3=some ⟨UL,MG, .func (PySem.W.fnOf "rows_of" "rows_of" (bG mX) (bC mX) (az mX) .none K1 S9 QC Ny Cj Hl),Tg⟩) (c3:PySem.W.codeIn K Cj "rows_of"=true) (k3:PySem.W.keepIn K (.ref f3)=true)
  (a4:PySem.W.nsIn K mainGlobals "swept"=some (some (.ref f4))) (l4:K.lookup f4=some ⟨Np,Kl, .func (PySem.W.fnOf "swept" "swept" (bG mH) (bC mH) (az mH) .none PR Nz Ug Hq Eg Wm),Ow⟩) (c4:PySem.W.codeIn K Eg "swept"=true) (k4:PySem.W.keepIn K (.ref f4)=true)
  (a5:PySem.W.nsIn K mainGlobals "first_with"=some (some (.ref f5))) (l5:K.lookup f5=some ⟨Qx,Rf, .func (PySem.W.fnOf "first_with" "first_with" (bG mj) (bC mj) (az mj) .none S3 QE RS WE CP Nd),LR⟩) (c5:PySem.W.codeIn K CP "first_with"=true) (k5:PySem.W.keepIn K (.ref f5)=true)
  (a6:PySem.W.nsIn K mainGlobals "cleared"=some (some (.ref f6))) (l6:K.lookup f6=some ⟨NT,OE, .func (PySem.W.fnOf "cleared" "cleared" (bG kq) (bC kq) (az kq) .none WC Mq Gq Q0 Fj TJ),Lb⟩) (c6:PySem.W.codeIn K Fj "cleared"=true) (k6:PySem.W.keepIn K (.ref f6)=true)
  (a7:PySem.W.nsIn K mainGlobals "times"=some (some (.ref f7))) (l7:K.lookup f7=some ⟨JC,KW, .func (PySem.W.fnOf "times" "times" (bG kG) (bC kG) (az kG) .none ON Ob UQ Mk Cg Nc),Tc⟩) (c7:PySem.W.codeIn K Cg "times"=true) (k7:PySem.W.keepIn K (.ref f7)=true)
  (a8:PySem.W.nsIn K mainGlobals "less"=some (some (.ref f8))) (l8:K.lookup f8=some ⟨UU,Mt, .func (PySem.W.fnOf "less" "less" (bG kK) (bC kK) (az kK) .none GR J8 Jd LS A7 V5),Jg⟩) (c8:PySem.W.codeIn K A7 "less"=true) (k8:PySem.W.keepIn K (.ref f8)=true)
  (a9:PySem.W.nsIn K mainGlobals "reached_by"=some (some (.ref f9))) (l9:K.lookup f9=some ⟨JS,IQ, .func (PySem.W.fnOf "reached_by" "reached_by" (bG lR) (bC lR) (az lR) .none Ke MO Wg WD Bv LA),Rz⟩) (c9:PySem.W.codeIn K Bv "reached_by"=true) (k9:PySem.W.keepIn K (.ref f9)=true)
  (ze:PySem.W.nsIn K mainGlobals "settled"=some (some (.ref sO))) (vM:K.lookup sO=some ⟨Nu,IJ, .func (PySem.W.fnOf "settled" "settled" (bG kZ) (bC kZ) (az kZ) .none SA Hh Lp GI FD UO),HJ⟩) (Ao:PySem.W.codeIn K FD "settled"=true) (Ab:PySem.W.keepIn K (.ref sO)=true)
  (yT:PySem.W.nsIn K mainGlobals "filled"=some (some (.ref nH))) (zB:K.lookup nH=some ⟨NY,Lh, .func (PySem.W.fnOf "filled" "filled" (bG lz) (bC lz) (az lz) .none Uz JW HH MA Gh Hi),TM⟩) (vF:PySem.W.codeIn K Gh "filled"=true) (wK:PySem.W.keepIn K (.ref nH)=true)
  (xU:PySem.W.nsIn K mainGlobals "_law_bag"=some (some (.ref Au))) (uU:K.lookup Au=some ⟨NR,Gs, .func (PySem.W.fnOf "_law_bag" "_law_bag" (bG lE) (bC lE) (az lE) .none Sx Mu Vt T5 DU Uy),Rq⟩) (c12:PySem.W.codeIn K DU "_law_bag"=true) (tw:PySem.W.keepIn K (.ref Au)=true)
  (wW:PySem.W.nsIn K mainGlobals "_law_stirred"=some (some (.ref t6))) (zw:K.lookup t6=some ⟨Ve,Pp, .func (PySem.W.fnOf "_law_stirred" "_law_stirred" (bG mW) (bC mW) (az mW) .none Lr TY Vg VF CL Q3),Iv⟩) (uY:PySem.W.codeIn K CL "_law_stirred"=true) (zH:PySem.W.keepIn K (.ref t6)=true)
  (yP:PySem.W.nsIn K mainGlobals "_law_draw"=some (some (.ref xS))) (vm:K.lookup xS=some ⟨GD,LC, .func (PySem.W.fnOf "_law_draw" "_law_draw" (bG mU) (bC mU) (az mU) .none Ml Wn Li Vu Ek Ld),T6⟩) (xP:PySem.W.codeIn K Ek "_law_draw"=true) (wI:PySem.W.keepIn K (.ref xS)=true)
  (yd:PySem.W.nsIn K mainGlobals "_law_prime_from"=some (some (.ref yF))) (vG:K.lookup yF=some ⟨Qc,Ko, .func (PySem.W.fnOf "_law_prime_from" "_law_prime_from" (bG ki) (bC ki) (az ki) .none L3 Pc Ky Iw Du RZ),R3⟩) (v8:PySem.W.codeIn K Du "_law_prime_from"=true) (uy:PySem.W.keepIn K (.ref yF)=true)
  (xg:PySem.W.nsIn K mainGlobals "_law_prime"=some (some (.ref zp))) (wR:K.lookup zp=some ⟨S5,P0, .func (PySem.W.fnOf "_law_prime" "_law_prime" (bG lJ) (bC lJ) (az lJ) .none GB JK Wu JN Ce IP),Wj⟩) (tO:PySem.W.codeIn K Ce "_law_prime"=true) (z5:PySem.W.keepIn K (.ref zp)=true)
  (uQ:PySem.W.nsIn K mainGlobals "_law_over"=some (some (.ref yb))) (zC:K.lookup yb=some ⟨LV,HF, .func (PySem.W.fnOf "_law_over" "_law_over" (bG m9) (bC m9) (az m9) .none MI JX VE O6 EO Nt),HZ⟩) (uF:PySem.W.codeIn K EO "_law_over"=true) (z6:PySem.W.keepIn K (.ref yb)=true)
  (yo:PySem.W.nsIn K mainGlobals "_law_sum"=some (some (.ref we))) (vR:K.lookup we=some ⟨J4,HW, .func (PySem.W.fnOf "_law_sum" "_law_sum" (bG kX) (bC kX) (az kX) .none HL HA Ud Ip Fl Vv),Nh⟩) (tM:PySem.W.codeIn K Fl "_law_sum"=true) (zm:PySem.W.keepIn K (.ref we)=true)
  (yz:PySem.W.nsIn K mainGlobals "_law_letters"=some (some (.ref xy))) (vd:K.lookup xy=some ⟨WI,UZ, .func (PySem.W.fnOf "_law_letters" "_law_letters" (bG jU) (bC jU) (az jU) .none RQ MW Gp P4 B9 TV),UX⟩) (tY:PySem.W.codeIn K B9 "_law_letters"=true) (yL:PySem.W.keepIn K (.ref xy)=true)
  (wm:PySem.W.nsIn K mainGlobals "_law_planted_check"=some (some (.ref zb))) (ua:K.lookup zb=some ⟨JH,OS, .func (PySem.W.fnOf "_law_planted_check" "_law_planted_check" (bG jI) (bC jI) (az jI) .none QN R7 Vl Pw B6 O2),RM⟩) (tN:PySem.W.codeIn K B6 "_law_planted_check"=true) (wV:PySem.W.keepIn K (.ref zb)=true)
  (yh:PySem.W.nsIn K mainGlobals "_law_planted"=some (some (.ref uK))) (Al:K.lookup uK=some ⟨N9,V2, .func (PySem.W.fnOf "_law_planted" "_law_planted" (bG jJ) (bC jJ) (az jJ) .none Mg Rk We Nf ED Na),G3⟩) (wg:PySem.W.codeIn K ED "_law_planted"=true) (zf:PySem.W.keepIn K (.ref uK)=true)
  (um:PySem.W.nsIn K mainGlobals "_law_lossy"=some (some (.ref zc))) (uh:K.lookup zc=some ⟨UD,Ie, .func (PySem.W.fnOf "_law_lossy" "_law_lossy" (bG kU) (bC kU) (az kU) .none RP Kd Lk Ra Bu V0),Tp⟩) (Am:PySem.W.codeIn K Bu "_law_lossy"=true) (vh:PySem.W.keepIn K (.ref zc)=true)
  (tT:PySem.W.nsIn K mainGlobals "_law_copy"=some (some (.ref Aa))) (wD:K.lookup Aa=some ⟨UM,TH, .func (PySem.W.fnOf "_law_copy" "_law_copy" (bG kM) (bC kM) (az kM) .none LI Vk LG Sy C0 Nl),Pz⟩) (Ad:PySem.W.codeIn K C0 "_law_copy"=true) (xN:PySem.W.keepIn K (.ref Aa)=true)
  (Ah:PySem.W.nsIn K mainGlobals "_law_whole"=some (some (.ref vI))) (wA:K.lookup vI=some ⟨PL,JR, .func (PySem.W.fnOf "_law_whole" "_law_whole" (bG nA) (bC nA) (az nA) .none Vq LN GN JZ DS Qa),J7⟩) (vB:PySem.W.codeIn K DS "_law_whole"=true) (yM:PySem.W.keepIn K (.ref vI)=true)
  (yC:PySem.W.nsIn K mainGlobals "_law_summed"=some (some (.ref xx))) (uS:K.lookup xx=some ⟨Jb,Wr, .func (PySem.W.fnOf "_law_summed" "_law_summed" (bG lH) (bC lH) (az lH) .none J2 Sw Km Hf BI Gr),NV⟩) (ve:PySem.W.codeIn K BI "_law_summed"=true) (yJ:PySem.W.keepIn K (.ref xx)=true)
  (Ac:PySem.W.nsIn K mainGlobals "_law_more"=some (some (.ref uu))) (yg:K.lookup uu=some ⟨IT,V3, .func (PySem.W.fnOf "_law_more" "_law_more" (bG lV) (bC lV) (az lV) .none MP KJ WB MD D7 Qn),JL⟩) (yv:PySem.W.codeIn K D7 "_law_more"=true) (sV:PySem.W.keepIn K (.ref uu)=true)
  (u6:PySem.W.nsIn K mainGlobals "_law_letter_list"=some (some (.ref z7))) (xJ:K.lookup z7=some ⟨M9,J6, .func (PySem.W.fnOf "_law_letter_list" "_law_letter_list" (bG kR) (bC kR) (az kR) .none Ii M0 KY Qq Gk Oq),Ht⟩) (tZ:PySem.W.codeIn K Gk "_law_letter_list"=true) (xV:PySem.W.keepIn K (.ref z7)=true)
  (u5:PySem.W.nsIn K mainGlobals "_law_combined"=some (some (.ref tH))) (wc:K.lookup tH=some ⟨Jp,Jo, .func (PySem.W.fnOf "_law_combined" "_law_combined" (bG nj) (bC nj) (az nj) .none Vw UG QB JD Eh NZ),TF⟩) (xM:PySem.W.codeIn K Eh "_law_combined"=true) (vY:PySem.W.keepIn K (.ref tH)=true)
  (v5:PySem.W.nsIn K mainGlobals "_law_true"=some (some (.ref Ai))) (zK:K.lookup Ai=some ⟨T7,RL, .func (PySem.W.fnOf "_law_true" "_law_true" (bG lu) (bC lu) (az lu) .none RK OU Kc Rr A6 MV),NQ⟩) (zq:PySem.W.codeIn K A6 "_law_true"=true) (tS:PySem.W.keepIn K (.ref Ai)=true)
  (zy:PySem.W.nsIn K mainGlobals "_law_settles"=some (some (.ref tE))) (xQ:K.lookup tE=some ⟨Lo,Jh, .func (PySem.W.fnOf "_law_settles" "_law_settles" (bG jz) (bC jz) (az jz) .none Tz R6 IS O7 Gi RD),Vp⟩) (yI:PySem.W.codeIn K Gi "_law_settles"=true) (vZ:PySem.W.keepIn K (.ref tE)=true)
  (sP:PySem.W.nsIn K mainGlobals "_law_fills"=some (some (.ref xo))) (w5:K.lookup xo=some ⟨VV,Oc, .func (PySem.W.fnOf "_law_fills" "_law_fills" (bG jC) (bC jC) (az jC) .none MX RV Q9 NS Fy Jj),Hu⟩) (yr:PySem.W.codeIn K Fy "_law_fills"=true) (zo:PySem.W.keepIn K (.ref xo)=true)
  (a32:PySem.W.nsIn K mainGlobals "_law_can"=some (some (.ref f32))) (xG:K.lookup f32=some ⟨MK,Pj, .func (PySem.W.fnOf "_law_can" "_law_can" (bG lN) (bC lN) (az lN) .none HX Oe PB SJ Er LF),Kn⟩) (uZ:PySem.W.codeIn K Er "_law_can"=true) (yZ:PySem.W.keepIn K (.ref f32)=true)
  (zZ:PySem.W.nsIn K mainGlobals "_law_put"=some (some (.ref vD))) (vE:K.lookup vD=some ⟨V9,Nn, .func (PySem.W.fnOf "_law_put" "_law_put" (bG mJ) (bC mJ) (az mJ) .none QZ Lm S2 UB Bm Sn),ID⟩) (yt:PySem.W.codeIn K Bm "_law_put"=true) (yG:PySem.W.keepIn K (.ref vD)=true)
  (uq:PySem.W.nsIn K mainGlobals "_law_place_right"=some (some (.ref xX))) (xZ:K.lookup xX=some ⟨OM,GY, .func (PySem.W.fnOf "_law_place_right" "_law_place_right" (bG lW) (bC lW) (az lW) .none Pe UP Qf VT B7 M5),T8⟩) (yk:PySem.W.codeIn K B7 "_law_place_right"=true) (yR:PySem.W.keepIn K (.ref xX)=true)
  (yu:PySem.W.nsIn K mainGlobals "law"=some (some (.ref vz))) (zl:K.lookup vz=some ⟨SK,GQ, .func (PySem.W.fnOf "law" "law" (bG iN) (bC iN) (az iN) .none Dd Et B8 Cz xA Fo),ML⟩) (xB:PySem.W.codeIn K xA "law"=true) (yW:PySem.W.keepIn K (.ref vz)=true)
  (wY:PySem.W.nsIn K mainGlobals "abs"=some none)
  (uH:PySem.W.nsIn K mainGlobals "all"=some none)
  (xY:PySem.W.nsIn K mainGlobals "bool"=some none)
  (wB:PySem.W.nsIn K mainGlobals "enumerate"=some none)
  (u7:PySem.W.nsIn K mainGlobals "int"=some none)
  (sY:PySem.W.nsIn K mainGlobals "isinstance"=some none)
  (yU:PySem.W.nsIn K mainGlobals "len"=some none)
  (w4:PySem.W.nsIn K mainGlobals "list"=some none)
  (xT:PySem.W.nsIn K mainGlobals "min"=some none)
  (za:PySem.W.nsIn K mainGlobals "range"=some none)
  (zY:PySem.W.nsIn K mainGlobals "set"=some none)
  (wQ:PySem.W.nsIn K mainGlobals "sorted"=some none)
  (vL:PySem.W.nsIn K mainGlobals "sum"=some none)
  (ue:PySem.W.nsIn K mainGlobals "tuple"=some none)
  (zQ:PySem.W.nsIn K mainGlobals "zip"=some none)
  :∃fd:FuncData,(∀(s:Shared) (v:Value),BindsTo s fd ⟨[v],[]⟩ [("script",v)])/\∀base:Heap,K.In base->base.Ns mainGlobals mg->bx l.prog w K mg base bA 8 fa fd ["script"] (pW K):=by
 have e:=Mj.symm.trans (PySem.W.mg_of X G yu)
 cases e
 have F0:=bQ (st:=mV) l0 c0 k0
 have b0:=F0.binds (ps:=["p","b"]) fun _ _ _ _ _ _ us hl=>by obtain⟨_,_,rfl⟩:=ln2 hl;rfl
 have F1:=bQ (st:=mq) l1 c1 k1
 have b1:=F1.binds (ps:=["p","pairs","word"]) fun _ _ _ _ _ _ us hl=>by obtain⟨_,_,_,rfl⟩:=gv hl;rfl
 have F2:=bQ (st:=lA) l2 c2 k2
 have b2:=F2.binds (ps:=["word"]) fun _ _ _ _ _ _ us hl=>by obtain⟨_,rfl⟩:=jM hl;rfl
 have F3:=bQ (st:=mX) l3 c3 k3
 have b3:=F3.binds (ps:=["net"]) fun _ _ _ _ _ _ us hl=>by obtain⟨_,rfl⟩:=jM hl;rfl
 have F4:=bQ (st:=mH) l4 c4 k4
 have b4:=F4.binds (ps:=["p","rows","places"]) fun _ _ _ _ _ _ us hl=>by obtain⟨_,_,_,rfl⟩:=gv hl;rfl
 have F5:=bQ (st:=mj) l5 c5 k5
 have b5:=F5.binds (ps:=["rows","taken","place"]) fun _ _ _ _ _ _ us hl=>by obtain⟨_,_,_,rfl⟩:=gv hl;rfl
 have F6:=bQ (st:=kq) l6 c6 k6
 have b6:=F6.binds (ps:=["p","rows","k","place"]) fun _ _ _ _ _ _ us hl=>by obtain⟨_,_,_,_,rfl⟩:=lK hl;rfl
 have F7:=bQ (st:=kG) l7 c7 k7
 have b7:=F7.binds (ps:=["p","factor","row"]) fun _ _ _ _ _ _ us hl=>by obtain⟨_,_,_,rfl⟩:=gv hl;rfl
 have F8:=bQ (st:=kK) l8 c8 k8
 have b8:=F8.binds (ps:=["p","row","factor","own"]) fun _ _ _ _ _ _ us hl=>by obtain⟨_,_,_,_,rfl⟩:=lK hl;rfl
 have F9:=bQ (st:=lR) l9 c9 k9
 have b9:=F9.binds (ps:=["net","row","word"]) fun _ _ _ _ _ _ us hl=>by obtain⟨_,_,_,rfl⟩:=gv hl;rfl
 have xr:=bQ (st:=kZ) vM Ao Ab
 have Nm:=xr.binds (ps:=["net","word","place"]) fun _ _ _ _ _ _ us hl=>by obtain⟨_,_,_,rfl⟩:=gv hl;rfl
 have Ar:=bQ (st:=lz) zB vF wK
 have L8:=Ar.binds (ps:=["net","word"]) fun _ _ _ _ _ _ us hl=>by obtain⟨_,_,rfl⟩:=ln2 hl;rfl
 have Ag:=bQ (st:=lE) uU c12 tw
 have NJ:=Ag.binds (ps:=["script"]) fun _ _ _ _ _ _ us hl=>by obtain⟨_,rfl⟩:=jM hl;rfl
 have vj:=bQ (st:=mW) zw uY zH
 have Pk:=vj.binds (ps:=["bag","many"]) fun _ _ _ _ _ _ us hl=>by obtain⟨_,_,rfl⟩:=ln2 hl;rfl
 have ym:=bQ (st:=mU) vm xP wI
 have GH:=ym.binds (ps:=["bag","many"]) fun _ _ _ _ _ _ us hl=>by obtain⟨_,_,rfl⟩:=ln2 hl;rfl
 have xK:=bQ (st:=ki) vG v8 uy
 have Um:=xK.binds (ps:=["number"]) fun _ _ _ _ _ _ us hl=>by obtain⟨_,rfl⟩:=jM hl;rfl
 have tG:=bQ (st:=lJ) wR tO z5
 have Kf:=tG.binds (ps:=["bag"]) fun _ _ _ _ _ _ us hl=>by obtain⟨_,rfl⟩:=jM hl;rfl
 have xD:=bQ (st:=m9) zC uF z6
 have Sa:=xD.binds (ps:=["p","a","b"]) fun _ _ _ _ _ _ us hl=>by obtain⟨_,_,_,rfl⟩:=gv hl;rfl
 have yj:=bQ (st:=kX) vR tM zm
 have GU:=yj.binds (ps:=["p","pairs","word"]) fun _ _ _ _ _ _ us hl=>by obtain⟨_,_,_,rfl⟩:=gv hl;rfl
 have xR:=bQ (st:=jU) vd tY yL
 have MM:=xR.binds (ps:=["bag","p","n"]) fun _ _ _ _ _ _ us hl=>by obtain⟨_,_,_,rfl⟩:=gv hl;rfl
 have tB:=bQ (st:=jI) ua tN wV
 have Nq:=tB.binds (ps:=["bag","p","word","wide"]) fun _ _ _ _ _ _ us hl=>by obtain⟨_,_,_,_,rfl⟩:=lK hl;rfl
 have uR:=bQ (st:=jJ) Al wg zf
 have ME:=uR.binds (ps:=["bag","p","word","many","wide"]) fun _ _ _ _ _ _ us hl=>by obtain⟨_,_,_,_,_,rfl⟩:=DY hl;rfl
 have zd:=bQ (st:=kU) uh Am vh
 have KN:=zd.binds (ps:=["bag","word"]) fun _ _ _ _ _ _ us hl=>by obtain⟨_,_,rfl⟩:=ln2 hl;rfl
 have yO:=bQ (st:=kM) wD Ad xN
 have Wz:=yO.binds (ps:=["net"]) fun _ _ _ _ _ _ us hl=>by obtain⟨_,rfl⟩:=jM hl;rfl
 have vK:=bQ (st:=nA) wA vB yM
 have UE:=vK.binds (ps:=["found"]) fun _ _ _ _ _ _ us hl=>by obtain⟨_,rfl⟩:=jM hl;rfl
 have sU:=bQ (st:=lH) uS ve yJ
 have PD:=sU.binds (ps:=["bag","p","n","checks"]) fun _ _ _ _ _ _ us hl=>by obtain⟨_,_,_,_,rfl⟩:=lK hl;rfl
 have Aq:=bQ (st:=lV) yg yv sV
 have JA:=Aq.binds (ps:=["bag","net","many"]) fun _ _ _ _ _ _ us hl=>by obtain⟨_,_,_,rfl⟩:=gv hl;rfl
 have tK:=bQ (st:=kR) xJ tZ xV
 have VY:=tK.binds (ps:=["found","p","many"]) fun _ _ _ _ _ _ us hl=>by obtain⟨_,_,_,rfl⟩:=gv hl;rfl
 have uJ:=bQ (st:=nj) wc xM vY
 have Hj:=uJ.binds (ps:=["net","factors"]) fun _ _ _ _ _ _ us hl=>by obtain⟨_,_,rfl⟩:=ln2 hl;rfl
 have yE:=bQ (st:=lu) zK zq tS
 have HM:=yE.binds (ps:=["net","word"]) fun _ _ _ _ _ _ us hl=>by obtain⟨_,_,rfl⟩:=ln2 hl;rfl
 have tR:=bQ (st:=jz) xQ yI vZ
 have L5:=tR.binds (ps:=["net","word","place","found"]) fun _ _ _ _ _ _ us hl=>by obtain⟨_,_,_,_,rfl⟩:=lK hl;rfl
 have sW:=bQ (st:=jC) w5 yr zo
 have UC:=sW.binds (ps:=["net","word","found"]) fun _ _ _ _ _ _ us hl=>by obtain⟨_,_,_,rfl⟩:=gv hl;rfl
 have uV:=bQ (st:=lN) xG uZ yZ
 have Mw:=uV.binds (ps:=["net","word"]) fun _ _ _ _ _ _ us hl=>by obtain⟨_,_,rfl⟩:=ln2 hl;rfl
 have ug:=bQ (st:=mJ) vE yt yG
 have Lv:=ug.binds (ps:=["word","place","letter"]) fun _ _ _ _ _ _ us hl=>by obtain⟨_,_,_,rfl⟩:=gv hl;rfl
 have ud:=bQ (st:=lW) xZ yk yR
 have J5:=ud.binds (ps:=["bag","net","word","place","can"]) fun _ _ _ _ _ _ us hl=>by obtain⟨_,_,_,_,_,rfl⟩:=DY hl;rfl
 have P1:=bQ (st:=iN) zl xB yW
 have zG:=PySem.W.mg_none_of X G wY
 have gb:=PySem.W.mg_none_of X G uH
 have zg:=PySem.W.mg_none_of X G xY
 have fR:=PySem.W.mg_none_of X G wB
 have jc:=PySem.W.mg_none_of X G u7
 have gG:=PySem.W.mg_none_of X G sY
 have bT:=PySem.W.mg_none_of X G yU
 have fc:=PySem.W.mg_none_of X G w4
 have tP:=PySem.W.mg_none_of X G xT
 have bJ:=PySem.W.mg_none_of X G za
 have ur:=PySem.W.mg_none_of X G zY
 have vU:=PySem.W.mg_none_of X G wQ
 have jk:=PySem.W.mg_none_of X G vL
 have mZ:=PySem.W.mg_none_of X G ue
 have vS:=PySem.W.mg_none_of X G zQ
 refine⟨PySem.W.fnOf "law" "law" (bG iN) (bC iN) (az iN) .none Dd Et B8 Cz xA Fo,fun s v=> .of_eq rfl,fun base _ _=>?_⟩
 have xF:=Callee.mk' F7 (Sd (P:=l.prog) (w:=w) (base:=base) F7) b7 (PySem.W.mg_of X G a7)
 have BR:=Callee.mk' F0 (Wt (P:=l.prog) (w:=w) (base:=base) F0 xF) b0 (PySem.W.mg_of X G a0)
 have N5:=Callee.mk' F1 (Uw (P:=l.prog) (w:=w) (base:=base) F1) b1 (PySem.W.mg_of X G a1)
 have FT:=Callee.mk' F2 (Wh (P:=l.prog) (w:=w) (base:=base) F2 fR) b2 (PySem.W.mg_of X G a2)
 have Ec:=Callee.mk' F3 (Lx (P:=l.prog) (w:=w) (base:=base) F3 fR bT) b3 (PySem.W.mg_of X G a3)
 have IZ:=Callee.mk' F5 (O0 (P:=l.prog) (w:=w) (base:=base) F5 fR) b5 (PySem.W.mg_of X G a5)
 have Kw:=Callee.mk' F8 (Ij (P:=l.prog) (w:=w) (base:=base) F8 vS) b8 (PySem.W.mg_of X G a8)
 have I0:=Callee.mk' F6 (Ue (P:=l.prog) (w:=w) (base:=base) F6 xF BR Kw) b6 (PySem.W.mg_of X G a6)
 have E5:=Callee.mk' F4 (N3 (P:=l.prog) (w:=w) (base:=base) F4 IZ I0) b4 (PySem.W.mg_of X G a4)
 have DB:=Callee.mk' F9 (Qy (P:=l.prog) (w:=w) (base:=base) F9 N5 fc fR) b9 (PySem.W.mg_of X G a9)
 have Cm:=Callee.mk' xr (Lq (P:=l.prog) (w:=w) (base:=base) xr E5 Ec FT DB) Nm (PySem.W.mg_of X G ze)
 have Lg:=Callee.mk' Ar (UY (P:=l.prog) (w:=w) (base:=base) Ar E5 Ec FT DB xF BR fR) L8 (PySem.W.mg_of X G yT)
 have QM:=Callee.mk' Ag (Wy (P:=l.prog) (w:=w) (base:=base) Ag zG) NJ (PySem.W.mg_of X G xU)
 have K7:=Callee.mk' vj (Jc (P:=l.prog) (w:=w) (base:=base) vj bJ) Pk (PySem.W.mg_of X G wW)
 have jX:=Callee.mk' ym (Ho (P:=l.prog) (w:=w) (base:=base) ym K7 bT) GH (PySem.W.mg_of X G yP)
 have VW:=Callee.mk' xK (JG (P:=l.prog) (w:=w) (base:=base) xK bJ) Um (PySem.W.mg_of X G yd)
 have GJ:=Callee.mk' tG (JP (P:=l.prog) (w:=w) (base:=base) tG jX VW) Kf (PySem.W.mg_of X G xg)
 have JJ:=Callee.mk' xD (Sz (P:=l.prog) (w:=w) (base:=base) xD) Sa (PySem.W.mg_of X G uQ)
 have Fe:=Callee.mk' yj (SX (P:=l.prog) (w:=w) (base:=base) yj jk) GU (PySem.W.mg_of X G yo)
 have R9:=Callee.mk' xR (Jw (P:=l.prog) (w:=w) (base:=base) xR jX bJ jc tP) MM (PySem.W.mg_of X G yz)
 have S1:=Callee.mk' tB (Kz (P:=l.prog) (w:=w) (base:=base) tB Fe jX JJ bT vU ur bJ) Nq (PySem.W.mg_of X G wm)
 have VO:=Callee.mk' uR (O8 (P:=l.prog) (w:=w) (base:=base) uR S1 bT bJ) ME (PySem.W.mg_of X G yh)
 have V7:=Callee.mk' zd (TL (P:=l.prog) (w:=w) (base:=base) zd jX) KN (PySem.W.mg_of X G um)
 have rm:=Callee.mk' yO (Rv (P:=l.prog) (w:=w) (base:=base) yO fc) Wz (PySem.W.mg_of X G tT)
 have QY:=Callee.mk' vK (G4 (P:=l.prog) (w:=w) (base:=base) vK gG jc zg) UE (PySem.W.mg_of X G Ah)
 have Me:=Callee.mk' sU (Se (P:=l.prog) (w:=w) (base:=base) sU jX bJ bT) PD (PySem.W.mg_of X G yC)
 have KO:=Callee.mk' Aq (Ig (P:=l.prog) (w:=w) (base:=base) Aq rm Me jX bJ bT) JA (PySem.W.mg_of X G Ac)
 have DM:=Callee.mk' tK (JO (P:=l.prog) (w:=w) (base:=base) tK QY gb gG fc bT) VY (PySem.W.mg_of X G u6)
 have Ex:=Callee.mk' uJ (Pf (P:=l.prog) (w:=w) (base:=base) uJ bJ bT) Hj (PySem.W.mg_of X G u5)
 have Gb:=Callee.mk' yE (Ql (P:=l.prog) (w:=w) (base:=base) yE Fe gb) HM (PySem.W.mg_of X G v5)
 have Oa:=Callee.mk' tR (Ni (P:=l.prog) (w:=w) (base:=base) tR Ex DM Gb bT gb gG mZ jk jc bJ) L5 (PySem.W.mg_of X G zy)
 have Ng:=Callee.mk' sW (U4 (P:=l.prog) (w:=w) (base:=base) sW Ex DM Gb gb gG mZ bT jk bJ) UC (PySem.W.mg_of X G sP)
 have Di:=Callee.mk' uV (RX (P:=l.prog) (w:=w) (base:=base) uV Lg rm Ng fc) Mw (PySem.W.mg_of X G a32)
 have R8:=Callee.mk' ug (Ro (P:=l.prog) (w:=w) (base:=base) ug) Lv (PySem.W.mg_of X G zZ)
 have JE:=Callee.mk' ud (IM (P:=l.prog) (w:=w) (base:=base) ud jX Cm Di rm Oa R8 fc) J5 (PySem.W.mg_of X G uq)
 exact Lz P1 QM jX GJ R9 KO V7 Di VO Cm JE rm fc bJ
theorem walk{l:PySem.W.OpenLaw}{q:Program}{loose:List Str}{XP:(Str->Option Value)->Heap->Prop}{YP:World->Heap->Prop}{d:DefRec}{K:Params->PySem.W.Frag}(hn:l.most=some 63)(hdf:d.params.defaults=[])
  (hY:∀(w:World) (h:Heap),YP w h->(K w.params).In h)
  (F : ∀ (w : World) (mg : Str -> Option Value) (fa : Addr) (h : Heap), (K w.params).In h -> h.Ns mainGlobals mg -> mg d.name = some (.ref fa) ->
   ∃fd:FuncData,(∀(s:Shared) (u:Value),BindsTo s fd ⟨[u],[]⟩ [("script",u)])/\∀base:Heap,(K w.params).In base->base.Ns mainGlobals mg->bx l.prog w (K w.params) mg base bA 8 fa fd ["script"] (pW (K w.params))):
  PySem.W.WalkO q loose XP YP l.row.toRowW d [] (fun f vs=>PySem.call f vs):=
 L2.Ka (n:=63) (k:=8) (x:="script") (CX:=fun _=>bA) (sp:=fun w=>pW (K w.params)) hn (by decide) hdf ⟨rfl,by decide,by decide⟩ hY F (fun _ _ a ns hl _ hS=>⟨a,ns,rfl,hS,hl,fun _=>rfl⟩) fun _ _ _ _ _ z=>z
def view:Program:={PySem.Challenge.pw_fewchecks_k47_whole_settled_and_filled with main:={PySem.Challenge.pw_fewchecks_k47_whole_settled_and_filled.main with body:=[top 1,top 2,top 4,top 6,top 7,top 8,top 9,top 10,top 11,top 12,top 13,top 14,top 16,top 17,top 18,top 19,top 20,top 21,top 22,top 23,top 24,top 25,top 26,top 27,top 28,top 29,top 30,top 31,top 32,top 33,top 34,top 35,top 36,top 37,top 38,top 39]}}
end K47
open PySem PySem.W PyProof.Rows
local macro_rules| `(tactic|o_head $H:term)=> `(tactic|
 (refine holds_open (q:=K47.view) (loose:=[])
    (Xt:=fun s=>xlAt K47.view [] s && recOk [] s) (XP:=XL K47.view []) (Yf:=Hook.obs $H)
    (Ya:=Hook.val $H) (YP:=Hook.says $H) (N:=100000) ?hl (Hook.of $H)
    (Hook.keeps $H) (fun s e=>xl_of s (Bool.and_eq_true_iff.mp e).1) XL.keeps
    rfl rfl rfl (fun s e=>recFacts_of (Bool.and_eq_true_iff.mp e).2) rfl
    (by assumption) (by decide+kernel) ⟨rfl,rfl,rfl,rfl,rfl,by decide+kernel⟩ ?hw ?hc;(case hl=>exact fun w=>by kernel_rfl)))
set_option maxRecDepth 100000 in
set_option maxHeartbeats 0 in
theorem PySem.Challenge.cw_fewchecks_k47_whole_settled_and_filled_holds : PySem.Challenge.rw_fewchecks_k47_whole_settled_and_filled.Holds := by
 w_on
 refine holds_law (by decide+kernel) fun said=>?_
 k_head
 (case hw=>w_witness2)
 k_fill
 refine K47.walk (l:=PySem.Challenge.rw_fewchecks_k47_whole_settled_and_filled) rfl rfl (fun w h Y=>PySem.W.kIn_of Y) ?F
 case F=>
  intro w mg fa h KX G hmg
  refine' K47.all_mk KX G hmg ?a0 ?l0 ?c0 ?k0 ?a1 ?l1 ?c1 ?k1 ?a2 ?l2 ?c2 ?k2 ?a3 ?l3 ?c3 ?k3 ?a4 ?l4 ?c4 ?k4 ?a5 ?l5 ?c5 ?k5 ?a6 ?l6 ?c6 ?k6 ?a7 ?l7 ?c7 ?k7 ?a8 ?l8 ?c8 ?k8 ?a9 ?l9 ?c9 ?k9 ?ze ?vM ?Ao ?Ab ?yT ?zB ?vF ?wK ?xU ?uU ?c12 ?tw ?wW ?zw ?uY ?zH ?yP ?vm ?xP ?wI ?yd ?vG ?v8 ?uy ?xg ?wR ?tO ?z5 ?uQ ?zC ?uF ?z6 ?yo ?vR ?tM ?zm ?yz ?vd ?tY ?yL ?wm ?ua ?tN ?wV ?yh ?Al ?wg ?zf ?um ?uh ?Am ?vh ?tT ?wD ?Ad ?xN ?Ah ?wA ?vB ?yM ?yC ?uS ?ve ?yJ ?Ac ?yg ?yv ?sV ?u6 ?xJ ?tZ ?xV ?u5 ?wc ?xM ?vY ?v5 ?zK ?zq ?tS ?zy ?xQ ?yI ?vZ ?sP ?w5 ?yr ?zo ?a32 ?xG ?uZ ?yZ ?zZ ?vE ?yt ?yG ?uq ?xZ ?yk ?yR ?yu ?zl ?xB ?yW ?wY ?uH ?xY ?wB ?u7 ?sY ?yU ?w4 ?xT ?za ?zY ?wQ ?vL ?ue ?zQ
  (case a0=>k_is)
  (case l0=>k_is)
  (case c0=>k_is)
  (case k0=>k_is)
  (case a1=>k_is)
  (case l1=>k_is)
  (case c1=>k_is)
  (case k1=>k_is)
  (case a2=>k_is)
  (case l2=>k_is)
  (case c2=>k_is)
  (case k2=>k_is)
  (case a3=>k_is)
  (case l3=>k_is)
  (case c3=>k_is)
  (case k3=>k_is)
  (case a4=>k_is)
  (case l4=>k_is)
  (case c4=>k_is)
  (case k4=>k_is)
  (case a5=>k_is)
  (case l5=>k_is)
  (case c5=>k_is)
  (case k5=>k_is)
  (case a6=>k_is)
  (case l6=>k_is)
  (case c6=>k_is)
  (case k6=>k_is)
  (case a7=>k_is)
  (case l7=>k_is)
  (case c7=>k_is)
  (case k7=>k_is)
  (case a8=>k_is)
  (case l8=>k_is)
  (case c8=>k_is)
  (case k8=>k_is)
  (case a9=>k_is)
  (case l9=>k_is)
  (case c9=>k_is)
  (case k9=>k_is)
  (case ze=>k_is)
  (case vM=>k_is)
  (case Ao=>k_is)
  (case Ab=>k_is)
  (case yT=>k_is)
  (case zB=>k_is)
  (case vF=>k_is)
  (case wK=>k_is)
  (case xU=>k_is)
  (case uU=>k_is)
  (case c12=>k_is)
  (case tw=>k_is)
  (case wW=>k_is)
  (case zw=>k_is)
  (case uY=>k_is)
  (case zH=>k_is)
  (case yP=>k_is)
  (case vm=>k_is)
  (case xP=>k_is)
  (case wI=>k_is)
  (case yd=>k_is)
  (case vG=>k_is)
  (case v8=>k_is)
  (case uy=>k_is)
  (case xg=>k_is)
  (case wR=>k_is)
  (case tO=>k_is)
  (case z5=>k_is)
  (case uQ=>k_is)
  (case zC=>k_is)
  (case uF=>k_is)
  (case z6=>k_is)
  (case yo=>k_is)
  (case vR=>k_is)
  (case tM=>k_is)
  (case zm=>k_is)
  (case yz=>k_is)
  (case vd=>k_is)
  (case tY=>k_is)
  (case yL=>k_is)
  (case wm=>k_is)
  (case ua=>k_is)
  (case tN=>k_is)
  (case wV=>k_is)
  (case yh=>k_is)
  (case Al=>k_is)
  (case wg=>k_is)
  (case zf=>k_is)
  (case um=>k_is)
  (case uh=>k_is)
  (case Am=>k_is)
  (case vh=>k_is)
  (case tT=>k_is)
  (case wD=>k_is)
  (case Ad=>k_is)
  (case xN=>k_is)
  (case Ah=>k_is)
  (case wA=>k_is)
  (case vB=>k_is)
  (case yM=>k_is)
  (case yC=>k_is)
  (case uS=>k_is)
  (case ve=>k_is)
  (case yJ=>k_is)
  (case Ac=>k_is)
  (case yg=>k_is)
  (case yv=>k_is)
  (case sV=>k_is)
  (case u6=>k_is)
  (case xJ=>k_is)
  (case tZ=>k_is)
  (case xV=>k_is)
  (case u5=>k_is)
  (case wc=>k_is)
  (case xM=>k_is)
  (case vY=>k_is)
  (case v5=>k_is)
  (case zK=>k_is)
  (case zq=>k_is)
  (case tS=>k_is)
  (case zy=>k_is)
  (case xQ=>k_is)
  (case yI=>k_is)
  (case vZ=>k_is)
  (case sP=>k_is)
  (case w5=>k_is)
  (case yr=>k_is)
  (case zo=>k_is)
  (case a32=>k_is)
  (case xG=>k_is)
  (case uZ=>k_is)
  (case yZ=>k_is)
  (case zZ=>k_is)
  (case vE=>k_is)
  (case yt=>k_is)
  (case yG=>k_is)
  (case uq=>k_is)
  (case xZ=>k_is)
  (case yk=>k_is)
  (case yR=>k_is)
  (case yu=>k_is)
  (case zl=>k_is)
  (case xB=>k_is)
  (case yW=>k_is)
  (case wY=>k_is)
  (case uH=>k_is)
  (case xY=>k_is)
  (case wB=>k_is)
  (case u7=>k_is)
  (case sY=>k_is)
  (case yU=>k_is)
  (case w4=>k_is)
  (case xT=>k_is)
  (case za=>k_is)
  (case zY=>k_is)
  (case wQ=>k_is)
  (case vL=>k_is)
  (case ue=>k_is)
  (case zQ=>k_is)
