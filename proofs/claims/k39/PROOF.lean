import PyProof.Rows.All
import Wide.All
import OpenK.AllK
import Wide.FinOn
import Lean
import PyProof.EqAt
import PyProof.EqKinds
import PyProof.TupleCall
import PySem.Challenge.RW_fewchecks_k39_whole_two_true_words
set_option compiler.extract_closed false
set_option Elab.async false
set_option linter.all false
set_option maxRecDepth 100000
namespace L2
open PySem PySem.Spec PyProof.Rows
abbrev Key:=Sum Int Str
def mZ:Key->Value->Bool
 | .inl k,v=>Value.isInt k v
 | .inr x,v=>Value.isStrOf x v
def KR(w:World):Key->Int
 | .inl k=>hashInt k
 | .inr x=>hashStr w x
theorem jz:∀{k:Key} {v:Value},mZ k v=true->(∃i t,k=Sum.inl i/\v=Value.int i t)\/(∃x t,k=Sum.inr x/\v=Value.str x t)
  | .inl i, v, h => by
    obtain⟨t,e⟩:=Value.isInt_shape (k:=i) (v:=v) h
    exact .inl ⟨i,t,rfl,e⟩
  | .inr x, v, h => by
    obtain⟨t,e⟩:=Value.isStrOf_shape (x:=x) (v:=v) h
    exact .inr ⟨x,t,rfl,e⟩
theorem VB(i:Int)(t:Tok):mZ (.inl i) (.int i t)=true:=by simp[mZ,Value.isInt]
theorem NZ(x:Str)(t:Tok):mZ (.inr x) (.str x t)=true:=by simp[mZ,Value.isStrOf]
theorem Qu(a b:Int):decide ((Sum.inl a:Key)=Sum.inl b)=(a==b):=by
 by_cases e:a=b
 ·subst e;simp
 ·have h:¬(Sum.inl a:Key)=Sum.inl b:=fun q=>e (Sum.inl.inj q)
  rw[decide_eq_false h]
  exact(beq_eq_false_iff_ne.mpr e).symm
theorem Nr(a b:Str):decide ((Sum.inr a:Key)=Sum.inr b)=decide (a=b):=by
 by_cases e:a=b
 ·subst e;simp
 ·have h:¬(Sum.inr a:Key)=Sum.inr b:=fun q=>e (Sum.inr.inj q)
  rw[decide_eq_false h,decide_eq_false e]
theorem ZD(a:Int)(b:Str):decide ((Sum.inl a:Key)=Sum.inr b)=false:=decide_eq_false (fun q=>nomatch q)
theorem QF(a:Str)(b:Int):decide ((Sum.inr a:Key)=Sum.inl b)=false:=decide_eq_false (fun q=>nomatch q)
def cT(prog:Program)(w:World):PySem.KeyKind prog w Key where
 is:=mZ
 hash:=KR w
 inj:=fun v a b ha hb=>by
  rcases jz ha with ⟨i,t,rfl,rfl⟩|⟨x,t,rfl,rfl⟩
  ·rcases jz hb with ⟨j,u,rfl,e⟩|⟨y,u,rfl,e⟩
   ·injection e with e1 _;rw[e1]
   ·exact nomatch e
  ·rcases jz hb with ⟨j,u,rfl,e⟩|⟨y,u,rfl,e⟩
   ·exact nomatch e
   ·injection e with e1 _;rw[e1]
 byValue:=fun k v h=>by
  rcases jz h with ⟨i,t,rfl,rfl⟩|⟨x,t,rfl,rfl⟩<;>rfl
 pyHash:=fun hv h=>by
  rcases jz hv with ⟨i,t,rfl,rfl⟩|⟨x,t,rfl,rfl⟩
  ·exact wpAny_pyHash_int h
  ·exact wpAny_pyHash_str h
 eqBool:=fun hu hv h=>by
  rcases jz hu with ⟨i,t,rfl,rfl⟩|⟨x,t,rfl,rfl⟩
  ·rcases jz hv with ⟨j,u,rfl,rfl⟩|⟨y,u,rfl,rfl⟩
   ·rw[Qu] at h;exact wpAny_eqBool_int h
   ·rw[ZD] at h;exact SeqAt.EqAt.int_str i t y u _ _ _ _ h
  ·rcases jz hv with ⟨j,u,rfl,rfl⟩|⟨y,u,rfl,rfl⟩
   ·rw[QF] at h;exact SeqAt.EqAt.str_int x t j u _ _ _ _ h
   ·rw[Nr] at h;exact wpAny_eqBool_str h
 «strs» :=fun k x t v h=>by
  rcases jz h with ⟨i,u,rfl,e⟩|⟨y,u,rfl,e⟩
  ·exact nomatch e
  ·injection e with e1 _
   subst e1
   cases v<;>rfl
theorem TN(prog:Program)(w:World)(i:Int)(t:Tok):(cT prog w).is (.inl i) (.int i t)=true:=VB i t
theorem J4(prog:Program)(w:World)(x:Str)(t:Tok):(cT prog w).is (.inr x) (.str x t)=true:=NZ x t
inductive V where
 |aE|bl (b:Bool)|int (i:Int)|str (x:Str)|gn (b:Array UInt8)|ji (b:UInt64)|ref (a:Addr)|ty (n:String)
 deriving DecidableEq
def RelV:V->Value->Prop
 | .aE,u=>u=Value.none
 | .bl b,u=>u=Value.bool b
 | .int i,u=>∃t,u=Value.int i t
 | .str x,u=>∃t,u=Value.str x t
 | .gn b,u=>∃t,u=Value.bytes b t
 | .ji b,u=>∃t,u=Value.float b t
 | .ref a,u=>u=Value.ref a
 | .ty n,u=>u=Value.type n
abbrev Vals:List V->List Value->Prop:=Paired RelV
theorem Vals.length{xs:List V}{us:List Value}(r:Vals xs us):xs.length=us.length:=Paired.length r
theorem Vals.get:∀{xs:List V} {us:List Value} {i:Nat} {x:V},Vals xs us->xs[i]?=some x->∃u,us[i]?=some u/\RelV x u
  |_,_,_,_, .nil,e=>by simp at e
  |_,_,0,_, .cons r _,e=>by simp at e;subst e;exact⟨_,rfl,r⟩
  | _, _, i + 1, x, .cons _ t, e => by
    obtain⟨u,h1,h2⟩:=Vals.get (i:=i) (x:=x) t (by simpa using e)
    exact⟨u,by simpa using h1,h2⟩
theorem Vals.set{x:V}{u:Value}(r:RelV x u):∀{xs:List V} {us:List Value} (i:Nat),Vals xs us->Vals (xs.set i x) (us.set i u)
 |_,_,_, .nil=> .nil
 |_,_,0, .cons _ t=> .cons r t
 |_,_,i+1, .cons q t=> .cons q (Vals.set r i t)
theorem Vals.append:∀{xs ys:List V} {us ws:List Value},Vals xs us->Vals ys ws->Vals (xs++ys) (us++ws)
 |_,_,_,_, .nil,s=>s
 |_,_,_,_, .cons r t,s=> .cons r (Vals.append t s)
theorem Vals.take:∀{xs:List V} {us:List Value} (n:Nat),Vals xs us->Vals (xs.take n) (us.take n)
 |_,_,0,_=> .nil
 |_,_,_+1, .nil=> .nil
 |_,_,n+1, .cons r t=> .cons r (Vals.take n t)
theorem Vals.drop:∀{xs:List V} {us:List Value} (n:Nat),Vals xs us->Vals (xs.drop n) (us.drop n)
 |_,_,0,r=>r
 |_,_,_+1, .nil=> .nil
 |_,_,n+1, .cons _ t=>Vals.drop n t
def eK:Option V->Option Value->Prop
 |some v,some u=>RelV v u
 |none,none=>True
 |_,_=>False
def KV{κ:Type}:List (κ×V)->List (κ×Value)->Prop:=Paired fun(p:κ×V) (q:κ×Value)=>p.1=q.1/\RelV p.2 q.2
def kV:Key->V
 | .inl i=> .int i
 | .inr x=> .str x
inductive HO where
  |lst (xs:List V)
  |tup (xs:List V)
  |dK (kvs:List (Key×V))|dT (kvs:List (List Key×V))
  |set (S:Int->Bool) (n:Nat)
  |ins (C dx:Addr) (fs:List (Str×V))
  |own (x:Addr)
  |xd (fs:List (Str×V))
  |met (f x:Addr)
  |jT (lo hi:Int)
  |fB (o:Obj) (u:HO)
  |lI (ps:Array Value)
  |ext (φ:Heap->Prop)
abbrev Hp:=Addr->Option HO
def upd(H:Hp)(a:Addr)(o:HO):Hp:=fun b=>if b=a then some o else H b
theorem aU{H:Hp}{a:Addr}{o:HO}:upd H a o a=some o:=by unfold upd;rw[if_pos rfl]
theorem aN{H:Hp}{a b:Addr}{o:HO}(h:b≠a):upd H a o b=H b:=by unfold upd;rw[if_neg h]
theorem xV{H:Hp}{a:Addr}{o u:HO}:upd (upd H a o) a u=upd H a u:=by
 funext b;unfold upd;split<;>rfl
theorem fO{H:Hp}{a b:Addr}{o:HO}(h:H a=some o)(h':H b=none):a≠b:=by
 intro e;subst e;rw[h] at h';cases h'
section
variable(P:Program)(w:World)
def bK(H:Hp)(h:Heap)(a:Addr):HO->Prop
 | .lst xs=>xs.length<=sizeLine/\∃(its:List Value) (n:Nat),Vals xs its/\h.get? a=some {cls:= .type "list",data:= .seq its.toArray n}
 | .tup xs=>xs.length<=sizeLine/\∃its:List Value,Vals xs its/\IsTup h a its.toArray
 | .dK kvs=>kvs.length<=sizeLine/\(a==sysModules)=false/\∃vs,KV kvs vs/\h.DictOf (cT P w) a vs
 | .dT kvs => kvs.length <= sizeLine /\ (a == sysModules) = false /\ ∃ xs : List (List Key × Addr × Value),
   Paired (fun(p:List Key×V) (q:List Key×Addr×Value)=>p.1=q.1/\H q.2.1=some (.tup (p.1.map kV))/\RelV p.2 q.2.2) kvs xs/\
   ∃o es ep,h.get? a=some o/\o.ExactDict/\o.data= .dict es ep/\es.toList=xs.map (entryOfKey (tupleKind (cT P w)))/\(xs.map (·.1)).Nodup
 | .set S n=>h.SetOf (intKind P w) a S n
 | .ins C dx fs => H dx = some (.own a) /\ fs.length <= 1000 /\ dx ≠ a /\ h.get? a = some (PySem.W.instObj C dx) /\
   ∃mA,h.Ns1 dx mA/\(∀f,eK (fs.lookup f) (mA f))/\PySem.Within mA (fs.map (·.1))
 | .own _=>∃o,h.get? a=some o
 | .xd fs=>∃mA,h.Ns1 a mA/\∀f,eK (fs.lookup f) (mA f)
 | .jT lo hi=>∃t u v,h.get? a=some {cls:= .type "range",data:= .fields #[.int lo t, .int hi u, .int 1 v]}
 | .fB o u=>h.get? a=some o/\bK H h a u
 | .lI ps=>h.get? a=some {cls:= .none,data:= .fields ps}
 | .met f x=>h.get? a=some (PySem.W.methodObj (.ref f) (.ref x))
 | .ext φ=>φ h/\(∃o,h.get? a=some o)/\∀h1 h2:Heap,φ h1->(∀o,h1.get? a=some o->h2.get? a=some o)->φ h2
def cK(H:Hp)(h:Heap):Prop:=∀a o,H a=some o->bK P w H h a o
end
section
variable{P:Program}{w:World}{H H':Hp}{h h':Heap}{a:Addr}{o:HO}
theorem bK.lt(x:bK P w H h a o):a<h.objs.size:=by
 cases o with
 |lst xs=>obtain⟨_,_,_,_,e⟩:=x;exact Heap.lt_size e
 |tup xs=>obtain⟨_,_,_,p⟩:=x;exact p.lt
 |dK kvs=>obtain⟨_,_,_,_,o,_,_,e,_⟩:=x;exact Heap.lt_size e
 |dT kvs=>obtain⟨_,_,_,_,o,_,_,e,_⟩:=x;exact Heap.lt_size e
 |set S n=>obtain⟨o,_,_,_,e,_⟩:=x;exact Heap.lt_size e
 |ins C dx fs=>obtain⟨_,_,_,e,_⟩:=x;exact Heap.lt_size e
 |own y=>obtain⟨_,e⟩:=x;exact Heap.lt_size e
 |xd fs=>obtain⟨_,⟨_,_,_,e,_⟩,_⟩:=x;exact Heap.lt_size e
 |jT lo hi=>obtain⟨_,_,_,e⟩:=x;exact Heap.lt_size e
 |fB ob u=>obtain⟨e,_⟩:=x;exact Heap.lt_size e
 |lI ps=>exact Heap.lt_size (show h.get? a=some _ from x)
 |met f y=>exact Heap.lt_size (show h.get? a=some _ from x)
 |ext φ=>obtain⟨_,⟨_,e⟩,_⟩:=x;exact Heap.lt_size e
theorem Paired.E2{α β:Type}{F G:α->β->Prop}:∀{l₁:List α} {l₂:List β},Paired F l₁ l₂->(∀a b,F a b->G a b)->Paired G l₁ l₂
 |_,_, .nil,_=> .nil
 |_,_, .cons r t,f=> .cons (f _ _ r) (Paired.E2 t f)
theorem bK.stay(x:bK P w H h a o)(k:∀b u,(b=a\/H b=some (.own a))->h.get? b=some u->h'.get? b=some u)
    (ho:∀b,H b=some (.own a)->H' b=some (.own a)) (ht:∀b xs,H b=some (.tup xs)->H' b=some (.tup xs)):bK P w H' h' a o:=by
  induction o with
  |lst xs=>obtain⟨z,its,n,r,e⟩:=x;exact⟨z,its,n,r,k _ _ (.inl rfl) e⟩
  |tup xs=>obtain⟨z,its,r,ob,e,c⟩:=x;exact⟨z,its,r,ob,k _ _ (.inl rfl) e,c⟩
  |dK kvs=>obtain⟨z,y,vs,r,ob,es,ep,e,c⟩:=x;exact⟨z,y,vs,r,ob,es,ep,k _ _ (.inl rfl) e,c⟩
  | dT kvs =>
    obtain⟨z,y,xs,r,ob,es,ep,e,c⟩:=x
    exact⟨z,y,xs,Paired.E2 r fun p q z=>⟨z.1,ht _ _ z.2.1,z.2.2⟩,ob,es,ep,k _ _ (.inl rfl) e,c⟩
  |set S n=>obtain⟨ob,es,ep,t,e,c⟩:=x;exact⟨ob,es,ep,t,k _ _ (.inl rfl) e,c⟩
  | ins C dx fs =>
    obtain⟨d,z,ne,e,mA,⟨od,es,ep,e2,c⟩,r⟩:=x
    exact⟨ho _ d,z,ne,k _ _ (.inl rfl) e,mA,⟨od,es,ep,k _ _ (.inr d) e2,c⟩,r⟩
  |own y=>obtain⟨ob,e⟩:=x;exact⟨ob,k _ _ (.inl rfl) e⟩
  |xd fs=>obtain⟨mA,⟨od,es,ep,e,c⟩,r⟩:=x;exact⟨mA,⟨od,es,ep,k _ _ (.inl rfl) e,c⟩,r⟩
  |jT lo hi=>obtain⟨t,u,v,e⟩:=x;exact⟨t,u,v,k _ _ (.inl rfl) e⟩
  |fB ob u ih=>obtain⟨e,q⟩:=x;exact⟨k _ _ (.inl rfl) e,ih q⟩
  | lI ps =>
    have e:h.get? a=some {cls:= .none,data:= .fields ps}:=x
    show h'.get? a=some {cls:= .none,data:= .fields ps}
    exact k a _ (.inl rfl) e
  | met f y =>
    have e:h.get? a=some (PySem.W.methodObj (.ref f) (.ref y)):=x
    show h'.get? a=some (PySem.W.methodObj (.ref f) (.ref y))
    exact k a _ (.inl rfl) e
  |ext φ=>obtain⟨p,⟨o,e⟩,st⟩:=x;exact⟨st _ _ p fun o q=>k _ _ (.inl rfl) q,⟨o,k _ _ (.inl rfl) e⟩,st⟩
theorem cK.lt(x:cK P w H h)(e:H a=some o):a<h.objs.size:=(x a o e).lt
theorem cK.fresh(x:cK P w H h)(e:h.objs.size<=a):H a=none:=by
 cases q:H a with
 |none=>rfl
 |some u=>exact absurd (Nat.lt_of_lt_of_le (x.lt q) e) (Nat.lt_irrefl _)
theorem cK.kept(x:cK P w H h)(k:∀b u,h.get? b=some u->h'.get? b=some u):cK P w H h':=fun a o e=>
 (x a o e).stay (fun b u _ q=>k b u q) (fun _ q=>q) fun _ _ q=>q
theorem cK.laid(x:cK P w H h)(k:∀b u,h.get? b=some u->h'.get? b=some u)(hp:h.objs.size<=a)(new:bK P w (upd H a o) h' a o):cK P w (upd H a o) h':=fun b u e=>by
 have hn:=x.fresh hp
 by_cases hb:b=a
 ·subst hb;rw[aU] at e;cases e;exact new
 ·rw[aN hb] at e
  exact(x b u e).stay (fun c v _ q=>k c v q) (fun c q=>by rw[aN (fO q hn)];exact q) fun c xs q=>by rw[aN (fO q hn)];exact q
end
def Rd(H:Hp)(a:Addr)(u:HO):Prop:=H a=some u\/∃o,H a=some (.fB o u)
theorem Rd.ok{P:Program}{w:World}{H:Hp}{h:Heap}{a:Addr}{u:HO}(r:Rd H a u)(x:cK P w H h):bK P w H h a u:=by
 rcases r with r|⟨o,r⟩
 ·exact x a u r
 ·obtain⟨_,q⟩:=x a _ r
  exact q
def pW:Option HO->Prop
 |some (.lst _)=>True
 |some (.dK _)=>True
 |some (.dT _)=>True
 |some (.set _ _)=>True
 |some (.ins _ _ _)=>True
 |some (.ext _)=>True
 |_=>False
section
variable{P:Program}{w:World}{H:Hp}{h h':Heap}{x e:Addr}{o':HO}
theorem cK.write(ok:cK P w H h)(mu:pW (H x))(he:e=x\/H e=some (.own x))(k:∀b u,b≠e->h.get? b=some u->h'.get? b=some u)(nB:∃u,h'.get? e=some u)
  (new:bK P w (upd H x o') h' x o'):cK P w (upd H x o') h':=fun b u q=>by
 have EM:∀c y,H c=some (.own y)->c≠x:=fun c y r z=>by subst z;rw[r] at mu;exact mu
 have LF:∀c xs,H c=some (.tup xs)->c≠x:=fun c xs r z=>by subst z;rw[r] at mu;exact mu
 by_cases hb:b=x
 ·subst hb;rw[aU] at q;cases q;exact new
 ·rw[aN hb] at q
  by_cases ly:b=e
  ·have q':H b=some (.own x):=by
    rcases he with z|z
    ·exact absurd (ly.trans z) hb
    ·rw[ly];exact z
   rw[q] at q';cases q'
   obtain⟨v,hv⟩:=nB
   exact⟨v,by rw[ly];exact hv⟩
  ·refine(ok b u q).stay (fun c v hc r=>k c v ?_ r) (fun c r=>by rw[aN (EM c b r)];exact r) fun c xs r=>by rw[aN (LF c xs r)];exact r
   rcases hc with rfl|hc
   ·exact ly
   ·rintro rfl
    rcases he with z|z
    ·exact EM c b hc z
    ·rw[hc] at z;cases z;exact hb rfl
end
structure Un(fs ex:List Addr)(H H':Hp)(h h':Heap):Prop where
 keep:∀b o,h.get? b=some o->H b=none->b∉fs->b∉ex->h'.get? b=some o
 slot:∀b o,h.get? b=some o->H b=none->b∈fs->b∉ex->∃sl,h'.get? b=some {o with slots:=sl}
 free:∀b o,h.get? b=some o->H b=none->b∉ex->H' b=none
 there:∀b o,h.get? b=some o->b∉ex->∃o',h'.get? b=some o'
 tups:∀b xs,H b=some (.tup xs)->H' b=some (.tup xs)
 ju:∀b o u,H b=some (.fB o u)->H' b=some (.fB o u)
 jW:∀b ps,H b=some (.lI ps)->∃more,H' b=some (.lI (ps++more))
section
variable{fs fs' ex ex':List Addr}{H H1 H2:Hp}{h h1 h2 h':Heap}{a x e:Addr}{o:HO}
theorem Un.any(u:Un fs ex H H1 h h1){b:Addr}{ob:Obj}(q:h.get? b=some ob)(n:H b=none)(hx:b∉ex):∃sl,h1.get? b=some {ob with slots:=sl}:=by
 by_cases hb:b∈fs
 ·exact u.slot b ob q n hb hx
 ·exact⟨ob.slots,u.keep b ob q n hb hx⟩
theorem Un.kept(k:∀b u,h.get? b=some u->h'.get? b=some u):Un fs ex H H h h':=
 ⟨fun b ob q _ _ _=>k b ob q,fun b ob q _ _ _=>⟨ob.slots,k b ob q⟩,fun _ _ _ n _=>n,fun b ob q _=>⟨ob,k b ob q⟩,fun _ _ q=>q,fun _ _ _ q=>q,fun _ ps q=>⟨#[],by rw[q];simp⟩⟩
theorem Un.refl:Un fs ex H H h h:=Un.kept fun _ _ q=>q
theorem Un.laid(k:∀b u,h.get? b=some u->h'.get? b=some u)(hp:h.objs.size<=a)(hn:H a=none):Un fs ex H (upd H a o) h h' where
 keep:=fun b u q _ _ _=>k b u q
 slot:=fun b u q _ _ _=>⟨u.slots,k b u q⟩
 free:=fun b u q n _=>by rw[aN (Nat.ne_of_lt (Nat.lt_of_lt_of_le (Heap.lt_size q) hp))];exact n
 there:=fun b u q _=>⟨u,k b u q⟩
 tups:=fun b xs q=>by rw[aN (fO q hn)];exact q
 ju:=fun b u xs q=>by rw[aN (fO q hn)];exact q
 jW:=fun b ps q=>⟨#[],by rw[aN (fO q hn),q];simp⟩
theorem Un.write(mu:pW (H x))(he:e=x\/H e=some (.own x))(k:∀b u,b≠e->h.get? b=some u->h'.get? b=some u)(nB:∃u,h'.get? e=some u):Un fs ex H (upd H x o) h h':=by
 have hx:∀b,H b=none->b≠x:=fun b n z=>by subst z;rw[n] at mu;exact mu
 have hb:∀b,H b=none->b≠e:=fun b n z=>by
  subst z
  rcases he with r|r
  ·exact hx b n r
  ·rw[n] at r;cases r
 have hm:∀b u,H b=some u->¬pW (some u)->b≠x:=fun b u q nm z=>by subst z;rw[q] at mu;exact nm mu
 refine⟨fun b u q n _ _=>k b u (hb b n) q,fun b u q n _ _=>⟨u.slots,k b u (hb b n) q⟩,fun b u q n _=>by rw[aN (hx b n)];exact n,fun b u q _=>?_,
  fun b xs q=>by rw[aN (hm b _ q fun z=>z)];exact q,fun b u xs q=>by rw[aN (hm b _ q fun z=>z)];exact q,fun b ps q=>⟨#[],by rw[aN (hm b _ q fun z=>z),q];simp⟩⟩
 by_cases ly:b=e
 ·subst ly;exact nB
 ·exact⟨u,k b u ly q⟩
end
def sO(h:Heap)(H:Hp):List Addr:=(List.range h.objs.size).filter fun a=>(H a).isSome
def jL(h:Heap)(H:Hp):Heap:=PySem.W.hideAll h (sO h H)
theorem OY(h:Heap)(H:Hp):(jL h H).objs.size=h.objs.size:=PySem.W.hideAll_size _ _
theorem VN{h:Heap}{H:Hp}{b:Addr}{o:Obj}(e:h.get? b=some o)(n:H b=none):(jL h H).get? b=some o:=
 PySem.W.hideAll_get _ e fun hm=>by
  have q:(H b).isSome=true:=(List.mem_filter.mp hm).2
  rw[n] at q;simp at q
theorem Jt{h:Heap}{H:Hp}{b:Addr}{o:Obj}(e:(jL h H).get? b=some o):h.get? b=some o/\H b=none:=by
  have e':h.get? b=some o:=PySem.W.of_hideAll (sO h H) e
  refine⟨e',?_⟩
  cases q:H b with
  |none=>rfl
  | some x =>
    have hm:b∈sO h H:=List.mem_filter.mpr ⟨List.mem_range.mpr (Heap.lt_size e'),by simp[q]⟩
    have z:(jL h H).get? b=none:=PySem.W.hideAll_none (sO h H) hm
    rw[z] at e;cases e
def Xr(g h:Heap)(L:Addr):List (Addr×Obj):=(List.range h.objs.size).filterMap fun a=>if a=L\/(g.get? a).isSome=true then none else(h.get? a).map fun o=>(a,o)
def rest(g h:Heap)(L d:Addr):List (Addr×Obj):=(Xr g h L).filter fun p=>decide (p.1≠d)
structure Mod(K:PySem.W.Frag)(mg:Str->Option Value)(base:Heap):Prop where
 oX:K.In base
 glob:base.Ns mainGlobals mg
 blt:∃mb,base.Ns builtinsNs mb/\∀x:Str,x≠"__name__" ->mb x=bootBuiltins x
 nolimit:base.NoLimit
structure Cx where
 prog:Program
 w:World
 K:PySem.W.Frag
 mg:Str->Option Value
 base:Heap
 A:Around
 N:List Str
 s₀:Shared
 H₀:Hp
 env:Env
 outer:List Env
 stack:List Env
 ex:List Addr
 fn:Str->Bool
 calm:Bool
 pn:List (Addr×Obj)
 xe:Value->Shared->Prop
def frs(l:List Env):List Addr:=l.filterMap (·.frame)
abbrev Cx.fs(X:Cx):List Addr:=frs X.outer
def zK(sc:Scope)(x:Str):Prop:=sc.names.lookup x=some .local\/sc.names.lookup x=some .cell\/sc.names.lookup x=some .free
def Loc(sc:Scope)(x:Str):Prop:=sc.names.lookup x=some .local\/sc.names.lookup x=some .cell
def Look(env:Env)(h:Heap)(m:Str->Option Value)(x:Str)(u:Value):Prop:=
 (env.kindOf x=some .local/\m x=some u)\/((env.kindOf x=some .cell\/env.kindOf x=some .free)/\∃c,env.cells.lookup x=some c/\h.IsCell c (some u))
structure Cx.Ok(X:Cx):Prop where
 mod:Mod X.K X.mg X.base
 kind:X.env.scope.kind= .function
 glob:X.env.globals=mainGlobals
 blt:X.env.builtins=builtinsNs
 above:X.s₀.heap.objs.size<=X.env.locals
 inj:∀x y c,X.env.cells.lookup x=some c->X.env.cells.lookup y=some c->x=y
 has:∀x,(X.env.kindOf x=some .cell\/X.env.kindOf x=some .free)->∃c,X.env.cells.lookup x=some c
 oU:∀x c,X.fn x=true->X.env.cells.lookup x=some c->X.s₀.heap.objs.size<=c
 hd:X.calm=true->X.A.handled=none
 frames:X.A.frames=some X.stack
 stk:X.stack=X.outer\/(X.stack=X.env::X.outer/\X.env.frame=some X.env.locals)
 rD:∀b∈X.ex,b≠X.env.locals/\∀x c,X.env.cells.lookup x=some c->c≠b
 bs:∀b o,X.base.get? b=some o->X.s₀.heap.get? b=some o/\X.H₀ b=none
 kB:X.base.objs.size<=X.s₀.heap.objs.size
 oV:∀b o,X.base.get? b=some o->b∉X.ex
 p6:∀b∈X.ex,b∉X.fs
 ir:X.s₀.heap.FunFrames X.base X.outer
 kK:∀b∈X.fs,X.H₀ b=none
structure Inv(X:Cx)(pins:List (Addr×Obj))(σ:List (Option V))(H:Hp)(s:Shared):Prop where
 ok:X.Ok
 os:s.os=X.s₀.os
 bare:AllBare s.gens
 base:Un X.fs X.ex X.H₀ H X.s₀.heap s.heap
 loc:∃m,s.heap.Ns X.env.locals m/\∀(i:Nat) (x:Str) (v:V),X.N[i]?=some x->σ[i]?=some (some v)->zK X.env.scope x->∃u,RelV v u/\Look X.env s.heap m x u
 cell:∀x c,X.env.cells.lookup x=some c->∃v,s.heap.IsCell c v
 free:H X.env.locals=none
 iI:∀x c,X.env.cells.lookup x=some c->H c=none
 pin:∀p∈X.pn++pins,s.heap.get? p.1=some p.2/\H p.1=none/\p.1≠X.env.locals/\p.1∉X.fs/\∀v,p.2.data≠ .cell v
 hok:cK X.prog X.w H s.heap
 len:σ.length=X.N.length
section
variable{X:Cx}{pins:List (Addr×Obj)}{σ:List (Option V)}{H H':Hp}{s:Shared}{h':Heap}
theorem Cx.Ok.Zk(ok:X.Ok){b:Addr}{o:Obj}(e:X.base.get? b=some o):b∉X.fs:=fun hb=>by
 have:=(ok.ir.mem hb).1
 rw[e] at this;cases this
theorem Inv.bs(I:Inv X pins σ H s):∀b o,X.base.get? b=some o->s.heap.get? b=some o/\H b=none:=fun b o e=>
 ⟨I.base.keep b o (I.ok.bs b o e).1 (I.ok.bs b o e).2 (I.ok.Zk e) (I.ok.oV b o e),I.base.free b o (I.ok.bs b o e).1 (I.ok.bs b o e).2 (I.ok.oV b o e)⟩
theorem Inv.bk(I:Inv X pins σ H s):∀b o,X.base.get? b=some o->s.heap.get? b=some o:=fun b o e=>(I.bs b o e).1
theorem Inv.mod(I:Inv X pins σ H s):Mod X.K X.mg X.base:=I.ok.mod
theorem Inv.ck(I:Inv X pins σ H s):X.K.In s.heap:=I.ok.mod.oX.keeps I.bk
theorem Inv.lt(I:Inv X pins σ H s):X.env.locals<s.heap.objs.size:=let ⟨_,hn,_⟩:=I.loc;hn.lt
theorem Inv.sz(I:Inv X pins σ H s):X.s₀.heap.objs.size<=s.heap.objs.size:=Nat.le_trans I.ok.above (Nat.le_of_lt I.lt)
theorem Inv.K9(I:Inv X pins σ H s){a:Addr}(h:s.heap.objs.size<=a):a∉X.fs:=fun hb=>by
 obtain⟨_,o,ho,_⟩:=I.ok.ir.mem hb
 exact absurd (Nat.lt_of_lt_of_le (Heap.lt_size ho) (Nat.le_trans I.sz h)) (Nat.lt_irrefl _)
theorem Inv.lK(I:Inv X pins σ H s):∀x c,X.env.cells.lookup x=some c->c≠X.env.locals:=fun x c e z=>by
 obtain⟨v,o,ho,hd⟩:=I.cell x c e
 obtain⟨m,⟨o',es,ep,ho',hd',_⟩,_⟩:=I.loc
 rw[z,ho'] at ho;cases ho;rw[hd'] at hd;cases hd
theorem Inv.ir(I:Inv X pins σ H s):s.heap.FunFrames X.base X.outer:=by
  have all:∀(l:List Env),(∀b∈frs l,b∈X.fs)->X.s₀.heap.FunFrames X.base l->s.heap.FunFrames X.base l:=by
    intro l
    induction l with
    |nil=>intro _ _;trivial
    | cons env r ih =>
      intro hs hl
      obtain⟨hk,⟨L,o,hf,hn,ho,hd⟩,hr⟩:=hl
      have hL:L∈X.fs:=hs L (by unfold frs;rw[List.filterMap_cons,hf];exact List.mem_cons_self)
      obtain⟨sl,e⟩:=I.base.slot L o ho (I.ok.kK L hL) hL fun z=>I.ok.p6 L z hL
      exact⟨hk,⟨L,_,hf,hn,e,hd⟩,ih (fun b hb=>hs b (by unfold frs;rw[List.filterMap_cons,hf];exact List.mem_cons_of_mem _ hb)) hr⟩
  exact all X.outer (fun _ hb=>hb) I.ok.ir
theorem Inv.stack(I:Inv X pins σ H s):s.heap.FunFrames X.base X.stack:=by
 rcases I.ok.stk with e|⟨e,hf⟩
 ·rw[e];exact I.ir
 ·rw[e]
  obtain⟨m,hn,_⟩:=I.loc
  refine .cons (by rw[I.ok.kind];decide) hf hn ?_ I.ir
  exact Heap.get?_none_of_le (Nat.le_trans I.ok.kB I.ok.above)
theorem Inv.uv(I:Inv X pins σ H s):∀b∈frs X.stack,b∈X.env.locals::X.fs:=fun b hb=>by
 rcases I.ok.stk with e|⟨e,hf⟩
 ·rw[e] at hb;exact List.mem_cons_of_mem _ hb
 ·rw[e] at hb
  unfold frs at hb
  rw[List.filterMap_cons,hf] at hb
  exact hb
theorem Inv.DM(I:Inv X pins σ H s):∀b∈frs X.stack,H b=none:=fun b hb=>by
 rcases List.mem_cons.mp (I.uv b hb) with e|hb
 ·rw[e];exact I.free
 ·obtain⟨_,o,ho,_⟩:=I.ok.ir.mem hb
  exact I.base.free b o ho (I.ok.kK b hb) fun z=>I.ok.p6 b z hb
theorem Inv.step{g':Array GenState}{t':Nat}{d':Drawn}{ch:List Addr}(I:Inv X pins σ H s)
  (hch:∀b∈ch,(b∈X.ex\/X.s₀.heap.objs.size<=b)/\b≠X.env.locals/\(∀x c,X.env.cells.lookup x=some c->c≠b)/\∀p∈X.pn++pins,p.1≠b)
  (keep:∀b o,b≠X.env.locals->b∉X.fs->b∉ch->s.heap.get? b=some o->H b=none->h'.get? b=some o)
  (slot:∀b o,b≠X.env.locals->b∈X.fs->b∉ch->s.heap.get? b=some o->H b=none->∃sl,h'.get? b=some {o with slots:=sl}) (free:∀b o,b∉ch->s.heap.get? b=some o->H b=none->H' b=none)
  (there:∀b o,b∉ch->s.heap.get? b=some o->∃o',h'.get? b=some o')
  (tups:∀b xs,H b=some (.tup xs)->H' b=some (.tup xs)) (ju:∀b o u,H b=some (.fB o u)->H' b=some (.fB o u)) (jW:∀b ps,H b=some (.lI ps)->∃more,H' b=some (.lI (ps++more)))
  (ns:∀m,s.heap.Ns X.env.locals m->h'.Ns X.env.locals m) (hok:cK X.prog X.w H' h') (hg:AllBare g'):
  Inv X pins σ H' {s with heap:=h',gens:=g',drawn:=d',toks:=t'}:=by
 have Hg:∀b o,X.s₀.heap.get? b=some o->b≠X.env.locals:=fun b o e=>Nat.ne_of_lt (Nat.lt_of_lt_of_le (Heap.lt_size e) I.ok.above)
 have rH:∀b o,X.s₀.heap.get? b=some o->b∉X.ex->b∉ch:=fun b o e hx hb=>by
  rcases(hch b hb).1 with z|z
  ·exact hx z
  ·exact absurd (Nat.lt_of_lt_of_le (Heap.lt_size e) z) (Nat.lt_irrefl _)
 have cellK:∀x c,X.env.cells.lookup x=some c->∀v,s.heap.IsCell c v->h'.IsCell c v:=fun x c e v ⟨o,ho,hd⟩=>by
  have oY:c∉ch:=fun z=>(hch c z).2.2.1 x c e rfl
  by_cases hc:c∈X.fs
  ·obtain⟨sl,q⟩:=slot c o (I.lK x c e) hc oY ho (I.iI x c e)
   exact⟨_,q,hd⟩
  ·exact⟨o,keep c o (I.lK x c e) hc oY ho (I.iI x c e),hd⟩
 refine⟨I.ok,I.os,hg,⟨fun b o e n hb hx=>?_,fun b o e n hb hx=>?_,fun b o e n hx=>?_,fun b o e hx=>?_,fun b xs e=>tups b xs (I.base.tups b xs e),fun b o xs e=>ju b o xs (I.base.ju b o xs e),fun b ps e=>?_⟩,?_,fun x c e=>?_,?_,fun x c e=>?_,fun p hp=>?_,hok,I.len⟩
 ·exact keep b o (Hg b o e) hb (rH b o e hx) (I.base.keep b o e n hb hx) (I.base.free b o e n hx)
 ·obtain⟨sl,e1⟩:=I.base.slot b o e n hb hx
  obtain⟨Zr,e2⟩:=slot b _ (Hg b o e) hb (rH b o e hx) e1 (I.base.free b o e n hx)
  exact⟨Zr,e2⟩
 ·obtain⟨o',e1⟩:=I.base.there b o e hx
  exact free b o' (rH b o e hx) e1 (I.base.free b o e n hx)
 ·obtain⟨o',e1⟩:=I.base.there b o e hx
  exact there b o' (rH b o e hx) e1
 ·obtain⟨m1,e1⟩:=I.base.jW b ps e
  obtain⟨m2,e2⟩:=jW b _ e1
  exact⟨m1++m2,by rw[e2,Array.append_assoc]⟩
 ·obtain⟨m,hn,hl⟩:=I.loc
  refine⟨m,ns m hn,fun i x v e1 e2 e3=>?_⟩
  obtain⟨u,r,l⟩:=hl i x v e1 e2 e3
  refine⟨u,r,?_⟩
  rcases l with l|⟨k,c,e,z⟩
  ·exact .inl l
  ·exact .inr ⟨k,c,e,cellK x c e _ z⟩
 ·obtain⟨v,z⟩:=I.cell x c e
  exact⟨v,cellK x c e v z⟩
 ·obtain⟨m,⟨o,_,_,ho,_⟩,_⟩:=I.loc
  exact free _ o (fun z=>(hch _ z).2.1 rfl) ho I.free
 ·obtain⟨v,o,ho,hd⟩:=I.cell x c e
  exact free c o (fun z=>(hch c z).2.2.1 x c e rfl) ho (I.iI x c e)
 ·obtain⟨e,n,ne,nf,d⟩:=I.pin p hp
  have oY:p.1∉ch:=fun z=>(hch p.1 z).2.2.2 p hp rfl
  exact⟨keep p.1 p.2 ne nf oY e n,free p.1 p.2 oY e n,ne,nf,d⟩
theorem Inv.un{t':Nat}(I:Inv X pins σ H s)(u:Un X.fs [] H H' s.heap h')(hok:cK X.prog X.w H' h'):Inv X pins σ H' {s with heap:=h',toks:=t'}:=by
 obtain⟨m,⟨o,es,ep,ho,r⟩,_⟩:=id I.loc
 obtain⟨sl,hL⟩:=u.any ho I.free (by simp)
 exact I.step (g':=s.gens) (d':=s.drawn) (ch:=[]) (fun _ z=>nomatch z) (fun b o _ hb _ e n=>u.keep b o e n hb (by simp)) (fun b o _ hb _ e n=>u.slot b o e n hb (by simp)) (fun b o _ e n=>u.free b o e n (by simp)) (fun b o _ e=>u.there b o e (by simp)) u.tups u.ju u.jW (fun m' hm=>by
  obtain⟨o',es',rN,ho',r'⟩:=hm
  rw[ho] at ho';cases ho'
  exact⟨_,es',rN,hL,r'⟩) hok I.bare
theorem Inv.call{g':Array GenState}{t':Nat}{d':Drawn}{ch:List Addr}(I:Inv X pins σ H s)(u:Un (frs X.stack) ch H H' s.heap h')(hok:cK X.prog X.w H' h')(hg:AllBare g')
  (hch:∀b∈ch,(b∈X.ex\/X.s₀.heap.objs.size<=b)/\b≠X.env.locals/\(∀x c,X.env.cells.lookup x=some c->c≠b)/\∀p∈X.pn++pins,p.1≠b):
  Inv X pins σ H' {s with heap:=h',gens:=g',drawn:=d',toks:=t'}:=by
 obtain⟨m,⟨o,es,ep,ho,r⟩,_⟩:=id I.loc
 obtain⟨sl,hL⟩:=u.any ho I.free fun z=>(hch _ z).2.1 rfl
 exact I.step (ch:=ch) hch (fun b o hL hb hc e n=>u.keep b o e n (fun z=>(List.mem_cons.mp (I.uv b z)).elim hL hb) hc) (fun b o _ _ hc e n=>u.any e n hc) (fun b o hc e n=>u.free b o e n hc) (fun b o hc e=>u.there b o e hc) u.tups u.ju u.jW (fun m' hm=>by
  obtain⟨o',es',rN,ho',r'⟩:=hm
  rw[ho] at ho';cases ho'
  exact⟨_,es',rN,hL,r'⟩) hok hg
theorem Inv.turned{t':Nat}{it:Addr}(I:Inv X pins σ H s)(k:∀b o,b≠it->s.heap.get? b=some o->h'.get? b=some o)(hn:H it=none)(hL:it≠X.env.locals)
  (h1:it∈X.ex\/X.s₀.heap.objs.size<=it) (h2:∀x c,X.env.cells.lookup x=some c->c≠it) (h3:∀p∈X.pn++pins,p.1≠it):Inv X pins σ H {s with heap:=h',toks:=t'}:=by
 have EJ:∀b u,H b=some u->b≠it:=fun b u e z=>by rw[z,hn] at e;cases e
 refine I.step (g':=s.gens) (d':=s.drawn) (ch:=[it]) (fun b hb=>?_) (fun b o _ _ hc e _=>k b o (fun z=>hc (by simp[z])) e) (fun b o _ _ hc e _=>⟨o.slots,k b o (fun z=>hc (by simp[z])) e⟩) (fun _ _ _ _ n=>n)
  (fun b o hc e=>⟨o,k b o (fun z=>hc (by simp[z])) e⟩) (fun _ _ e=>e) (fun _ _ _ e=>e) (fun b ps e=>⟨#[],by rw[e];simp⟩) (fun m hm=>?_) (fun b u e=>?_) I.bare
 ·have e:b=it:=by simpa using hb
  subst e
  exact⟨h1,hL,h2,h3⟩
 ·obtain⟨o,es,ep,ho,r⟩:=hm
  exact⟨o,es,ep,k _ o (Ne.symm hL) ho,r⟩
 ·refine(I.hok b u e).stay (fun c v hc q=>k c v ?_ q) (fun _ q=>q) fun _ _ q=>q
  rcases hc with z|z
  ·rw[z];exact EJ b u e
  ·exact EJ c _ z
theorem Inv.tok(I:Inv X pins σ H s)(t:Nat):Inv X pins σ H {s with toks:=t}:=I.un (h':=s.heap) (t':=t) Un.refl I.hok
theorem Inv.kept{t':Nat}(I:Inv X pins σ H s)(k:∀b u,s.heap.get? b=some u->h'.get? b=some u):Inv X pins σ H {s with heap:=h',toks:=t'}:=I.un (Un.kept k) (I.hok.kept k)
theorem Inv.laid{a:Addr}{o:HO}{t':Nat}(I:Inv X pins σ H s)(k:∀b u,s.heap.get? b=some u->h'.get? b=some u)(hp:s.heap.objs.size<=a)(new:bK X.prog X.w (upd H a o) h' a o):
  Inv X pins σ (upd H a o) {s with heap:=h',toks:=t'}:=I.un (Un.laid k hp (I.hok.fresh hp)) (I.hok.laid k hp new)
theorem Inv.write{x e:Addr}{o:HO}{t':Nat}(I:Inv X pins σ H s)(mu:pW (H x))(he:e=x\/H e=some (.own x))(k:∀b u,b≠e->s.heap.get? b=some u->h'.get? b=some u)(nB:∃u,h'.get? e=some u)
  (new:bK X.prog X.w (upd H x o) h' x o):Inv X pins σ (upd H x o) {s with heap:=h',toks:=t'}:=I.un (Un.write mu he k nB) (I.hok.write mu he k nB new)
theorem Inv.BV{BS:List (Addr×Obj)}(I:Inv X pins σ H s)(h:∀p∈BS,s.heap.get? p.1=some p.2/\H p.1=none/\p.1≠X.env.locals/\p.1∉X.fs/\∀v,p.2.data≠ .cell v):Inv X BS σ H s:=
 ⟨I.ok,I.os,I.bare,I.base,I.loc,I.cell,I.free,I.iI,fun p hp=>(List.mem_append.mp hp).elim (fun z=>I.pin p (List.mem_append_left _ z)) (h p),I.hok,I.len⟩
theorem DH{N:List Str}(hN:N.Nodup){i j:Nat}{x:Str}(a:N[i]?=some x)(b:N[j]?=some x):i=j:=by
 obtain⟨h1,e1⟩:=List.getElem?_eq_some_iff.mp a
 obtain⟨h2,e2⟩:=List.getElem?_eq_some_iff.mp b
 exact(List.getElem_inj hN).mp (e1.trans e2.symm)
theorem BU{M:Model}{A:Around}{E:Value->Shared->Prop}{i:Nat}{x:Str}{v:V}{u:Value}{Q:Unit->Shared->Prop}(I:Inv X pins σ H s)(hN:X.N.Nodup)(hi:X.N[i]?=some x)(hx:Loc X.env.scope x)(r:RelV v u)
  (h:∀s',Inv X pins (σ.set i (some v)) H s'->(∃a,Heap.SameBut a s.heap s'.heap/\(a=X.env.locals\/X.env.cells.lookup x=some a))->Q () s') (hf:X.fn x=true\/X.env.scope.names.lookup x=some .local:=by first|exact .inl rfl|exact .inr rfl|assumption):wpAny M A (storeName X.env x u) Q E s:=by
 obtain⟨m,hn,hl⟩:=id I.loc
 have hcls:(X.env.scope.kind== .class||(X.env.scope.kind== .module && X.env.locals !=X.env.globals))=false:=by rw[I.ok.kind];rfl
 have E1:i<σ.length:=by rw[I.len];exact(List.getElem?_eq_some_iff.mp hi).1
 have lK:=I.lK
 have tracked:∀{a:Addr} {h':Heap},(∃o,s.heap.get? a=some o/\H a=none)->Heap.SameBut a s.heap h'->cK X.prog X.w H h':=fun{a h'} ha hs b ob e=>by
  obtain⟨_,_,hfree⟩:=ha
  refine(I.hok b ob e).stay (fun c w' hc q=>(hs.2 c ?_).trans q) (fun _ q=>q) fun _ _ q=>q
  rintro rfl
  rcases hc with rfl|hc
  ·rw[hfree] at e;cases e
  ·rw[hfree] at hc;cases hc
 rcases hx with hk|hk
 ·refine wpAny_storeName_local hk hn (fun h' hn' hs=>?_) hcls
  obtain⟨oL,_,_,RD,_⟩:=id hn
  refine h _ ⟨I.ok,I.os,I.bare,⟨fun b o e n hb hx=>?_,fun b o e n hb hx=>?_,I.base.free,fun b o e hx=>?_,I.base.tups,I.base.ju,I.base.jW⟩,⟨_,hn',fun j y v' e1 e2 e3=>?_⟩,fun y c e=>?_,I.free,I.iI,fun p hp=>?_,tracked ⟨oL,RD,I.free⟩ hs,by simpa using I.len⟩ ⟨_,hs, .inl rfl⟩
  ·exact(hs.2 b (Nat.ne_of_lt (Nat.lt_of_lt_of_le (Heap.lt_size e) I.ok.above))).trans (I.base.keep b o e n hb hx)
  ·obtain⟨sl,e1⟩:=I.base.slot b o e n hb hx
   exact⟨sl,(hs.2 b (Nat.ne_of_lt (Nat.lt_of_lt_of_le (Heap.lt_size e) I.ok.above))).trans e1⟩
  ·obtain⟨o',e1⟩:=I.base.there b o e hx
   exact⟨o',(hs.2 b (Nat.ne_of_lt (Nat.lt_of_lt_of_le (Heap.lt_size e) I.ok.above))).trans e1⟩
  ·by_cases hj:j=i
   ·subst hj
    rw[hi] at e1;cases e1
    rw[List.getElem?_set_self E1] at e2
    cases e2
    exact⟨u,r, .inl ⟨hk,by simp⟩⟩
   ·rw[List.getElem?_set_ne (Ne.symm hj)] at e2
    obtain⟨u',r',q⟩:=hl j y v' e1 e2 e3
    refine⟨u',r',?_⟩
    rcases q with ⟨k,e⟩|⟨k,c,e,z⟩
    ·refine .inl ⟨k,?_⟩
     have:y≠x:=fun e=>hj (DH hN e1 (e▸hi))
     simp[this,e]
    ·exact .inr ⟨k,c,e,z.sameBut hs (lK y c e)⟩
  ·obtain⟨w',z⟩:=I.cell y c e
   exact⟨w',z.sameBut hs (lK y c e)⟩
  ·obtain⟨e,n,ne,nf,d⟩:=I.pin p hp
   exact⟨(hs.2 p.1 ne).trans e,n,ne,nf,d⟩
 ·have hfn:X.fn x=true:=by
   rcases hf with z|z
   ·exact z
   ·rw[z] at hk;cases hk
  obtain⟨c,hc⟩:=I.ok.has x (.inl hk)
  obtain⟨w',z⟩:=I.cell x c hc
  refine wpAny_storeName_cell I.ok.kind hk hc z (fun h' hc' hs=>?_)
  obtain⟨oc,hoc,Pp⟩:=id z
  refine h {s with heap:=h'} ⟨I.ok,I.os,I.bare,⟨fun b o e n hb hx=>?_,fun b o e n hb hx=>?_,I.base.free,fun b o e hx=>?_,I.base.tups,I.base.ju,I.base.jW⟩,⟨m,hn.sameBut hs (Ne.symm (lK x c hc)),fun j y v' e1 e2 e3=>?_⟩,fun y c' e=>?_,I.free,I.iI,fun p hp=>?_,tracked ⟨oc,hoc,I.iI x c hc⟩ hs,by simpa using I.len⟩ ⟨c,hs, .inr hc⟩
  ·exact(hs.2 b (Nat.ne_of_lt (Nat.lt_of_lt_of_le (Heap.lt_size e) (I.ok.oU x c hfn hc)))).trans (I.base.keep b o e n hb hx)
  ·obtain⟨sl,e1⟩:=I.base.slot b o e n hb hx
   exact⟨sl,(hs.2 b (Nat.ne_of_lt (Nat.lt_of_lt_of_le (Heap.lt_size e) (I.ok.oU x c hfn hc)))).trans e1⟩
  ·obtain⟨o',e1⟩:=I.base.there b o e hx
   exact⟨o',(hs.2 b (Nat.ne_of_lt (Nat.lt_of_lt_of_le (Heap.lt_size e) (I.ok.oU x c hfn hc)))).trans e1⟩
  ·by_cases hj:j=i
   ·subst hj
    rw[hi] at e1;cases e1
    rw[List.getElem?_set_self E1] at e2
    cases e2
    exact⟨u,r, .inr ⟨.inl hk,c,hc,hc'⟩⟩
   ·rw[List.getElem?_set_ne (Ne.symm hj)] at e2
    obtain⟨u',r',q⟩:=hl j y v' e1 e2 e3
    refine⟨u',r',?_⟩
    rcases q with q|⟨k,c',e,z'⟩
    ·exact .inl q
    ·refine .inr ⟨k,c',e,z'.sameBut hs ?_⟩
     rintro rfl
     exact hj (DH hN e1 (I.ok.inj _ _ _ e hc▸hi))
  ·by_cases hcc:c'=c
   ·subst hcc;exact⟨_,hc'⟩
   ·obtain⟨w2,z2⟩:=I.cell y c' e
    exact⟨w2,z2.sameBut hs hcc⟩
  ·obtain⟨e,n,ne,nf,d⟩:=I.pin p hp
   refine⟨(hs.2 p.1 ?_).trans e,n,ne,nf,d⟩
   intro q
   rw[q,hoc] at e
   have q':oc=p.2:=Option.some.inj e
   exact d w' (by rw[<-q'];exact Pp)
theorem IB{M:Model}{A:Around}{E:Value->Shared->Prop}{i:Nat}{x:Str}{v:V}{u:Value}{Q:Unit->Shared->Prop}(I:Inv X pins σ H s)(hN:X.N.Nodup)(hi:X.N[i]?=some x)(hx:Loc X.env.scope x)(r:RelV v u)
  (h:∀s',Inv X pins (σ.set i (some v)) H s'->Q () s') (hf:X.fn x=true\/X.env.scope.names.lookup x=some .local:=by first|exact .inl rfl|exact .inr rfl|assumption):wpAny M A (storeName X.env x u) Q E s:=
 BU I hN hi hx r (fun s' I' _=>h s' I') hf
theorem Inv.NT{s':Shared}{ch:List Addr}(I:Inv X pins σ H s)(ho:s'.os=s.os)(u:Un (frs X.stack) ch H H' s.heap s'.heap)(hok:cK X.prog X.w H' s'.heap)(hg:AllBare s'.gens)
  (hch:∀b∈ch,(b∈X.ex\/X.s₀.heap.objs.size<=b)/\b≠X.env.locals/\(∀x c,X.env.cells.lookup x=some c->c≠b)/\∀p∈X.pn++pins,p.1≠b):Inv X pins σ H' s':=by
 obtain⟨h',g',d',t',o'⟩:=s'
 have e:o'=s.os:=ho
 subst e
 exact I.call (g':=g') (t':=t') (d':=d') u hok hg hch
end
abbrev XK:=Value->Option Addr->Hp->Prop
abbrev St:=List (Option V)
abbrev VK:=V->Hp->Prop
abbrev TE:=St->Hp->VK->Prop
abbrev TT:=St->Hp->(Bool->Hp->Prop)->Prop
abbrev TA:=St->Hp->(List V->Hp->Prop)->Prop
structure Ends where
 nx:St->Hp->Prop
 rt:VK
 bk:St->Hp->Prop:=fun _ _=>False
 ct:St->Hp->Prop:=fun _ _=>False
abbrev TS:=Ends->St->Hp->Prop
def EP(X:Cx)(pins:List (Addr×Obj))(σ:St)(Q:VK)(u:Value)(s':Shared):Prop:=∃v H',Inv X pins σ H' s'/\RelV v u/\Q v H'
def TP(X:Cx)(pins:List (Addr×Obj))(σ:St)(Q:Bool->Hp->Prop)(b:Bool)(s':Shared):Prop:=∃H',Inv X pins σ H' s'/\Q b H'
def AP(X:Cx)(pins:List (Addr×Obj))(σ:St)(Q:List V->Hp->Prop)(us:List Value)(s':Shared):Prop:=∃vs H',Inv X pins σ H' s'/\Vals vs us/\Q vs H'
def SP(X:Cx)(pins:List (Addr×Obj))(D:Ends)(f:Flow)(s':Shared):Prop:=
 match f with
 | .next=>∃σ' H',Inv X pins σ' H' s'/\D.nx σ' H'
 | .brk=>∃σ' H',Inv X pins σ' H' s'/\D.bk σ' H'
 | .cont=>∃σ' H',Inv X pins σ' H' s'/\D.ct σ' H'
 | .ret u=>∃v σ' H',Inv X pins σ' H' s'/\RelV v u/\D.rt v H'
def PE(X:Cx)(e:Expr)(t:TE):Prop:=
 ∀(pins:List (Addr×Obj)) (s:Shared) (σ:St) (H:Hp) (Q:VK),Inv X pins σ H s->t σ H Q->wpAny (model X.prog X.w) X.A (eval e X.env) (EP X pins σ Q) X.xe s
def PT(X:Cx)(e:Expr)(t:TT):Prop:=
 ∀(pins:List (Addr×Obj)) (s:Shared) (σ:St) (H:Hp) (Q:Bool->Hp->Prop),Inv X pins σ H s->t σ H Q->wpAny (model X.prog X.w) X.A (isTrue e X.env (eval e X.env)) (TP X pins σ Q) X.xe s
def PW(X:Cx)(e:Expr)(t:TT):Prop:=
 ∀(whole:Sem Value) (pins:List (Addr×Obj)) (s:Shared) (σ:St) (H:Hp) (Q:Bool->Hp->Prop),Inv X pins σ H s->t σ H Q->wpAny (model X.prog X.w) X.A (isTrue e X.env whole) (TP X pins σ Q) X.xe s
theorem PW.pt{X:Cx}{e:Expr}{t:TT}(h:PW X e t):PT X e t:=h _
def PA(X:Cx)(es:List Expr)(t:TA):Prop:=
 ∀(pos:Pos) (pins:List (Addr×Obj)) (s:Shared) (σ:St) (H:Hp) (Q:List V->Hp->Prop),Inv X pins σ H s->t σ H Q->wpAny (model X.prog X.w) X.A (spliced (backTo pos (starEach es X.env))) (AP X pins σ Q) X.xe s
def PS(X:Cx)(st:Stmt)(t:TS):Prop:=
 ∀(pins:List (Addr×Obj)) (s:Shared) (σ:St) (H:Hp) (D:Ends),Inv X pins σ H s->t D σ H->wpAny (model X.prog X.w) X.A (exec st X.env) (SP X pins D) X.xe s
def gR(X:Cx)(st:List Stmt)(t:TS):Prop:=
 ∀(pins:List (Addr×Obj)) (s:Shared) (σ:St) (H:Hp) (D:Ends),Inv X pins σ H s->t D σ H->wpAny (model X.prog X.w) X.A (execs st X.env) (SP X pins D) X.xe s
theorem aI{α:Type}{t:Sem α}{Q Q':α->Shared->Prop}{M:Model}{A:Around}{E:Value->Shared->Prop}{s:Shared}(h:wpAny M A t Q E s)(hQ:∀a s,Q a s->Q' a s):wpAny M A t Q' E s:=wpAny_mono h hQ fun _ _ x=>x
section
variable{X:Cx}
theorem bin{a b:Expr}{ta tb:TE}(ha:PE X a ta)(hb:PE X b tb){pins:List (Addr×Obj)}{s:Shared}{σ:St}{H:Hp}{R:V->V->Hp->Prop}(I:Inv X pins σ H s)(h:ta σ H fun x H1=>tb σ H1 fun y H2=>R x y H2)
  {α:Type} {Q:α->Shared->Prop} {f:Value->Value->Sem α}
  (hf:∀v u s2 x y H2,Inv X pins σ H2 s2->RelV x v->RelV y u->R x y H2->wpAny (model X.prog X.w) X.A (f v u) Q X.xe s2):
  wpAny (model X.prog X.w) X.A (eval a X.env) (fun v s₁=>wpAny (model X.prog X.w) X.A (eval b X.env) (fun u s₂=>wpAny (model X.prog X.w) X.A (f v u) Q X.xe s₂) X.xe s₁) X.xe s:=by
 refine aI (ha pins s σ H _ I h) fun v s1 ⟨x,H1,I1,r1,q1⟩=>?_
 refine aI (hb pins s1 σ H1 _ I1 q1) fun u s2 ⟨y,H2,I2,r2,q2⟩=>?_
 exact hf v u s2 x y H2 I2 r1 r2 q2
def bq(i:Nat):TE:=fun σ H Q=>∃v,σ[i]?=some (some v)/\Q v H
def tC(v:V):TE:=fun _ H Q=>Q v H
theorem LQ{i:Nat}{x:Str}{pos:Pos}(hN:X.N[i]?=some x)(hv:zK X.env.scope x)(hd:(x==("__debug__":Str))=false:=by decide)(hcd:(x==("__classdict__":Str))=false:=by decide):PE X (.Name x pos) (bq i):=by
 intro pins s σ H Q I h
 obtain⟨v,e,h⟩:=h
 obtain⟨m,hn,hl⟩:=I.loc
 obtain⟨u,r,l⟩:=hl i x v hN e hv
 have fin:EP X pins σ Q u s:=⟨v,H,I,r,h⟩
 rcases l with ⟨hk,hm⟩|⟨hk,c,hc,hcell⟩
 ·exact wpAny_Name (wpAny_loadName_local I.ok.kind hk hn hm fin) hd
 ·rcases hk with hk|hk
  ·exact wpAny_Name (wpAny_loadName_cell I.ok.kind hk hc hcell fin) hd
  ·exact wpAny_Name (wpAny_loadName_free I.ok.kind hk hc hcell fin hcd) hd
theorem ao{i j pos}:PE X (.Constant (.int i) j pos) (tC (.int i)):=fun _ _ _ H _ I h=>wpAny_Constant_int ⟨.int i,H,I.tok _,⟨_,rfl⟩,h⟩
theorem gf{b j pos}:PE X (.Constant (.bool b) j pos) (tC (.bl b)):=fun _ _ _ H _ I h=>Constant_bool ⟨.bl b,H,I,rfl,h⟩
theorem iX{j pos}:PE X (.Constant .none j pos) (tC .aE):=fun _ _ _ H _ I h=>Constant_none ⟨.aE,H,I,rfl,h⟩
def Gl(X:Cx)(x:Str):Prop:=X.env.kindOf x=some .globalImplicit
theorem Gr{E:Value->Shared->Prop}{pins:List (Addr×Obj)}{s:Shared}{σ:St}{H:Hp}{x:Str}{u:Value}{pos:Pos}{Q:Value->Shared->Prop}(I:Inv X pins σ H s)(hg:Gl X x)(hm:X.mg x=some u)(h:Q u s)
  (hd:(x==("__debug__":Str))=false:=by decide):wpAny (model X.prog X.w) X.A (eval (.Name x pos) X.env) Q E s:=
 Calls.Name_function_global I.ok.kind hg (Calls.loadGlobal_global (by rw[I.ok.glob];exact I.mod.glob.keeps I.bk) hm h) hd
theorem nI{E:Value->Shared->Prop}{pins:List (Addr×Obj)}{s:Shared}{σ:St}{H:Hp}{x:Str}{u:Value}{pos:Pos}{Q:Value->Shared->Prop}(I:Inv X pins σ H s)(hg:Gl X x)(hm:X.mg x=none)(hv:bootBuiltins x=some u)(h:Q u s)
  (hn:x≠"__name__":=by decide) (hd:(x==("__debug__":Str))=false:=by decide):wpAny (model X.prog X.w) X.A (eval (.Name x pos) X.env) Q E s:=by
 obtain⟨mb,h1,h2⟩:=I.mod.blt
 exact Calls.Name_function_global I.ok.kind hg (Calls.loadGlobal_builtin (by rw[I.ok.glob];exact I.mod.glob.keeps I.bk) hm (by rw[I.ok.blt];exact h1.keeps I.bk) ((h2 x hn).trans hv) h) hd
theorem gV{x:Str}{v:V}{u:Value}{pos:Pos}(hg:Gl X x)(hm:X.mg x=none)(hv:bootBuiltins x=some u)(r:RelV v u)(hn:x≠"__name__":=by decide)(hd:(x==("__debug__":Str))=false:=by decide):PE X (.Name x pos) (tC v):=
 fun _ _ _ H _ I h=>nI I hg hm hv ⟨v,H,I,r,h⟩ hn hd
variable{a b:Expr}{ta tb:TE}{pos:Pos}
def PC(X:Cx)(op:CmpOp)(a b:Expr)(t:TE):Prop:=
 ∀(pins:List (Addr×Obj)) (s:Shared) (σ:St) (H:Hp) (Q:VK),Inv X pins σ H s->t σ H Q->
  wpAny (model X.prog X.w) X.A (eval a X.env) (fun v s₁=>wpAny (model X.prog X.w) X.A (eval b X.env) (fun u s₂=>wpAny (model X.prog X.w) X.A (compareOp op v u) (EP X pins σ Q) X.xe s₂) X.xe s₁) X.xe s
def tB(t:TE):TT:=fun σ H Q=>t σ H fun x H1=>∃c,x= .bl c/\Q c H1
variable{tA rS:TT}{rest:List Expr}
def vI(t u:TT):TT:=fun σ H Q=>t σ H fun c H1=>if c=true then u σ H1 Q else Q false H1
def C6(t u:TT):TT:=fun σ H Q=>t σ H fun c H1=>if c=true then Q true H1 else u σ H1 Q
def Fx(t:TT):TT:=fun σ H Q=>t σ H fun c H1=>Q (!c) H1
theorem r6(ha:PT X a tA):PW X (.BoolOp .And [a] pos) tA:=by
 intro wh pins s σ H Q I h
 refine isTrue_and (aI (ha pins s σ H Q I h) fun c s1 e=>?_)
 cases c with
 |true=>exact isTrue_and_nil e
 |false=>exact e
theorem pX(ha:PT X a tA):PW X (.BoolOp .Or [a] pos) tA:=by
 intro wh pins s σ H Q I h
 refine isTrue_or (aI (ha pins s σ H Q I h) fun c s1 e=>?_)
 cases c with
 |false=>exact isTrue_or_nil e
 |true=>exact e
theorem sr(ha:PT X a tA)(hb:PW X (.BoolOp .And (b::rest) pos) rS):PW X (.BoolOp .And (a::b::rest) pos) (vI tA rS):=by
 intro wh pins s σ H Q I h
 refine isTrue_and (aI (ha pins s σ H _ I h) fun c s1 ⟨H1,I1,q1⟩=>?_)
 cases c with
 |true=>exact hb wh pins s1 σ H1 Q I1 q1
 |false=>exact⟨H1,I1,q1⟩
theorem qi(ha:PT X a tA)(hb:PW X (.BoolOp .Or (b::rest) pos) rS):PW X (.BoolOp .Or (a::b::rest) pos) (C6 tA rS):=by
 intro wh pins s σ H Q I h
 refine isTrue_or (aI (ha pins s σ H _ I h) fun c s1 ⟨H1,I1,q1⟩=>?_)
 cases c with
 |true=>exact⟨H1,I1,q1⟩
 |false=>exact hb wh pins s1 σ H1 Q I1 q1
theorem oF(ha:PT X a tA):PT X (.UnaryOp .Not a pos) (Fx tA):=by
 intro pins s σ H Q I h
 exact isTrue_not (ha pins s σ H (fun c H1=>Q (!c) H1) I h)
def G2(ta tb:TE):TE:=fun σ H Q=>ta σ H fun x H1=>∃c,x= .bl c/\if c=true then tb σ H1 Q else Q (.bl false) H1
theorem R0{op}{t:TE}(h:PE X a t):PE X (.BoolOp op [a] pos) t:=fun pins s σ H Q I hw=>BoolOp_one (h pins s σ H Q I hw)
theorem VP(ha:PE X a ta)(hb:PE X (.BoolOp .And (b::rest) pos) tb):PE X (.BoolOp .And (a::b::rest) pos) (G2 ta tb):=by
 intro pins s σ H Q I h
 refine BoolOp_and (aI (ha pins s σ H _ I h) fun v s1 ⟨x,H1,I1,r1,q1⟩=>?_)
 obtain⟨c,rfl,q1⟩:=q1
 cases r1
 refine wpAny_truthy_bool ?_
 cases c with
 |true=>exact hb pins s1 σ H1 Q I1 q1
 |false=>exact⟨.bl false,H1,I1,rfl,q1⟩
def Gz(t:TT)(ta tb:TE):TE:=fun σ H Q=>t σ H fun c H1=>if c=true then ta σ H1 Q else tb σ H1 Q
theorem zj{c:Expr}(hc:PT X c tA)(ha:PE X a ta)(hb:PE X b tb):PE X (.IfExp c a b pos) (Gz tA ta tb):=by
 intro pins s σ H Q I h
 refine wpAny_IfExp (aI (hc pins s σ H _ I h) fun d s1 ⟨H1,I1,q1⟩=>?_)
 cases d with
 |true=>exact ha pins s1 σ H1 Q I1 q1
 |false=>exact hb pins s1 σ H1 Q I1 q1
end
def aQ(K:PySem.W.Frag)(H:Hp)(a:Addr)(xs:List V):Prop:=
 Rd H a (.lst xs)\/
  ∃(o:Obj) (its:Array Value) (n:Nat),K.lookup a=some o/\o.cls= .type "list" /\o.dict=none/\o.data= .seq its n/\its.size<=sizeLine/\Vals xs its.toList
def eE(K:PySem.W.Frag)(H:Hp)(a:Addr)(xs:List V):Prop:=
 Rd H a (.tup xs)\/
  ∃(o:Obj) (its:Array Value) (n:Nat),K.lookup a=some o/\o.cls= .type "tuple" /\o.data= .seq its n/\its.size<=sizeLine/\Vals xs its.toList
def Qa:Value->Option V
 | .none=>some .aE
 | .bool b=>some (.bl b)
 | .int i _=>some (.int i)
 | .str x _=>some (.str x)
 | .bytes b _=>some (.gn b)
 | .float b _=>some (.ji b)
 | .ref a=>some (.ref a)
 | .type n=>some (.ty n)
 |_=>none
theorem RelV.abs{x:V}{u:Value}(r:RelV x u):Qa u=some x:=by
 cases x with
 |aE=>cases r;rfl
 |bl _=>cases r;rfl
 |int _=>obtain⟨t,rfl⟩:=r;rfl
 |str _=>obtain⟨t,rfl⟩:=r;rfl
 |gn _=>obtain⟨t,rfl⟩:=r;rfl
 |ji _=>obtain⟨t,rfl⟩:=r;rfl
 |ref _=>cases r;rfl
 |ty _=>cases r;rfl
theorem RelV.inj{x y:V}{u:Value}(r:RelV x u)(q:RelV y u):x=y:=Option.some.inj (r.abs.symm.trans q.abs)
theorem Vals.inj{xs ys:List V}{us:List Value}(h:Vals xs us)(k:Vals ys us):xs=ys:=by
 induction h generalizing ys with
 |nil=>cases k;rfl
 |cons r t ih=>cases k with|cons r' t'=>rw[r.inj r',ih t']
section
variable{X:Cx}{pins:List (Addr×Obj)}{σ:St}{H:Hp}{s:Shared}{a:Addr}{xs ys:List V}
theorem aQ.of{K:PySem.W.Frag}(h:H a=some (.lst xs)):aQ K H a xs:= .inl (.inl h)
theorem eE.of{K:PySem.W.Frag}(h:H a=some (.tup xs)):eE K H a xs:= .inl (.inl h)
theorem Inv.list(I:Inv X pins σ H s)(h:aQ X.K H a xs):∃its:List Value,Vals xs its/\PlainL s.heap a its.toArray/\xs.length<=sizeLine:=by
 rcases h with h|⟨o,its,n,hk,hc,hd,hs,hz,r⟩
 ·obtain⟨z,its,n,r,e⟩:=h.ok I.hok
  exact⟨its,r,⟨_,n,e,rfl,rfl,rfl⟩,z⟩
 ·refine⟨its.toList,r,⟨o,n,I.ck a o hk,hc,hd,by simpa using hs⟩,?_⟩
  have e:=r.length
  simp only[Array.length_toList] at e
  omega
theorem Inv.tuple(I:Inv X pins σ H s)(h:eE X.K H a xs):∃its:List Value,Vals xs its/\IsTup s.heap a its.toArray/\xs.length<=sizeLine:=by
 rcases h with h|⟨o,its,n,hk,hc,hs,hz,r⟩
 ·obtain⟨z,its,r,p⟩:=h.ok I.hok
  exact⟨its,r,p,z⟩
 ·refine⟨its.toList,r,⟨o,I.ck a o hk,hc,n,by simpa using hs⟩,?_⟩
  have e:=r.length
  simp only[Array.length_toList] at e
  omega
theorem Inv.Ho(I:Inv X pins σ H s)(h:aQ X.K H a xs)(h':aQ X.K H a ys):xs=ys:=by
 obtain⟨its,r,⟨o,n,e,_,_,d⟩,_⟩:=I.list h
 obtain⟨its',r',⟨o',n',e',_,_,d'⟩,_⟩:=I.list h'
 rw[e] at e';cases e'
 rw[d] at d'
 injection d' with d1 _
 have:its=its':=by simpa using congrArg Array.toList d1
 subst this
 exact r.inj r'
end
abbrev Cx.jb(X:Cx)(E:Value->Shared->Prop):Cx:={X with xe:=E}
abbrev Cx.t6(X:Cx):Cx:=X.jb fun _ _=>False
theorem Cx.Ok.jb{X:Cx}(ok:X.Ok)(E:Value->Shared->Prop):(X.jb E).Ok:=
 ⟨ok.mod,ok.kind,ok.glob,ok.blt,ok.above,ok.inj,ok.has,ok.oU,ok.hd,ok.frames,ok.stk,ok.rD,ok.bs,ok.kB,ok.oV,ok.p6,ok.ir,ok.kK⟩
theorem Cx.Ok.kg{X:Cx}{E:Value->Shared->Prop}(ok:(X.jb E).Ok):X.Ok:=
 ⟨ok.mod,ok.kind,ok.glob,ok.blt,ok.above,ok.inj,ok.has,ok.oU,ok.hd,ok.frames,ok.stk,ok.rD,ok.bs,ok.kB,ok.oV,ok.p6,ok.ir,ok.kK⟩
section
variable{X:Cx}{pins:List (Addr×Obj)}{σ:St}{H:Hp}{s:Shared}{E:Value->Shared->Prop}
theorem Inv.jb(I:Inv X pins σ H s)(E:Value->Shared->Prop):Inv (X.jb E) pins σ H s:=⟨I.ok.jb E,I.os,I.bare,I.base,I.loc,I.cell,I.free,I.iI,I.pin,I.hok,I.len⟩
theorem Inv.kg(I:Inv (X.jb E) pins σ H s):Inv X pins σ H s:=⟨I.ok.kg,I.os,I.bare,I.base,I.loc,I.cell,I.free,I.iI,I.pin,I.hok,I.len⟩
theorem SP.kg{D:Ends}{f:Flow}{s':Shared}(h:SP (X.jb E) pins D f s'):SP X pins D f s':=by
 cases f with
 |next=>obtain⟨σ',H',I,q⟩:=h;exact⟨σ',H',I.kg,q⟩
 |brk=>obtain⟨σ',H',I,q⟩:=h;exact⟨σ',H',I.kg,q⟩
 |cont=>obtain⟨σ',H',I,q⟩:=h;exact⟨σ',H',I.kg,q⟩
 |ret u=>obtain⟨v,σ',H',I,r,q⟩:=h;exact⟨v,σ',H',I.kg,r,q⟩
theorem gR.t6{st:List Stmt}{t:TS}(h:gR X.t6 st t):gR X st t:=fun pins s σ H D I hw=>
 wpAny_mono (h pins s σ H D (I.jb _) hw) (fun _ _ q=>q.kg) fun _ _ z=>False.elim z
end
section
variable{X:Cx}{st:Stmt}{rest:List Stmt}{t u:TS}{e:Expr}{te:TE}{pos:Pos}
def xN:TS:=fun D σ H=>D.nx σ H
def pK(t u:TS):TS:=fun D σ H=>t {D with nx:=u D} σ H
theorem cX:gR X [] xN:=fun _ _ σ H _ I h=>wpAny_execs_nil ⟨σ,H,I,h⟩
theorem aB(h1:PS X st t)(h2:gR X rest u):gR X (st::rest) (pK t u):=by
  intro pins s σ H D I h
  refine wpAny_execs_cons (aI (h1 pins s σ H {D with nx:=u D} I h) fun f s1 q=>?_)
  cases f with
  | next =>
    obtain⟨σ',H',I',q⟩:=q
    exact h2 pins s1 σ' H' D I' q
  |ret v=>exact q
  |brk=>exact q
  |cont=>exact q
theorem aD(h1:PS X st t):gR X [st] t:=by
 intro pins s σ H D I h
 refine wpAny_execs_cons (aI (h1 pins s σ H D I h) fun f s1 q=>?_)
 cases f with
 |next=>exact wpAny_execs_nil q
 |ret v=>exact q
 |brk=>exact q
 |cont=>exact q
def NR:TS:=fun D σ H=>D.bk σ H
def M5:TS:=fun D σ H=>D.ct σ H
theorem Inv.quiet{pins:List (Addr×Obj)}{σ:St}{H:Hp}{s:Shared}(I:Inv X pins σ H s):interactive X.env=false:=by simp[interactive,I.ok.kind]
def qN(te:TE):TS:=fun D σ H=>te σ H fun _ H1=>D.nx σ H1
theorem kU(he:PE X e te)(hs:swapsWith e none pos.line X.env=pure false:=by rfl):PS X (.Expr e pos) (qN te):=by
 intro pins s σ H D I h
 exact wpAny_Expr_any (aI (he pins s σ H _ I h) fun v s1 ⟨x,H1,I1,r1,q1⟩=>⟨σ,H1,I1,q1⟩) I.quiet hs
def mz(te:TE):TS:=fun D σ H=>te σ H D.rt
theorem aV(he:PE X e te):PS X (.Return (some e) pos) (mz te):=by
 intro pins s σ H D I h
 exact wpAny_Return_some (aI (he pins s σ H _ I h) fun v s1 ⟨x,H1,I1,r1,q1⟩=>⟨x,σ,H1,I1,r1,q1⟩)
def xJ(c:TT)(t u:TS):TS:=fun D σ H=>c σ H fun b H1=>if b=true then t D σ H1 else u D σ H1
theorem cV{c:Expr}{a b:List Stmt}{tc:TT}(hc:PT X c tc)(ha:gR X a t)(hb:gR X b u):PS X (.If c a b pos) (xJ tc t u):=by
 intro pins s σ H D I h
 refine wpAny_If (aI (hc pins s σ H _ I h) fun d s1 ⟨H1,I1,q1⟩=>?_)
 cases d with
 |true=>exact ha pins s1 σ H1 D I1 q1
 |false=>exact hb pins s1 σ H1 D I1 q1
end
abbrev TG:=V->St->Hp->(St->Hp->Prop)->Prop
abbrev fN:=List V->St->Hp->(St->Hp->Prop)->Prop
def PG(X:Cx)(target:Expr)(t:TG):Prop:=
 ∀(pins:List (Addr×Obj)) (s:Shared) (σ:St) (H:Hp) (v:V) (u:Value) (Q:St->Hp->Prop),Inv X pins σ H s->RelV v u->t v σ H Q->
  wpAny (model X.prog X.w) X.A (assign target X.env u) (fun _ s'=>∃σ' H',Inv X pins σ' H' s'/\Q σ' H') X.xe s
def nX(X:Cx)(ts:List Expr)(t:fN):Prop:=
 ∀(pins:List (Addr×Obj)) (s:Shared) (σ:St) (H:Hp) (vs:List V) (us:List Value) (Q:St->Hp->Prop),Inv X pins σ H s->Vals vs us->t vs σ H Q->
  wpAny (model X.prog X.w) X.A (assignInOrder ((assignEach ts X.env).map (·.2)) us) (fun _ s'=>∃σ' H',Inv X pins σ' H' s'/\Q σ' H') X.xe s
abbrev mC:=V->V->V->Hp->(Hp->Prop)->Prop
def qP(X:Cx)(t:mC):Prop:=
 ∀(pins:List (Addr×Obj)) (s:Shared) (σ:St) (H:Hp) (o i v:V) (ov iv u:Value) (Q:Hp->Prop),Inv X pins σ H s->RelV o ov->RelV i iv->RelV v u->t o i v H Q->
  wpAny (model X.prog X.w) X.A (setItem ov iv u) (fun _ s'=>∃H',Inv X pins σ H' s'/\Q H') X.xe s
abbrev tZ:=V->V->Hp->VK->Prop
def DU(X:Cx)(op:Operator)(t:tZ):Prop:=
 ∀(pins:List (Addr×Obj)) (s:Shared) (σ:St) (H:Hp) (x y:V) (v u:Value) (Q:VK),Inv X pins σ H s->RelV x v->RelV y u->t x y H Q->
  wpAny (model X.prog X.w) X.A (inplaceOp op v u) (EP X pins σ Q) X.xe s
section
variable{X:Cx}{pos:Pos}
def dW(i:Nat):TG:=fun v σ H Q=>Q (σ.set i (some v)) H
theorem aK{i:Nat}{x:Str}(hN:X.N.Nodup)(hi:X.N[i]?=some x)(hx:Loc X.env.scope x)(hf:X.fn x=true\/X.env.scope.names.lookup x=some .local:=by first|exact .inl rfl|exact .inr rfl|assumption):PG X (.Name x pos) (dW i):=by
 intro pins s σ H v u Q I r h
 exact wpAny_assign_Name (IB I hN hi hx r (fun s' I'=>⟨_,H,I',h⟩) hf)
def oR:fN:=fun vs σ H Q=>vs=[]/\Q σ H
def lU(t:TG)(u:fN):fN:=fun vs σ H Q=>∃v r,vs=v::r/\t v σ H fun σ' H'=>u r σ' H' Q
theorem gF:nX X [] oR:=by
 intro pins s σ H vs us Q I r h
 obtain⟨e,h⟩:=h
 subst e
 cases r
 exact assignInOrder_nil ⟨σ,H,I,h⟩
theorem bZ{e:Expr}{es:List Expr}{t:TG}{u:fN}(h1:PG X e t)(h2:nX X es u)
    (hs:(assignEach (e::es) X.env).map (·.2)=assign e X.env::(assignEach es X.env).map (·.2):=by rfl):nX X (e::es) (lU t u):=by
  intro pins s σ H vs us Q I r h
  obtain⟨v,vr,e1,h⟩:=h
  subst e1
  cases r with
  | cons r rr =>
    rw[hs]
    refine assignInOrder_cons (aI (h1 pins s σ H _ _ _ I r h) fun _ s1 ⟨σ1,H1,I1,q1⟩=>?_)
    exact h2 pins s1 σ1 H1 _ _ Q I1 rr q1
def mw(K:PySem.W.Frag)(n:Nat)(t:fN):TG:=fun v σ H Q=>∃a xs,v= .ref a/\eE K H a xs/\xs.length=n/\t xs σ H Q
theorem DN{es:List Expr}{k:Nat}{t:fN}{n:Nat}(hc:X.calm=true)(h:nX X es t)
  (hn:(assignEach es X.env).length=n:=by rfl) (hst:(assignEach es X.env).findIdx? (·.1)=none:=by rfl):PG X (.Tuple es k pos) (mw X.K n t):=by
 intro pins s σ H v u Q I r hw
 obtain⟨a,xs,e1,hq,hl,hw⟩:=hw
 subst e1
 cases r
 obtain⟨its,rv,ht,hz⟩:=I.tuple hq
 refine assign_Tuple_tuple (I.ok.hd hc) ht (by simp[hn,<-hl,rv.length]) hst fun h' hx=>?_
 have I1:Inv X pins σ H {s with heap:=h'}:=I.kept (t':=s.toks) fun b o e=>hx b o (Nat.ne_of_lt (Heap.lt_size e)) e
 exact h pins _ σ H xs _ Q I1 (by simpa using rv) hw
def qa(to ti:TE)(t:mC):TG:=fun v σ H Q=>to σ H fun o H1=>ti σ H1 fun i H2=>t o i v H2 fun H3=>Q σ H3
theorem jy{o i:Expr}{to ti:TE}{t:mC}(ho:PE X o to)(hi:PE X i ti)(hs:qP X t)
  (ha : ∀ v, assign (.Subscript o i pos) X.env v = (do
   let ov<-holding [v] (eval o X.env)
   let iv<-holding [v,ov] (eval i X.env)
   standAt pos
   holding [v,ov,iv] (setItem ov iv v)
   release [v,ov,iv] []):=by intro _;rfl):PG X (.Subscript o i pos) (qa to ti t):=by
 intro pins s σ H v u Q I r h
 rw[ha]
 refine wpAny_bind (wpAny_holding (aI (ho pins s σ H _ I h) fun ov s1 ⟨x,H1,I1,r1,q1⟩=>?_))
 refine wpAny_bind (wpAny_holding (aI (hi pins s1 σ H1 _ I1 q1) fun iv s2 ⟨y,H2,I2,r2,q2⟩=>?_))
 refine wpAny_bind (wpAny_standAt (wpAny_bind (wpAny_holding (aI (hs pins s2 σ H2 x y v ov iv u _ I2 r1 r2 r q2) fun _ s3 ⟨H3,I3,q3⟩=>?_))))
 exact wpAny_release ⟨σ,H3,I3,q3⟩
def fW(te:TE)(g:TG):TS:=fun D σ H=>te σ H fun x H1=>g x σ H1 D.nx
theorem iy{tg e:Expr}{te:TE}{g:TG}(he:PE X e te)(hg:PG X tg g)(hs:swapsWithSole [tg] e pos.line X.env=pure false:=by rfl)(hw:swappedStores [tg] e X.env=pure none:=by rfl)
  (h1:(assignEach [tg] X.env).map (·.2)=[assign tg X.env]:=by rfl):PS X (.Assign [tg] e pos) (fW te g):=by
 intro pins s σ H D I h
 refine wpAny_Assign_stores (aI (he pins s σ H _ I h) fun v s1 ⟨x,H1,I1,r1,q1⟩=>?_) hs hw
 rw[h1]
 exact aI (hg pins s1 σ H1 x v _ I1 r1 q1) fun _ s2 q=>q
theorem aT{i:Nat}{x:Str}{e:Expr}{te:TE}{pos':Pos}(hN:X.N.Nodup)(hi:X.N[i]?=some x)(hx:Loc X.env.scope x)(he:PE X e te)(hs:swapsWith e (some (.Name x pos')) pos.line X.env=pure false:=by rfl)(hf:X.fn x=true\/X.env.scope.names.lookup x=some .local:=by first|exact .inl rfl|exact .inr rfl|assumption):
  PS X (.Assign [.Name x pos'] e pos) (fW te (dW i)):=by
 intro pins s σ H D I h
 refine wpAny_Assign_Name (aI (he pins s σ H _ I h) fun v s1 ⟨y,H1,I1,r1,q1⟩=>?_) hs
 exact IB I1 hN hi hx r1 (fun s2 I2=>⟨_,H1,I2,q1⟩) hf
def Gk(to ti te:TE)(qC:V->V->Hp->VK->Prop)(tN:tZ)(tH:mC):TS:=fun D σ H=>to σ H fun o H1=>ti σ H1 fun i H2=>qC o i H2 fun x H3=>te σ H3 fun y H4=>tN x y H4 fun z H5=>tH o i z H5 fun H6=>D.nx σ H6
def EY(X:Cx)(t:V->V->Hp->VK->Prop):Prop:=
 ∀(pins:List (Addr×Obj)) (s:Shared) (σ:St) (H:Hp) (o i:V) (ov iv:Value) (Q:VK),Inv X pins σ H s->RelV o ov->RelV i iv->t o i H Q->
  wpAny (model X.prog X.w) X.A (getItem ov iv) (EP X pins σ Q) X.xe s
theorem V0{o i e:Expr}{to ti te:TE}{qC:V->V->Hp->VK->Prop}{tN:tZ}{tH:mC}{op:Operator}{tpos:Pos}(ho:PE X o to)(hi:PE X i ti)(hg:EY X qC)(he:PE X e te)(hp:DU X op tN)(hs:qP X tH)
  (ha:∀ov iv new,augStore i ov iv new=(do holding [new,ov,iv] (setItem ov iv new);release [new,ov,iv] [];pure .next):=by intros;rfl):PS X (.AugAssign (.Subscript o i tpos) op e pos) (Gk to ti te qC tN tH):=by
 intro pins s σ H D I h
 refine wpAny_AugAssign_SubscriptAny (aI (ho pins s σ H _ I h) fun ov s1 ⟨x1,H1,I1,r1,q1⟩=>?_) ha
 refine aI (hi pins s1 σ H1 _ I1 q1) fun iv s2 ⟨x2,H2,I2,r2,q2⟩=>?_
 refine aI (hg pins s2 σ H2 x1 x2 ov iv _ I2 r1 r2 q2) fun old s3 ⟨x3,H3,I3,r3,q3⟩=>?_
 refine aI (he pins s3 σ H3 _ I3 q3) fun v s4 ⟨x4,H4,I4,r4,q4⟩=>?_
 refine aI (hp pins s4 σ H4 x3 x4 old v _ I4 r3 r4 q4) fun new s5 ⟨x5,H5,I5,r5,q5⟩=>?_
 exact aI (hs pins s5 σ H5 x1 x2 x5 ov iv new _ I5 r1 r2 r5 q5) fun _ s6 ⟨H6,I6,q6⟩=>⟨σ,H6,I6,q6⟩
def Dz(f:Int->Int->Int):tZ:=fun x y H Q=>∃i j,x= .int i/\y= .int j/\Q (.int (f i j)) H
theorem Z7:DU X .Sub (Dz fun i j=>i-j):=by
 intro pins s σ H x y v u Q I r1 r2 h
 obtain⟨i,j,e1,e2,q⟩:=h
 subst e1;subst e2
 obtain⟨t,rfl⟩:=r1
 obtain⟨t',rfl⟩:=r2
 exact isub_int ⟨.int _,H,I.tok _,⟨_,rfl⟩,q⟩
end
section
variable{X:Cx}{pos:Pos}
def xT(c:TT)(tb:TS):TS:=fun D σ H=>∃W:Nat->St->Hp->Prop,(∃m,W m σ H)/\∀m σ H,W m σ H->
 c σ H fun b H1=>if b=true then∃N:St->Hp->Prop,(∀σ' H',N σ' H'->∃m',m'<m/\W m' σ' H')/\tb {D with nx:=N,ct:=N,bk:=D.nx} σ H1 else D.nx σ H1
theorem sF{c:Expr}{body:List Stmt}{tc:TT}{tb:TS}(hp:PassesOwn (model X.prog X.w) X.A X.env X.xe)(hc:PT X c tc)(hb:gR X body tb):PS X (.While c body [] pos) (xT tc tb):=by
  intro pins s σ H D I h
  obtain⟨W,⟨m0,w0⟩,turn⟩:=h
  refine wpAny_While (codeAny_whileLoop (fun n s'=>∃σ' H',Inv X pins σ' H' s'/\W n σ' H') ?_ m0 ⟨σ,H,I,w0⟩)
  rintro n s1 ⟨σ1,H1,I1,w1⟩
  refine wpAny_passesOwn hp (aI (hc pins s1 σ1 H1 _ I1 (turn n σ1 H1 w1)) fun b s2 ⟨H2,I2,q2⟩=>?_)
  cases b with
  | true =>
    obtain⟨N,hN,q2⟩:=q2
    rw[if_pos rfl]
    refine wpAny_passesOwn hp (aI (hb pins s2 σ1 H2 _ I2 q2) fun f s3 q3=>?_)
    cases f with
    | next =>
      obtain⟨σ3,H3,I3,n3⟩:=q3
      obtain⟨m',hm,w3⟩:=hN σ3 H3 n3
      exact⟨m',hm,σ3,H3,I3,w3⟩
    | cont =>
      obtain⟨σ3,H3,I3,n3⟩:=q3
      obtain⟨m',hm,w3⟩:=hN σ3 H3 n3
      exact⟨m',hm,σ3,H3,I3,w3⟩
    |brk=>exact q3
    |ret v=>exact q3
  | false =>
    rw[if_neg Bool.false_ne_true]
    exact wpAny_execs_nil ⟨σ1,H2,I2,q2⟩
end
structure It where
 go:Nat->Hp->Prop
 ki:Nat->Hp->V->Hp->Prop
 stop:Nat->Hp->Prop
def gu(X:Cx)(pins:List (Addr×Obj))(H:Hp)(b:Addr):Prop:=
 H b=none/\b≠X.env.locals/\b∉X.fs/\(b∈X.ex\/X.s₀.heap.objs.size<=b)/\(∀x c,X.env.cells.lookup x=some c->c≠b)/\∀p∈X.pn++pins,p.1≠b
theorem Inv.oO{X:Cx}{pins:List (Addr×Obj)}{σ:St}{H H':Hp}{s:Shared}{b:Addr}(I:Inv X pins σ H s)(hb:s.heap.objs.size<=b)(hn:H' b=none):gu X pins H' b:=by
 refine⟨hn,Nat.ne_of_gt (Nat.lt_of_lt_of_le I.lt hb),I.K9 hb, .inr (Nat.le_trans I.sz hb),fun x c e z=>?_,fun p hp z=>?_⟩
 ·obtain⟨v,q⟩:=I.cell x c e
  exact absurd (Nat.lt_of_lt_of_le q.lt (by rw[z];exact hb)) (Nat.lt_irrefl _)
 ·exact absurd (Nat.lt_of_lt_of_le (Heap.lt_size (I.pin p hp).1) (by rw[z];exact hb)) (Nat.lt_irrefl _)
structure Turn(P:Program)(w:World)(K:PySem.W.Frag)(tg:Expr)(J:It)(fp:List Addr)(it:Addr)(tn:Nat->Heap->Prop):Prop where
 mem:it∈fp
 obj:∀i h,tn i h->∀b∈fp,∃o,h.get? b=some o/\∀v,o.data≠ .cell v
 keep:∀i h h',tn i h->(∀b∈fp,∀o,h.get? b=some o->h'.get? b=some o)->tn i h'
 item:∀(X:Cx),X.prog=P->X.w=w->X.K=K->X.calm=true->∀(i:Nat) (pins:List (Addr×Obj)) (s:Shared) (σ:St) (H:Hp) (E:Value->Shared->Prop),Inv X pins σ H s->(∀b∈fp,gu X pins H b)->tn i s.heap->J.go i H->
  wpAny (model P w) X.A (pyNext (.ref it)) (fun r s1=>∃u,r=some u/\
   wpAny (model P w) X.A (letOwnedTupleGo tg (.ref it) u) (fun _ s2=>∃x H',Inv X pins σ H' s2/\RelV x u/\J.ki i H x H'/\tn (i+1) s2.heap/\∀b∈fp,H' b=none) E s1) E s
 done:∀(X:Cx),X.prog=P->X.w=w->X.K=K->X.calm=true->∀(i:Nat) (pins:List (Addr×Obj)) (s:Shared) (σ:St) (H:Hp) (E:Value->Shared->Prop),Inv X pins σ H s->(∀b∈fp,gu X pins H b)->tn i s.heap->J.stop i H->
  wpAny (model P w) X.A (pyNext (.ref it)) (fun r s1=>r=none/\Inv X pins σ H s1) E s
 self:∀(A:Around) (i:Nat) (s:Shared) (Q:Value->Shared->Prop) (E:Value->Shared->Prop),tn i s.heap->Q (.ref it) s->wpAny (model P w) A (pyIter (.ref it)) Q E s
abbrev TI:=St->Hp->(It->Hp->Prop)->Prop
def HQ(X:Cx)(pins:List (Addr×Obj))(σ:St)(tg:Expr)(R:It->Hp->Prop)(itv:Value)(s2:Shared):Prop:=
 ∃(it:Addr) (fp:List Addr) (tn:Nat->Heap->Prop) (J:It) (H':Hp),itv= .ref it/\Inv X pins σ H' s2/\Turn X.prog X.w X.K tg J fp it tn/\tn 0 s2.heap/\(∀b∈fp,gu X pins H' b)/\R J H'
def PI(X:Cx)(tg iter:Expr)(wi:TI):Prop:=
 ∀(pins:List (Addr×Obj)) (s:Shared) (σ:St) (H:Hp) (R:It->Hp->Prop),Inv X pins σ H s->wi σ H R->
  wpAny (model X.prog X.w) X.A (eval iter X.env) (fun v s1=>wpAny (model X.prog X.w) X.A (pyIter v) (HQ X pins σ tg R) X.xe s1) X.xe s
theorem GP{M:Model}{A:Around}{E:Value->Shared->Prop}{s:Shared}{tg:Expr}{it:Addr}{u:Value}{o:Obj}{n:String}{vs:Array Value}{Q:Unit->Shared->Prop}(ho:s.heap.get? it=some o)(hc:o.cls= .type n)(hd:o.data= .fields vs)
    (hn:["enumerate","zip","dict_itemiterator","dict_reverseitemiterator","odict_iterator","itertools.zip_longest","itertools.pairwise"].contains n=false) (hQ:Q () s):wpAny M A (letOwnedTupleGo tg (.ref it) u) Q E s:=by
  unfold letOwnedTupleGo
  cases tg<;>first
    |exact wpAny_pure hQ
    |(cases u<;>first
        |exact wpAny_pure hQ
        | (refine wpAny_bind (wpAny_load ho ?_)
           rw[hc,hd]
           show wpAny M A (if(["enumerate","zip","dict_itemiterator","dict_reverseitemiterator","odict_iterator","itertools.zip_longest","itertools.pairwise"].contains n && vs[0]?==some (rawInt _))=true then _ else _) Q E s
           rw[if_neg (by intro h;rw[hn,Bool.false_and] at h;cases h)]
           exact wpAny_pure hQ))
def mq(K:PySem.W.Frag)(a:Addr):It:=
 ⟨fun i H=>∃xs x,aQ K H a xs/\xs[i]?=some x,fun i H x H'=>H'=H/\∀xs,aQ K H a xs->xs[i]?=some x,fun i H=>∃xs,aQ K H a xs/\xs.length<=i⟩
def gK(lo:Int)(n:Nat):It:=⟨fun i _=>i<n,fun i H x H'=>H'=H/\x= .int (lo+i),fun i _=>n<=i⟩
theorem KP{P:Program}{w:World}{K:PySem.W.Frag}{tg:Expr}(a it:Addr):Turn P w K tg (mq K a) [it] it (fun i h=>h.IsListIter it a i) where
 mem:=by simp
 obj:=fun i h st b hb=>by
  have e:b=it:=by simpa using hb
  subst e
  obtain⟨o,e,c,d⟩:=st
  exact⟨o,e,fun v z=>by rw[d] at z;cases z⟩
 keep:=fun i h h' st k=>st.at fun o e=>k it (by simp) o e
 item:=by
  intro X hP hw hK hc i pins s σ H E I hf st hg
  subst hP hw hK
  obtain⟨xs,x,hq,hx⟩:=hg
  obtain⟨its,rv,p,hz⟩:=I.list hq
  obtain⟨u,hu,ru⟩:=rv.get hx
  obtain⟨f0,f1,f2,f3,f4,f5⟩:=hf it (by simp)
  refine wpAny_pyNext_list_item st p.isList (x:=u) (by simpa using hu) fun h' st' sb=>?_
  have I1:Inv X pins σ H {s with heap:=h'}:=I.turned (t':=s.toks) (fun b o hb e=>(sb.2 b hb).trans e) f0 f1 f3 f4 f5
  obtain⟨o,e,c,d⟩:=id st'
  exact⟨u,rfl,GP (s:={s with heap:=h'}) e c d (by decide) ⟨x,H,I1,ru,⟨rfl,fun ys hy=>by rw[I.Ho hy hq];exact hx⟩,st',fun b hb=>(hf b hb).1⟩⟩
 done:=by
  intro X hP hw hK hc i pins s σ H E I hf st hg
  subst hP hw hK
  obtain⟨xs,hq,hx⟩:=hg
  obtain⟨its,rv,p,hz⟩:=I.list hq
  obtain⟨f0,f1,f2,f3,f4,f5⟩:=hf it (by simp)
  have hl:=rv.length
  exact wpAny_pyNext_list_end (I.ok.hd hc) st p.isList (by simp;omega) fun h' eb=>⟨rfl,I.turned (t':=s.toks) (fun b o hb e=>eb b o hb e) f0 f1 f3 f4 f5⟩
 self:=fun _ _ _ _ _ st h=>wpAny_pyIter_listiter st h
theorem Vo{P:Program}{w:World}{K:PySem.W.Frag}{tg:Expr}(it:Addr)(lo:Int)(n:Nat):Turn P w K tg (gK lo n) [it] it (fun i h=>IsRangeIter h it (lo+(i:Nat)*1) ((n:Int)-(i:Nat)) 1) where
 mem:=by simp
 obj:=fun i h st b hb=>by
  have e:b=it:=by simpa using hb
  subst e
  exact⟨_,st,fun v z=>by
   have z':Data.fields _=Data.cell v:=z
   cases z'⟩
 keep:=fun i h h' st k=>k it (by simp) _ st
 item:=by
  intro X hP hw hK hc i pins s σ H E I hf st hg
  subst hP hw hK
  obtain⟨f0,f1,f2,f3,f4,f5⟩:=hf it (by simp)
  have W:=Walks.range (prog:=X.prog) (w:=X.w) (I.ok.hd hc) it lo 1 n
  refine W.item i s _ _ hg st fun v h' tk hv st' kk=>?_
  obtain⟨t,rfl⟩:=hv
  have I1:Inv X pins σ H {s with heap:=h',toks:=tk}:=I.turned (fun b o hb e=>kk b o (by simpa using hb) e) f0 f1 f3 f4 f5
  refine⟨_,rfl,GP (s:={s with heap:=h',toks:=tk}) (n:="range_iterator") st' rfl rfl (by decide) ⟨.int (lo+i),H,I1,⟨t,?_⟩,⟨rfl,rfl⟩,st',fun b hb=>(hf b hb).1⟩⟩
  rw[Int.mul_one]
 done:=by
  intro X hP hw hK hc i pins s σ H E I hf st hg
  subst hP hw hK
  obtain⟨f0,f1,f2,f3,f4,f5⟩:=hf it (by simp)
  exact wpAny_pyNext_range_end (I.ok.hd hc) st (by have:n<=i:=hg;omega) fun h' eb=>⟨rfl,I.turned (t':=s.toks) (fun b o hb e=>eb b o hb e) f0 f1 f3 f4 f5⟩
 self:=fun _ _ _ _ _ st h=>wpAny_pyIter_rangeiter st h
section
variable{X:Cx}{tg:Expr}
def nh(K:PySem.W.Frag)(tl:TE):TI:=fun σ H R=>tl σ H fun x H1=>∃a,x= .ref a/\(∃xs,aQ K H1 a xs)/\R (mq K a) H1
theorem YO{l:Expr}{tl:TE}(hl:PE X l tl):PI X tg l (nh X.K tl):=by
 intro pins s σ H R I h
 refine aI (hl pins s σ H _ I h) fun v s1 ⟨x,H1,I1,r1,q1⟩=>?_
 obtain⟨a,e,⟨xs,hq⟩,q⟩:=q1
 subst e
 cases r1
 obtain⟨its,rv,p,hz⟩:=I1.list hq
 refine wpAny_pyIter_list p.isList ?_
 refine⟨s1.heap.objs.size,[s1.heap.objs.size],_,_,H1,rfl,I1.kept (t':=s1.toks) fun b o e=>Heap.get?_push_of_some _ e,KP a _,⟨_,Heap.get?_push_size _ rfl,rfl,rfl⟩,fun b hb=>?_,q⟩
 have e:b=s1.heap.objs.size:=by simpa using hb
 subst e
 exact I1.oO (Nat.le_refl _) (I1.hok.fresh (Nat.le_refl _))
theorem CH{pins:List (Addr×Obj)}{σ:St}{H:Hp}{s:Shared}{R:It->Hp->Prop}{E:Value->Shared->Prop}{lo hi:Int}{t u v:Tok}{tk:Nat}(I:Inv X pins σ H s)(h1: -(2^62)<=lo)(h2:lo<2^62)(h3: -(2^62)<=hi)(h4:hi<2^62)
  (q:R (gK lo (hi-lo).toNat) H):wpAny (model X.prog X.w) X.A (pyIter (.ref s.heap.objs.size)) (HQ X pins σ tg R) E {s with heap:=s.heap.push {cls:= .type "range",data:= .fields #[.int lo t, .int hi u, .int 1 v]},toks:=tk}:=by
 refine wpAny_pyIter_range (IsRange.new ..) (small_one h1 h2 h3 h4) ?_
 have I1:Inv X pins σ H {s with heap:=s.heap.push {cls:= .type "range",data:= .fields #[.int lo t, .int hi u, .int 1 v]},toks:=tk}:=I.kept fun b o e=>Heap.get?_push_of_some _ e
 refine⟨(s.heap.push {cls:= .type "range",data:= .fields #[.int lo t, .int hi u, .int 1 v]}).objs.size,[(s.heap.push {cls:= .type "range",data:= .fields #[.int lo t, .int hi u, .int 1 v]}).objs.size],_,_,H,rfl,
  I1.kept (t':=tk) fun b o e=>Heap.get?_push_of_some _ e,Vo _ lo (hi-lo).toNat,?_,fun b hb=>?_,q⟩
 ·have e1:lo+((0:Nat):Int)*1=lo:=by simp
  have e2:(((hi-lo).toNat:Nat):Int)-((0:Nat):Int)=Builtin.Range.rangeSize lo hi 1:=by rw[rangeSize_one];split<;>omega
  show IsRangeIter _ _ (lo+((0:Nat):Int)*1) ((((hi-lo).toNat:Nat):Int)-((0:Nat):Int)) 1
  rw[e1,e2]
  exact Heap.get?_push_size _ rfl
 ·have e:b=(s.heap.push {cls:= .type "range",data:= .fields #[.int lo t, .int hi u, .int 1 v]}).objs.size:=by simpa using hb
  subst e
  exact I1.oO (Nat.le_refl _) (I1.hok.fresh (Nat.le_refl _))
def o5(ta:TA):TI:=fun σ H R=>ta σ H fun vs H1=>∃j:Int,vs=[.int j]/\ -(2^62)<=j/\j<2^62/\R (gK 0 j.toNat) H1
def HL(ta:TA):TI:=fun σ H R=>ta σ H fun vs H1=>∃i j:Int,vs=[.int i, .int j]/\(-(2^62)<=i/\i<2^62/\ -(2^62)<=j/\j<2^62)/\R (gK i (j-i).toNat) H1
theorem gz{a:Expr}{ta:TA}{p pos:Pos}(hg:Gl X "range")(hm:X.mg "range"=none)(ha:PA X [a] ta)(hs:starEach [a] X.env=[(false,eval a X.env)]:=by rfl):PI X tg (.Call (.Name "range" p) [a] [] pos) (o5 ta):=by
  intro pins s σ H R I h
  refine Call_ (nI I hg hm boot_range (PyProof.Rows.callWith_type1 (aI (ha pos pins s σ H _ I h) fun us s1 ⟨vs,H1,I1,r1,q1⟩=>?_) hs rfl))
  obtain⟨j,e,q1,q2,q⟩:=q1
  subst e
  cases r1 with
  | cons r rr =>
    cases rr
    obtain⟨t,rfl⟩:=r
    exact call_range_1 (CH I1 (by omega) (by omega) q1 q2 (by simpa using q))
theorem Hv{a b:Expr}{ta:TA}{p pos:Pos}(hg:Gl X "range")(hm:X.mg "range"=none)(ha:PA X [a,b] ta)(hs:starEach [a,b] X.env=[(false,eval a X.env),(false,eval b X.env)]:=by rfl)(hs2:starEach [b] X.env=[(false,eval b X.env)]:=by rfl):
    PI X tg (.Call (.Name "range" p) [a,b] [] pos) (HL ta):=by
  intro pins s σ H R I h
  refine Call_ (nI I hg hm boot_range (PyProof.Rows.callWith_type1 (aI (ha pos pins s σ H _ I h) fun us s1 ⟨vs,H1,I1,r1,q1⟩=>?_) (by rw[hs,hs2]) (by rw[hs2];rfl)))
  obtain⟨i,j,e,⟨q1,q2,q3,q4⟩,q⟩:=q1
  subst e
  cases r1 with
  | cons r rr =>
    cases rr with
    | cons r' rr =>
      cases rr
      obtain⟨t,rfl⟩:=r
      obtain⟨t',rfl⟩:=r'
      exact call_range_2 (CH I1 q1 q2 q3 q4 q)
def m9(wi:TI)(g:TG)(tb:TS):TS:=fun D σ H=>wi σ H fun J H1=>∃W:Nat->Nat->St->Hp->Prop,(∃m,W 0 m σ H1)/\∀i m σ H,W i m σ H->
 (J.stop i H/\D.nx σ H)\/(J.go i H/\∃N:St->Hp->Prop,(∀σ' H',N σ' H'->∃m',m'<m/\W (i+1) m' σ' H')/\∀x H',J.ki i H x H'->g x σ H' fun σ2 H2=>tb {D with nx:=N,ct:=N,bk:=D.nx} σ2 H2)
def oG(fp:List Addr)(h:Heap):List (Addr×Obj):=fp.filterMap fun b=>(h.get? b).map fun o=>(b,o)
theorem tV{fp:List Addr}{h:Heap}{b:Addr}{o:Obj}(hb:b∈fp)(e:h.get? b=some o):(b,o)∈oG fp h:=List.mem_filterMap.mpr ⟨b,hb,by rw[e];rfl⟩
theorem Pn{fp:List Addr}{h:Heap}{p:Addr×Obj}(hp:p∈oG fp h):p.1∈fp/\h.get? p.1=some p.2:=by
  obtain⟨b,hb,e⟩:=List.mem_filterMap.mp hp
  cases q:h.get? b with
  |none=>rw[q] at e;cases e
  | some o =>
    rw[q] at e
    have e':(b,o)=p:=Option.some.inj e
    subst e'
    exact⟨hb,q⟩
theorem Inv.pinned{pins:List (Addr×Obj)}{σ:St}{H:Hp}{s:Shared}{fp:List Addr}(I:Inv X pins σ H s)(hf:∀b∈fp,gu X pins H b)(ho:∀b∈fp,∃o,s.heap.get? b=some o/\∀v,o.data≠ .cell v):Inv X (pins++oG fp s.heap) σ H s:=
 I.BV fun p hp=>(List.mem_append.mp hp).elim (fun z=>I.pin p (List.mem_append_right _ z)) fun z=>by
  obtain⟨hb,e⟩:=Pn z
  obtain⟨f0,f1,f2,_⟩:=hf p.1 hb
  obtain⟨o,e',d⟩:=ho p.1 hb
  rw[e] at e';cases e'
  exact⟨e,f0,f1,f2,d⟩
theorem Inv.qw{pins pl:List (Addr×Obj)}{σ:St}{H:Hp}{s:Shared}(I:Inv X (pins++pl) σ H s):Inv X pins σ H s:=I.BV fun p hp=>I.pin p (List.mem_append_right _ (List.mem_append_left _ hp))
theorem fM{iter:Expr}{body:List Stmt}{wi:TI}{g:TG}{tb:TS}{pos:Pos}(hp:PassesOwn (model X.prog X.w) X.A X.env X.xe)(hc:X.calm=true)(hi:PI X tg iter wi)(hg:PG X tg g)(hb:gR X body tb)
  (hs:∀x,foldedSetIterable iter X.env x=pure x:=by intro _;rfl):PS X (.For tg iter body [] pos) (m9 wi g tb):=by
 intro pins s σ H D I h
 refine wpAny_For (aI (hi pins s σ H _ I h) fun v s1 h1=>aI h1 fun itv s2 h2=>?_) hs
 obtain⟨it,fp,tn,J,H2,e,I2,T,st2,f2,W,⟨m0,w0⟩,turn⟩:=h2
 subst e
 have kh:∀{H':Hp},(∀b∈fp,H' b=none)->∀b∈fp,gu X pins H' b:=fun hn b hb=>⟨hn b hb,(f2 b hb).2⟩
 refine codeAny_forLoop_any (fun n s'=>∃i σ' H',Inv X pins σ' H' s'/\tn i s'.heap/\(∀b∈fp,H' b=none)/\W i n σ' H') ?_ m0 ⟨0,σ,H2,I2,st2,fun b hb=>(f2 b hb).1,w0⟩
 rintro n s3 ⟨i,σ3,H3,I3,st3,fr3,w3⟩
 rcases turn i n σ3 H3 w3 with ⟨stop,qn⟩|⟨go,N,hN,step⟩
 ·refine wpAny_passesOwn hp (aI (T.done X rfl rfl rfl hc i pins s3 σ3 H3 X.xe I3 (kh fr3) st3 stop) fun r s4 ⟨hr,I4⟩=>?_)
  subst hr
  exact wpAny_execs_nil ⟨σ3,H3,I4,qn⟩
 ·refine wpAny_passesOwn hp (aI (T.item X rfl rfl rfl hc i pins s3 σ3 H3 X.xe I3 (kh fr3) st3 go) fun r s4 ⟨u,hr,h4⟩=>?_)
  subst hr
  refine wpAny_passesOwn hp (aI h4 fun _ s5 ⟨x,H5,I5,r5,y5,lF,zI⟩=>?_)
  have yd:=I5.pinned (kh zI) (T.obj _ _ lF)
  refine wpAny_passesOwn hp (aI (hg _ s5 σ3 H5 x u _ yd r5 (step x H5 y5)) fun _ s6 ⟨o8,H6,I6,q6⟩=>?_)
  refine wpAny_passesOwn hp (aI (hb _ s6 o8 H6 _ I6 q6) fun f s7 q7=>?_)
  have again:∀{iF:St} {H7:Hp},Inv X (pins++oG fp s5.heap) iF H7 s7->N iF H7->∃m,m<n/\∃i σ' H',Inv X pins σ' H' s7/\tn i s7.heap/\(∀b∈fp,H' b=none)/\W i m σ' H':=fun{iF H7} I7 n7=>by
   obtain⟨m',hm,w7⟩:=hN iF H7 n7
   refine⟨m',hm,i+1,iF,H7,I7.qw,T.keep _ _ _ lF fun b hb o e=>(I7.pin (b,o) (List.mem_append_right _ (List.mem_append_right _ (tV hb e)))).1,fun b hb=>?_,w7⟩
   obtain⟨o,e,d⟩:=T.obj _ _ lF b hb
   exact(I7.pin (b,o) (List.mem_append_right _ (List.mem_append_right _ (tV hb e)))).2.1
  cases f with
  |next=>obtain⟨iF,H7,I7,n7⟩:=q7;exact again I7 n7
  |cont=>obtain⟨iF,H7,I7,n7⟩:=q7;exact again I7 n7
  |brk=>obtain⟨iF,H7,I7,q7⟩:=q7;exact⟨iF,H7,I7.qw,q7⟩
  |ret v=>obtain⟨x7,iF,H7,I7,r7,q7⟩:=q7;exact⟨x7,iF,H7,I7.qw,r7,q7⟩
end
theorem zx{K:PySem.W.Frag}{a:Addr}{xs:List V}{g:TG}{tb:TS}{D:Ends}{σ:St}{H:Hp}(Pv:Nat->St->Hp->Prop)(h0:Pv 0 σ H)(hl:∀i σ H,i<=xs.length->Pv i σ H->aQ K H a xs)
  (hs:∀i x σ H,xs[i]?=some x->Pv i σ H->g x σ H fun σ2 H2=>tb {D with nx:=Pv (i+1),ct:=Pv (i+1),bk:=D.nx} σ2 H2) (hd:∀σ H,Pv xs.length σ H->D.nx σ H):
  ∃W:Nat->Nat->St->Hp->Prop,(∃m,W 0 m σ H)/\∀i m σ H,W i m σ H->
   ((mq K a).stop i H/\D.nx σ H)\/((mq K a).go i H/\∃N:St->Hp->Prop,(∀σ' H',N σ' H'->∃m',m'<m/\W (i+1) m' σ' H')/\∀x H',(mq K a).ki i H x H'->g x σ H' fun σ2 H2=>tb {D with nx:=N,ct:=N,bk:=D.nx} σ2 H2):=by
 refine⟨fun i m σ H=>m=xs.length-i/\i<=xs.length/\Pv i σ H,⟨xs.length,by simp,Nat.zero_le _,h0⟩,?_⟩
 rintro i m σ H ⟨rfl,hi,p⟩
 have q:=hl i σ H hi p
 by_cases hlt:i<xs.length
 ·refine .inr ⟨⟨xs,xs[i],q,by simp[hlt]⟩,Pv (i+1),fun σ' H' p'=>⟨xs.length-(i+1),by omega,rfl,hlt,p'⟩,fun x H' y=>?_⟩
  obtain⟨e,y⟩:=y
  subst e
  exact hs i x σ _ (y xs q) p
 ·have e:i=xs.length:=by omega
  subst e
  exact .inl ⟨⟨xs,q,Nat.le_refl _⟩,hd σ H p⟩
theorem Cc{lo:Int}{n:Nat}{g:TG}{tb:TS}{D:Ends}{σ:St}{H:Hp}(Pv:Nat->St->Hp->Prop)(h0:Pv 0 σ H)
  (hs:∀i σ H,i<n->Pv i σ H->g (.int (lo+i)) σ H fun σ2 H2=>tb {D with nx:=Pv (i+1),ct:=Pv (i+1),bk:=D.nx} σ2 H2) (hd:∀σ H,Pv n σ H->D.nx σ H):
  ∃W:Nat->Nat->St->Hp->Prop,(∃m,W 0 m σ H)/\∀i m σ H,W i m σ H->
   ((gK lo n).stop i H/\D.nx σ H)\/((gK lo n).go i H/\∃N:St->Hp->Prop,(∀σ' H',N σ' H'->∃m',m'<m/\W (i+1) m' σ' H')/\∀x H',(gK lo n).ki i H x H'->g x σ H' fun σ2 H2=>tb {D with nx:=N,ct:=N,bk:=D.nx} σ2 H2):=by
 refine⟨fun i m σ H=>m=n-i/\i<=n/\Pv i σ H,⟨n,by simp,Nat.zero_le _,h0⟩,?_⟩
 rintro i m σ H ⟨rfl,hi,p⟩
 by_cases hlt:i<n
 ·refine .inr ⟨hlt,Pv (i+1),fun σ' H' p'=>⟨n-(i+1),by omega,rfl,hlt,p'⟩,fun x H' y=>?_⟩
  obtain⟨e,y⟩:=y
  subst e y
  exact hs i σ _ hlt p
 ·have e:i=n:=by omega
  subst e
  exact .inl ⟨Nat.le_refl _,hd σ H p⟩
theorem aag{c:TT}{tb:TS}{D:Ends}{σ:St}{H:Hp}(Pv:St->Hp->Prop)(μ:St->Hp->Nat)(h0:Pv σ H)
  (hs:∀σ H,Pv σ H->c σ H fun b H1=>if b=true then tb {D with nx:=fun σ' H'=>Pv σ' H'/\μ σ' H'<μ σ H,ct:=fun σ' H'=>Pv σ' H'/\μ σ' H'<μ σ H,bk:=D.nx} σ H1 else D.nx σ H1)
  (mono:∀σ H Q Q',(∀b H1,Q b H1->Q' b H1)->c σ H Q->c σ H Q'):xT c tb D σ H:=by
 refine⟨fun m σ H=>m=μ σ H/\Pv σ H,⟨_,rfl,h0⟩,?_⟩
 rintro m σ H ⟨rfl,p⟩
 refine mono σ H _ _ (fun b H1 q=>?_) (hs σ H p)
 cases b with
 |true=>exact⟨_,fun σ' H' ⟨p',l⟩=>⟨_,l,rfl,p'⟩,q⟩
 |false=>exact q
abbrev R2:=V->V->Hp->VK->Prop
def cI(X:Cx)(f:Value->Value->Sem Value)(r:R2):Prop:=
 ∀(pins:List (Addr×Obj)) (s:Shared) (σ:St) (H:Hp) (x y:V) (v u:Value) (Q:VK),Inv X pins σ H s->RelV x v->RelV y u->r x y H Q->
  wpAny (model X.prog X.w) X.A (f v u) (EP X pins σ Q) X.xe s
def yG(X:Cx)(f:Value->Sem Value)(r:V->Hp->VK->Prop):Prop:=
 ∀(pins:List (Addr×Obj)) (s:Shared) (σ:St) (H:Hp) (x:V) (v:Value) (Q:VK),Inv X pins σ H s->RelV x v->r x H Q->
  wpAny (model X.prog X.w) X.A (f v) (EP X pins σ Q) X.xe s
def dB(X:Cx)(f:Value)(r:List V->Hp->VK->Prop):Prop:=
 ∀(pins:List (Addr×Obj)) (s:Shared) (σ:St) (H:Hp) (xs:List V) (us:List Value) (Q:VK),Inv X pins σ H s->Vals xs us->r xs H Q->
  wpAny (model X.prog X.w) X.A (call f us) (EP X pins σ Q) X.xe s
def Vb(X:Cx)(r:V->Hp->(Bool->Hp->Prop)->Prop):Prop:=
 ∀(pins:List (Addr×Obj)) (s:Shared) (σ:St) (H:Hp) (x:V) (v:Value) (Q:Bool->Hp->Prop),Inv X pins σ H s->RelV x v->r x H Q->
  wpAny (model X.prog X.w) X.A (truthy v) (TP X pins σ Q) X.xe s
def bX(r:R2)(ta tb:TE):TE:=fun σ H Q=>ta σ H fun x H1=>tb σ H1 fun y H2=>r x y H2 Q
def yR(r:V->Hp->VK->Prop)(ta:TE):TE:=fun σ H Q=>ta σ H fun x H1=>r x H1 Q
def rI(C:Int->Int->Prop)(g:Int->Int->V):R2:=fun x y H Q=>∃i j,x= .int i/\y= .int j/\C i j/\Q (g i j) H
def fX(g:Int->Int->V):R2:=fun x y H Q=>∃i j,x= .int i/\y= .int j/\Q (g i j) H
def rU(g:Int->V):V->Hp->VK->Prop:=fun x H Q=>∃i,x= .int i/\Q (g i) H
section
variable{X:Cx}{a b c:Expr}{ta tb tc:TE}{pos:Pos}
theorem uE(ha:PE X a ta)(hb:PE X b tb){pins:List (Addr×Obj)}{s:Shared}{σ:St}{H:Hp}{R:V->V->Hp->Prop}(I:Inv X pins σ H s)
  (h:ta σ H fun x H1=>tb σ H1 fun y H2=>R x y H2) {Q:Value->Shared->Prop} {f:Value->Value->Sem Value}
  (hf:∀v u s2 x y H2,Inv X pins σ H2 s2->RelV x v->RelV y u->R x y H2->wpAny (model X.prog X.w) X.A (f v u) Q X.xe s2):
  wpAny (model X.prog X.w) X.A (eval a X.env) (fun v s₁=>wpAny (model X.prog X.w) X.A (eval b X.env) (fun u s₂=>wpAny (model X.prog X.w) X.A (f v u) Q X.xe s₂) X.xe s₁) X.xe s:=by
 refine aI (ha pins s σ H _ I h) fun v s1 ⟨x,H1,I1,r1,q1⟩=>?_
 refine aI (hb pins s1 σ H1 _ I1 q1) fun u s2 ⟨y,H2,I2,r2,q2⟩=>?_
 exact hf v u s2 x y H2 I2 r1 r2 q2
theorem aF{op:Operator}{r:R2}(ho:cI X (binaryOp op) r)(ha:PE X a ta)(hb:PE X b tb):PE X (.BinOp a op b pos) (bX r ta tb):=by
 intro pins s σ H Q I h
 exact wpAny_BinOp (uE ha hb I h fun v u s2 x y H2 I2 rx ry q=>ho pins s2 σ H2 x y v u Q I2 rx ry q)
theorem GU{op:UnaryOp}{r:V->Hp->VK->Prop}(ho:yG X (unaryOp op) r)(ha:PE X a ta):PE X (.UnaryOp op a pos) (yR r ta):=by
 intro pins s σ H Q I h
 exact UnaryOp_ (aI (ha pins s σ H _ I h) fun v s1 ⟨x,H1,I1,r1,q1⟩=>ho pins s1 σ H1 x v Q I1 r1 q1)
theorem tD{f:Value->Value->Sem Value}{C:Int->Int->Prop}{g:Int->Int->Int}
  (rule:∀(i j:Int) (t u:Tok) (s:Shared) (Q:Value->Shared->Prop) (E:Value->Shared->Prop),C i j->Q (.int (g i j) s.toks) {s with toks:=s.toks+1}->wpAny (model X.prog X.w) X.A (f (.int i t) (.int j u)) Q E s):
  cI X f (rI C fun i j=> .int (g i j)):=by
 intro pins s σ H x y v u Q I rx ry h
 obtain⟨i,j,rfl,rfl,hc,q⟩:=h
 obtain⟨t,rfl⟩:=rx
 obtain⟨t',rfl⟩:=ry
 exact rule i j t t' s _ _ hc ⟨.int (g i j),H,I.tok _,⟨_,rfl⟩,q⟩
theorem CN{f:Value->Value->Sem Value}{g:Int->Int->Int}
  (rule:∀(i j:Int) (t u:Tok) (s:Shared) (Q:Value->Shared->Prop) (E:Value->Shared->Prop),Q (.int (g i j) s.toks) {s with toks:=s.toks+1}->wpAny (model X.prog X.w) X.A (f (.int i t) (.int j u)) Q E s):
  cI X f (fX fun i j=> .int (g i j)):=by
 intro pins s σ H x y v u Q I rx ry h
 obtain⟨i,j,rfl,rfl,q⟩:=h
 obtain⟨t,rfl⟩:=rx
 obtain⟨t',rfl⟩:=ry
 exact rule i j t t' s _ _ ⟨.int (g i j),H,I.tok _,⟨_,rfl⟩,q⟩
theorem HU{f:Value->Value->Sem Value}{g:Int->Int->Bool}
  (rule:∀(i j:Int) (t u:Tok) (s:Shared) (Q:Value->Shared->Prop) (E:Value->Shared->Prop),Q (.bool (g i j)) s->wpAny (model X.prog X.w) X.A (f (.int i t) (.int j u)) Q E s):
  cI X f (fX fun i j=> .bl (g i j)):=by
 intro pins s σ H x y v u Q I rx ry h
 obtain⟨i,j,rfl,rfl,q⟩:=h
 obtain⟨t,rfl⟩:=rx
 obtain⟨t',rfl⟩:=ry
 exact rule i j t t' s _ _ ⟨.bl (g i j),H,I,rfl,q⟩
def uU(i j:Int):Prop:=0<=j/\j<=1000000/\i.natAbs<2^64
def sI(i j:Int):Prop:=(-(2^64)<i/\i<2^64)\/(-(2^64)<j/\j<2^64)
theorem sI.ok{i j:Int}(h:sI i j):IntMulOk i j:=by
 rcases h with ⟨h1,h2⟩|⟨h1,h2⟩
 ·exact .of_left (intBits_le_64 h1 h2)
 ·exact .of_right (intBits_le_64 h1 h2)
theorem ez:cI X (binaryOp .Add) (fX fun i j=> .int (i+j)):=CN fun _ _ _ _ _ _ _ q=>add_int q
theorem jj:cI X (binaryOp .Sub) (fX fun i j=> .int (i-j)):=CN fun _ _ _ _ _ _ _ q=>sub_int q
theorem fh:cI X (binaryOp .Mod) (rI (fun _ j=>0<j) fun i j=> .int (i%j)):=tD fun i j _ _ _ _ _ hc q=>by
 have h1:(0:Int)<j:=hc
 exact mod_int' (by omega) (by rw[Int.fmod_eq_emod_of_nonneg i (by omega)];exact q)
theorem qA:cI X (binaryOp .Pow) (rI uU fun i j=> .int (i^j.toNat)):=tD fun _ _ _ _ _ _ _ hc q=>pow_int_small hc.1 hc.2.1 hc.2.2 q
theorem XR{f:Value->Sem Value}{g:Int->Int}
  (rule:∀(i:Int) (t:Tok) (s:Shared) (Q:Value->Shared->Prop) (E:Value->Shared->Prop),Q (.int (g i) s.toks) {s with toks:=s.toks+1}->wpAny (model X.prog X.w) X.A (f (.int i t)) Q E s):
  yG X f (rU fun i=> .int (g i)):=by
 intro pins s σ H x v Q I rx h
 obtain⟨i,rfl,q⟩:=h
 obtain⟨t,rfl⟩:=rx
 exact rule i t s _ _ ⟨.int (g i),H,I.tok _,⟨_,rfl⟩,q⟩
theorem HY:yG X (unaryOp .USub) (rU fun i=> .int (-i)):=XR fun _ _ _ _ _ q=>neg_int q
end
def zy:V->V->Bool
 | .aE, .aE=>true| .aE, .int _=>true| .int _, .aE=>true| .aE, .bl _=>true| .bl _, .aE=>true| .aE, .str _=>true| .str _, .aE=>true
 | .int _, .int _=>true| .bl _, .bl _=>true| .str _, .str _=>true| .gn _, .gn _=>true
 | .int _, .str _=>true| .str _, .int _=>true| .bl _, .str _=>true| .str _, .bl _=>true
 |_,_=>false
def Aa:R2:=fun x y H Q=>zy x y=true/\Q (.bl (decide (x=y))) H
def BC:R2:=fun x y H Q=>zy x y=true/\Q (.bl (!decide (x=y))) H
theorem Dv{i j:Int}:decide (V.int i=V.int j)=(i==j):=by
 rw[Bool.eq_iff_iff]
 simp
theorem Ej{i j:Bool}:decide (V.bl i=V.bl j)=(i==j):=by
 rw[Bool.eq_iff_iff]
 simp
theorem EL{i j:Str}:decide (V.str i=V.str j)=(i==j):=by
 rw[Bool.eq_iff_iff]
 simp
theorem Cv{i j:Array UInt8}:decide (V.gn i=V.gn j)=(i.toList==j.toList):=by
 rw[Bool.eq_iff_iff]
 cases i
 cases j
 simp
section
variable{X:Cx}{a b c:Expr}{ta tb tc:TE}{pos:Pos}
theorem cA{pins:List (Addr×Obj)}{σ:St}{H:Hp}{s:Shared}{Q:VK}{k k':Bool}(I:Inv X pins σ H s)(q:Q (.bl k) H)(e:k=k'):EP X pins σ Q (.bool k') s:=by
 subst e
 exact⟨.bl k,H,I,rfl,q⟩
theorem fP:cI X (compareOp .Eq) Aa:=by
  intro pins s σ H x y v u Q I rx ry h
  obtain⟨hs,q⟩:=h
  cases x with
  | aE =>
    cases rx
    cases y with
    |aE=>cases ry;exact PySem.EqNone.eq_none_none (cA I q (by simp))
    |bl j=>cases ry;exact PySem.EqNone.eq_none_bool (cA I q (by simp))
    |int j=>obtain⟨t',rfl⟩:=ry;exact PySem.EqNone.eq_none_int (cA I q (by simp))
    |str j=>obtain⟨t',rfl⟩:=ry;exact PySem.EqNone.eq_none_str (cA I q (by simp))
    |_=>exact absurd (show false=true from hs) Bool.false_ne_true
  | bl i =>
    cases rx
    cases y with
    |aE=>cases ry;exact PySem.EqNone.eq_bool_none (cA I q (by simp))
    |bl j=>cases ry;exact eq_bool (cA I q Ej)
    |str j=>obtain⟨t',rfl⟩:=ry;exact PySem.EqMixed.eq_bool_str (cA I q (by simp))
    |_=>exact absurd (show false=true from hs) Bool.false_ne_true
  | int i =>
    obtain⟨t,rfl⟩:=rx
    cases y with
    |aE=>cases ry;exact PySem.EqNone.eq_int_none (cA I q (by simp))
    |int j=>obtain⟨t',rfl⟩:=ry;exact eq_int (cA I q Dv)
    |str j=>obtain⟨t',rfl⟩:=ry;exact PySem.EqMixed.eq_int_str (cA I q (by simp))
    |_=>exact absurd (show false=true from hs) Bool.false_ne_true
  | str i =>
    obtain⟨t,rfl⟩:=rx
    cases y with
    |aE=>cases ry;exact PySem.EqNone.eq_str_none (cA I q (by simp))
    |bl j=>cases ry;exact PySem.EqMixed.eq_str_bool (cA I q (by simp))
    |int j=>obtain⟨t',rfl⟩:=ry;exact PySem.EqMixed.eq_str_int (cA I q (by simp))
    |str j=>obtain⟨t',rfl⟩:=ry;exact eq_str (cA I q EL)
    |_=>exact absurd (show false=true from hs) Bool.false_ne_true
  | gn i =>
    obtain⟨t,rfl⟩:=rx
    cases y with
    |gn j=>obtain⟨t',rfl⟩:=ry;exact PySem.W.eq_bytes (cA I q Cv)
    |_=>exact absurd (show false=true from hs) Bool.false_ne_true
  |_=>cases y<;>exact absurd (show false=true from hs) Bool.false_ne_true
theorem iS:cI X (compareOp .NotEq) BC:=by
  intro pins s σ H x y v u Q I rx ry h
  obtain⟨hs,q⟩:=h
  cases x with
  | aE =>
    cases rx
    cases y with
    |aE=>cases ry;exact PySem.EqNone.ne_none_none (cA I q (by simp))
    |bl j=>cases ry;exact PySem.EqNone.ne_none_bool (cA I q (by simp))
    |int j=>obtain⟨t',rfl⟩:=ry;exact PySem.EqNone.ne_none_int (cA I q (by simp))
    |str j=>obtain⟨t',rfl⟩:=ry;exact PySem.EqNone.ne_none_str (cA I q (by simp))
    |_=>exact absurd (show false=true from hs) Bool.false_ne_true
  | bl i =>
    cases rx
    cases y with
    |aE=>cases ry;exact PySem.EqNone.ne_bool_none (cA I q (by simp))
    |bl j=>cases ry;exact ne_bool (cA I q (congrArg not Ej))
    |str j=>obtain⟨t',rfl⟩:=ry;exact PySem.EqMixed.ne_bool_str (cA I q (by simp))
    |_=>exact absurd (show false=true from hs) Bool.false_ne_true
  | int i =>
    obtain⟨t,rfl⟩:=rx
    cases y with
    |aE=>cases ry;exact PySem.EqNone.ne_int_none (cA I q (by simp))
    |int j=>obtain⟨t',rfl⟩:=ry;exact ne_int (cA I q (congrArg not Dv))
    |str j=>obtain⟨t',rfl⟩:=ry;exact PySem.EqMixed.ne_int_str (cA I q (by simp))
    |_=>exact absurd (show false=true from hs) Bool.false_ne_true
  | str i =>
    obtain⟨t,rfl⟩:=rx
    cases y with
    |aE=>cases ry;exact PySem.EqNone.ne_str_none (cA I q (by simp))
    |bl j=>cases ry;exact PySem.EqMixed.ne_str_bool (cA I q (by simp))
    |int j=>obtain⟨t',rfl⟩:=ry;exact PySem.EqMixed.ne_str_int (cA I q (by simp))
    |str j=>obtain⟨t',rfl⟩:=ry;exact ne_str (cA I q (congrArg not EL))
    |_=>exact absurd (show false=true from hs) Bool.false_ne_true
  | gn i =>
    obtain⟨t,rfl⟩:=rx
    cases y with
    |gn j=>obtain⟨t',rfl⟩:=ry;exact PySem.W.ne_bytes (cA I q (congrArg not Cv))
    |_=>exact absurd (show false=true from hs) Bool.false_ne_true
  |_=>cases y<;>exact absurd (show false=true from hs) Bool.false_ne_true
theorem za:cI X (compareOp .Lt) (fX fun i j=> .bl (decide (i<j))):=HU fun _ _ _ _ _ _ _ q=>lt_int q
theorem E5:cI X (compareOp .LtE) (fX fun i j=> .bl (decide (i<=j))):=HU fun _ _ _ _ _ _ _ q=>le_int q
theorem TM:cI X (compareOp .Is) (fun x y H Q=>y= .aE/\Q (.bl (decide (x= .aE))) H):=by
 intro pins s σ H x y v u Q I rx ry h
 obtain⟨rfl,q⟩:=h
 cases ry
 refine is_none_gen (cA I q ?_)
 cases x<;>first
  |(cases rx;rfl)
  |(obtain⟨t,rfl⟩:=rx;rfl)
theorem Me:cI X (compareOp .IsNot) (fun x y H Q=>y= .aE/\Q (.bl (!decide (x= .aE))) H):=by
 intro pins s σ H x y v u Q I rx ry h
 obtain⟨rfl,q⟩:=h
 cases ry
 refine isnot_none_gen (cA I q ?_)
 cases x<;>first
  |(cases rx;rfl)
  |(obtain⟨t,rfl⟩:=rx;rfl)
theorem bG(b:Expr){op:CmpOp}(h:op≠ .In:=by decide)(h2:op≠ .NotIn:=by decide):behindInMarks op b=false:=by
 have e1:(op==CmpOp.In)=false:=by cases op<;>first|rfl|exact absurd rfl h
 have e2:(op==CmpOp.NotIn)=false:=by cases op<;>first|rfl|exact absurd rfl h2
 cases b<;>simp[behindInMarks,e1,e2]
theorem qg{op:CmpOp}{r:R2}(ho:cI X (compareOp op) r)(ha:PE X a ta)(hb:PE X b tb)(hm:behindInMarks op b=false):PE X (.Compare a [op] [b] pos) (bX r ta tb):=by
 intro pins s σ H Q I h
 exact wpAny_Compare1 (uE ha hb I h fun v u s2 x y H2 I2 rx ry q=>ho pins s2 σ H2 x y v u Q I2 rx ry q) hm
def yk(t:TE):TT:=fun σ H Q=>t σ H fun x H'=>∃k,x= .bl k/\Q k H'
theorem bu{op:CmpOp}{r:R2}(ho:cI X (compareOp op) r)(ha:PE X a ta)(hb:PE X b tb)(hm:behindInMarks op b=false):PT X (.Compare a [op] [b] pos) (yk (bX r ta tb)):=by
 intro pins s σ H Q I h
 refine wpAny_isTrue_Compare1 (aI (ha pins s σ H _ I h) fun v s1 ⟨x,H1,I1,r1,q1⟩=>aI (hb pins s1 σ H1 _ I1 q1) fun u s2 ⟨y,H2,I2,r2,q2⟩=>
  aI (ho pins s2 σ H2 x y v u _ I2 r1 r2 q2) fun c s3 ⟨z,H3,I3,r3,k,e,q3⟩=>?_) hm
 subst e
 cases r3
 exact wpAny_truthy_bool ⟨H3,I3,q3⟩
def u5(K:PySem.W.Frag)(x:V)(H:Hp)(k:Bool):Prop:=
 match x with
 | .aE=>k=false
 | .bl b=>k=b
 | .int i=>k=(i !=0)
 | .str y=>y.length<=sizeLine/\k=((y.length:Int) !=0)
 | .gn y=>y.size<=sizeLine/\k=((y.size:Int) !=0)
 | .ref p=>(∃xs,aQ K H p xs/\k=!xs.isEmpty)\/(∃xs,eE K H p xs/\k=!xs.isEmpty)\/∃kvs,H p=some (.dK kvs)/\k=!kvs.isEmpty
 |_=>False
theorem NH{κ:Type}{kvs:List (κ×V)}{vs:List (κ×Value)}(r:KV kvs vs):(!vs.isEmpty)=!kvs.isEmpty:=by
 cases r<;>rfl
theorem C9{xs:List V}{its:List Value}(r:Vals xs its):(!its.toArray.isEmpty)=!xs.isEmpty:=by
 cases r<;>simp
theorem lT:(sizeLine:Nat)<2^63:=by rw[sizeLine_eq];decide
theorem Zn:Vb X (fun x H Q=>∃k,u5 X.K x H k/\Q k H):=by
  intro pins s σ H x v Q I rx h
  obtain⟨k,e,q⟩:=h
  have hl:=lT
  have hs:sizeLine=16777216:=sizeLine_eq
  cases x with
  | aE =>
    cases rx
    have e':k=false:=e
    subst e'
    exact truthy_none ⟨H,I,q⟩
  | bl b =>
    cases rx
    have e':k=b:=e
    subst e'
    exact wpAny_truthy_bool ⟨H,I,q⟩
  | int i =>
    obtain⟨t,rfl⟩:=rx
    have e':k=(i !=0):=e
    subst e'
    exact PySem.P.truthy_int ⟨H,I,q⟩
  | str y =>
    obtain⟨t,rfl⟩:=rx
    obtain⟨hy,e'⟩:y.length<=sizeLine/\k=((y.length:Int) !=0):=e
    subst e'
    exact PySem.P.truthy_str (by omega) ⟨H,I.tok _,q⟩
  | gn y =>
    obtain⟨t,rfl⟩:=rx
    obtain⟨hy,e'⟩:y.size<=sizeLine/\k=((y.size:Int) !=0):=e
    subst e'
    exact PySem.W.truthy_bytes (by omega) ⟨H,I.tok _,q⟩
  | ref p =>
    cases rx
    have e':(∃xs,aQ X.K H p xs/\k=!xs.isEmpty)\/(∃xs,eE X.K H p xs/\k=!xs.isEmpty)\/∃kvs,H p=some (.dK kvs)/\k=!kvs.isEmpty:=e
    rcases e' with ⟨xs,hx,e'⟩|⟨xs,hx,e'⟩|⟨kvs,hx,e'⟩
    · subst e'
      obtain⟨its,r,pl,hz⟩:=I.list hx
      have hlen:=r.length
      exact wpAny_truthy_list pl.isList (by simp only[List.size_toArray];omega) ⟨H,I.tok _,by rw[C9 r];exact q⟩
    · subst e'
      obtain⟨its,r,pl,hz⟩:=I.tuple hx
      have hlen:=r.length
      exact truthy_tuple pl (by simp only[List.size_toArray];omega) ⟨H,I.tok _,by rw[C9 r];exact q⟩
    · subst e'
      obtain⟨hz,hS,vs,r,m⟩:kvs.length<=sizeLine/\(p==sysModules)=false/\∃vs,KV kvs vs/\s.heap.DictOf (cT X.prog X.w) p vs:=I.hok p _ hx
      have hlen:kvs.length=vs.length:=Paired.length r
      exact wpAny_truthy_dict hS m (by omega) ⟨H,I.tok _,by rw[NH r];exact q⟩
  |_=>exact(show False from e).elim
theorem QH(ha:PE X a ta)(he:∀whole,isTrue a X.env whole=(do let v<-whole;standAt a.pos;holding [v] (truthy v))):
  PT X a (fun σ H Q=>ta σ H fun x H'=>∃k,u5 X.K x H' k/\Q k H'):=by
 intro pins s σ H Q I h
 exact isTrue_plain (aI (ha pins s σ H _ I h) fun v s1 ⟨x,H1,I1,r1,q1⟩=>Zn pins s1 σ H1 x v Q I1 r1 q1) (he _)
theorem vals1{x:V}{us:List Value}(r:Vals [x] us):∃u,us=[u]/\RelV x u:=by
 cases r with
 |cons r1 r2=>cases r2;exact⟨_,rfl,r1⟩
theorem vals2{x y:V}{us:List Value}(r:Vals [x,y] us):∃u w',us=[u,w']/\RelV x u/\RelV y w':=by
  cases r with
  | cons r1 r2 =>
    cases r2 with
    |cons r3 r4=>cases r4;exact⟨_,_,rfl,r1,r3⟩
theorem PB:dB X (.builtin "abs") (fun xs H Q=>∃i,xs=[.int i]/\Q (.int (if i<0 then-i else i)) H):=by
 intro pins s σ H xs us Q I r h
 obtain⟨i,rfl,q⟩:=h
 obtain⟨u,rfl,t,rfl⟩:=vals1 r
 exact call_abs_int fun u tk=>⟨.int (if i<0 then-i else i),H,I.tok _,⟨_,rfl⟩,q⟩
theorem VF(hc:X.calm=true):dB X (.builtin "min") (fun xs H Q=>∃i j,xs=[.int i, .int j]/\Q (.int (if j<i then j else i)) H):=by
 intro pins s σ H xs us Q I r h
 obtain⟨i,j,rfl,q⟩:=h
 obtain⟨u,w',rfl,⟨t,rfl⟩,⟨t',rfl⟩⟩:=vals2 r
 refine min_two_ints (I.ok.hd hc) fun h' tk k=>⟨_,H,I.kept k,?_,q⟩
 by_cases hj:j<i
 ·rw[if_pos hj,if_pos hj];exact⟨_,rfl⟩
 ·rw[if_neg hj,if_neg hj];exact⟨_,rfl⟩
theorem SH:dB X (.type "int") (fun xs H Q=>(∃i,xs=[.int i]/\Q (.int i) H)\/∃k,xs=[.bl k]/\Q (.int (if k then 1 else 0)) H):=by
 intro pins s σ H xs us Q I r h
 rcases h with ⟨i,rfl,q⟩|⟨k,rfl,q⟩
 ·obtain⟨u,rfl,t,rfl⟩:=vals1 r
  exact call_int_int ⟨.int i,H,I,⟨_,rfl⟩,q⟩
 ·obtain⟨u,rfl,r1⟩:=vals1 r
  cases r1
  exact call_int_bool ⟨.int (if k then 1 else 0),H,I.tok _,⟨_,rfl⟩,q⟩
end
structure lW(h:Heap)(x dx C:Addr)(mA:Str->Option Value):Prop where
 obj:h.get? x=some (PySem.W.instObj C dx)
 ns:h.Ns1 dx mA
 ne:dx≠x
theorem UD{h:Heap}{dx:Addr}{mA:Str->Option Value}(n:h.Ns1 dx mA):∃od,h.get? dx=some od/\∀name,PySem.W.lookIn name od=some (mA name):=by
 obtain⟨o,es,ep,ho,hd,hk,_,hm⟩:=n
 refine⟨o,ho,fun name=>?_⟩
 have e:=hm name
 unfold nsFind findBy at e
 rw[<-Array.find?_toList] at e
 unfold PySem.W.lookIn
 rw[hd]
 dsimp only
 split
 ·rename_i y q
  rw[q] at e
  exact congrArg some e
 ·rename_i q
  rw[q] at e
  have a:es.toList.any (·.refKey)=false:=by
   rw[List.any_eq_false]
   intro y hy
   obtain⟨z,t,hkey⟩:=hk y (Array.mem_toList_iff.mp hy)
   simp[DictEntry.refKey,hkey]
  have a':¬es.toList.any (·.refKey)=true:=by rw[a];exact Bool.false_ne_true
  rw[if_neg a']
  exact congrArg some e
theorem lW.look{h:Heap}{x dx C:Addr}{mA:Str->Option Value}(I:lW h x dx C mA):∃od,PySem.W.InstAt h x (PySem.W.instObj C dx) C (some od)/\∀name,PySem.W.lookIn name od=some (mA name):=
 let ⟨od,ho,hl⟩:=UD I.ns
 ⟨od,⟨I.obj,rfl,rfl,ho⟩,hl⟩
section
variable{prog:Program}{w:World}{A:Around}{E:Value->Shared->Prop}{s:Shared}{K:PySem.W.Frag}{x dx C f:Addr}{mA:Str->Option Value}{name:Str}{v:Value}
theorem get_map{expr:Bool}{Q:Value->Shared->Prop}(X:K.In s.heap)(I:lW s.heap x dx C mA)(hg:PySem.W.plainGet K C name=true)(hh:PySem.W.hasDictIn K C=true)
  (ha:PySem.W.findIn K (.ref C) name=some none) (hv:mA name=some v) (hv':PySem.W.handedIn v=true) (h:Q v {s with toks:=s.toks+1}):
  wpAny (model prog w) A (getAttr (.ref x) name expr) Q E s:=by
 obtain⟨od,J,hl⟩:=I.look
 exact PySem.W.get_value X J (PySem.W.plainGet_of hg).1 (PySem.W.findObj_own hh ha rfl (by rw[hl,hv])) hv' h
theorem PF{pl:Sem Bool}{Q:Value×List Value->Shared->Prop}(X:K.In s.heap)(I:lW s.heap x dx C mA)(hg:PySem.W.plainGet K C name=true)
  (hf:PySem.W.findIn K (.ref C) name=some (some (.ref f))) (ht:PySem.W.isFn K (.ref f)=true) (hv:mA name=none) (h:Q (.ref f,[.ref x]) s):
  wpAny (model prog w) A (getMethod (.ref x) name pl) Q E s:=by
 obtain⟨od,J,hl⟩:=I.look
 exact PySem.W.method_fn X J (PySem.W.plainGet_of hg).1 (PySem.W.plainGet_of hg).2 hf (beq_iff_eq.mp ht) (by show(PySem.W.lookIn name od).map (·.isSome)=some false;rw[hl,hv];rfl) h
theorem Oa{ns:List Str}{Q:Unit->Shared->Prop}(X:K.In s.heap)(I:lW s.heap x dx C mA)
  (hs:PySem.W.findIn K (.ref C) "__setattr__"=some (some (.builtin "object.__setattr__"))) (hp:PySem.W.plainOver K C=true) (ht:PySem.W.takerIn K C name=some none) (hh:PySem.W.hasDictIn K C=true)
  (hw:PySem.Within mA ns) (hsz:ns.length<=sizeLine)
  (h:∀h',lW h' x dx C (fun y=>if y=name then some v else mA y)->Heap.SameBut dx s.heap h'->Q () {s with heap:=h',toks:=s.toks+2}):
  wpAny (model prog w) A (setAttr (.ref x) name v) Q E s:=by
 obtain⟨od,J,hl⟩:=I.look
 refine PySem.W.set_plain X J hs (PySem.W.osa_open (s:={s with toks:=s.toks+1}) (r:=none) X J hp ht fun b=>?_)
 obtain⟨cd,hc,hd'⟩:=PySem.W.any_some hh
 have hx:s.heap.get? x=some ⟨.ref C,some dx, .plain,#[]⟩:=I.obj
 refine wpAny_bind (wpAny_pure (wpAny_bind (wpAny_bind (wpAny_loadPart hx (wpAny_bind (PySem.W.Looks.here (s:={s with toks:=s.toks+1}) (PySem.W.looks_clsIn X hc) ?_))))))
 rw[hd']
 refine wpAny_pure (a:=some dx) (wpAny_bind (wpAny_pure (wpAny_bind ?_)))
 refine wpAny_nsSet1 (s:={s with toks:=s.toks+1}) I.ns fun h' hn2 hs2=>?_
 obtain⟨oD,esD,epD,WV,Xv,Pj⟩:=hn2.count (PySem.Within.cons name v hw)
 refine wpAny_bind (wpAny_lookBehind WV (by rw[Xv];exact pastItsLine_dict (Nat.le_trans Pj (by rw[List.length_cons];omega))) ?_)
 exact wpAny_pure (h _ ⟨(hs2.2 _ (Ne.symm I.ne)).trans I.obj,hn2,I.ne⟩ hs2)
theorem KJ{R:Result->Shared->Prop}{vs:List Value}{kw:List (Str×Value)}(X:K.In s.heap)(hm:PySem.W.makesIn K C=true)
  (hi:PySem.W.findIn K (.ref C) "__init__"=some (some (.ref f))) (hf:PySem.W.typeIn K (.ref f)=some (.type "function"))
  (h : codeAny (model prog w) (A.under (.builtin "type.__call__" ⟨.ref C :: vs, kw⟩)) (.call (.ref f) ⟨.ref (s.heap.objs.size + 1) :: vs, kw⟩) (PySem.W.InitBack (s.heap.objs.size + 1) R)
   {s with heap:=(s.heap.push PySem.W.emptyDict).push (PySem.W.instObj C s.heap.objs.size)}):
  codeAny (model prog w) A (.call (.ref C) ⟨vs,kw⟩) R s:=by
 obtain⟨hh,g,d,t,os⟩:=s
 exact PySem.W.make_core (PySem.W.makes_of X hm) (PySem.W.looks_findIn X hi) (fun self=>PySem.W.bind_fn X self hf) (.inl rfl) h
end
def dR(f:Str)(v:V):List (Str×V)->List (Str×V)
 |[]=>[(f,v)]
 |(g,x)::r=>if g=f then(g,v)::r else(g,x)::dR f v r
theorem C8(f g:Str)(v:V):∀fs:List (Str×V),(dR f v fs).lookup g=if g=f then some v else fs.lookup g
  | [] => by
    show List.lookup g [(f,v)]=_
    by_cases h:g=f
    · have hb:(g==f)=true:=beq_iff_eq.mpr h
      simp only[List.lookup,hb,if_pos h]
    · have hb:(g==f)=false:=beq_eq_false_iff_ne.mpr h
      simp only[List.lookup,hb,if_neg h]
  | (k, x) :: r => by
    have ih:=C8 f g v r
    rw[show dR f v ((k,x)::r)=(if k=f then(k,v)::r else(k,x)::dR f v r) from rfl]
    by_cases hk:k=f
    · rw[if_pos hk]
      by_cases h:g=k
      · have hb:(g==k)=true:=beq_iff_eq.mpr h
        simp only[List.lookup,hb,if_pos (h.trans hk)]
      · have hb:(g==k)=false:=beq_eq_false_iff_ne.mpr h
        simp only[List.lookup,hb,if_neg (fun e:g=f=>h (e.trans hk.symm))]
    · rw[if_neg hk]
      by_cases h:g=k
      · have hb:(g==k)=true:=beq_iff_eq.mpr h
        simp only[List.lookup,hb,if_neg (fun e:g=f=>hk (h.symm.trans e))]
      · have hb:(g==k)=false:=beq_eq_false_iff_ne.mpr h
        simp only[List.lookup,hb]
        exact ih
theorem vd(f:Str)(v:V):∀fs:List (Str×V),f∈(dR f v fs).map (·.1)/\∀g,g∈fs.map (·.1)->g∈(dR f v fs).map (·.1)
  |[]=>⟨by simp[dR],fun g h=>by simp at h⟩
  | (k, x) :: r => by
    obtain⟨i1,i2⟩:=vd f v r
    rw[show dR f v ((k,x)::r)=(if k=f then(k,v)::r else(k,x)::dR f v r) from rfl]
    by_cases hk:k=f
    · rw[if_pos hk]
      subst hk
      exact⟨by simp,fun g h=>by simpa using h⟩
    · rw[if_neg hk]
      refine⟨?_,fun g h=>?_⟩
      · rw[List.map_cons]
        exact List.mem_cons_of_mem _ i1
      · rw[List.map_cons] at h⊢
        rcases List.mem_cons.mp h with e|e
        · exact List.mem_cons.mpr (.inl e)
        · exact List.mem_cons_of_mem _ (i2 g e)
theorem Es(f:Str)(v:V):∀fs:List (Str×V),(dR f v fs).length<=fs.length+1
  |[]=>by simp[dR]
  | (k, x) :: r => by
    have ih:=Es f v r
    rw[show dR f v ((k,x)::r)=(if k=f then(k,v)::r else(k,x)::dR f v r) from rfl]
    by_cases hk:k=f
    · rw[if_pos hk,List.length_cons,List.length_cons];omega
    · rw[if_neg hk,List.length_cons,List.length_cons];omega
theorem eK.some_of{v:V}{o:Option Value}(r:eK (some v) o):∃u,o=some u/\RelV v u:=by
 cases o with
 |none=>exact(show False from r).elim
 |some u=>exact⟨u,rfl,r⟩
theorem eK.none_of{o:Option Value}(r:eK none o):o=none:=by
 cases o with
 |none=>rfl
 |some u=>exact(show False from r).elim
theorem RK{v:V}{u:Value}(r:RelV v u):PySem.W.handedIn u=true:=by
 cases v with
 |aE=>cases (show u=Value.none from r);rfl
 |bl b=>cases (show u=Value.bool b from r);rfl
 |int i=>obtain⟨t,e⟩:=(show∃t,u=Value.int i t from r);cases e;rfl
 |str x=>obtain⟨t,e⟩:=(show∃t,u=Value.str x t from r);cases e;rfl
 |gn b=>obtain⟨t,e⟩:=(show∃t,u=Value.bytes b t from r);cases e;rfl
 |ji b=>obtain⟨t,e⟩:=(show∃t,u=Value.float b t from r);cases e;rfl
 |ref a=>cases (show u=Value.ref a from r);rfl
 |ty n=>cases (show u=Value.type n from r);rfl
section
variable{P:Program}{w:World}{H H':Hp}{h h':Heap}{a C dx:Addr}{fs fs':List (Str×V)}
theorem uo(hok:cK P w H h)(e:H a=some (.ins C dx fs)):∃mA,lW h a dx C mA/\(∀f,eK (fs.lookup f) (mA f))/\PySem.Within mA (fs.map (·.1))/\fs.length<=1000/\H dx=some (.own a):=by
 obtain⟨d,z,ne,ob,mA,n,r,q⟩:=(show bK P w H h a (.ins C dx fs) from hok a _ e)
 exact⟨mA,⟨ob,n,ne⟩,r,q,z,d⟩
end
structure dJ(K:PySem.W.Frag)(C:Addr):Prop where
 pg:PySem.W.plainGet K C Str.empty=true
 hd:PySem.W.hasDictIn K C=true
 po:PySem.W.plainOver K C=true
 sa:PySem.W.findIn K (.ref C) "__setattr__"=some (some (.builtin "object.__setattr__"))
theorem dJ.get{K:PySem.W.Frag}{C:Addr}(c:dJ K C)(f:Str):PySem.W.plainGet K C f=true:=c.pg
def fc(K:PySem.W.Frag)(C:Addr)(f:Str):Prop:=PySem.W.findIn K (.ref C) f=some none
theorem fc.Vd{K:PySem.W.Frag}{C:Addr}{f:Str}(n:fc K C f):PySem.W.takerIn K C f=some none:=by
 unfold PySem.W.takerIn
 rw[show PySem.W.findIn K (.ref C) f=some none from n]
 rfl
structure Meth(K:PySem.W.Frag)(C:Addr)(m:Str)(f:Addr):Prop where
 at_:PySem.W.findIn K (.ref C) m=some (some (.ref f))
 fn:PySem.W.isFn K (.ref f)=true
 kp:PySem.W.keepIn K (.ref f)=true
section
variable{X:Cx}{pins:List (Addr×Obj)}{σ:St}{H:Hp}{s:Shared}{a C dx:Addr}{fs:List (Str×V)}{f:Str}{v:V}{A:Around}{E:Value->Shared->Prop}
theorem J0{b:Bool}{Q:Value->Shared->Prop}(I:Inv X pins σ H s)(e:H a=some (.ins C dx fs))(c:dJ X.K C)(n:fc X.K C f)(l:fs.lookup f=some v)
  (h:∀u s',Inv X pins σ H s'->RelV v u->Q u s'):wpAny (model X.prog X.w) A (getAttr (.ref a) f b) Q E s:=by
 obtain⟨mA,O,r,_,_,_⟩:=uo I.hok e
 obtain⟨u,hu,ru⟩:=eK.some_of (v:=v) (o:=mA f) (by rw[<-l];exact r f)
 exact get_map I.ck O (c.get f) c.hd n hu (RK ru) (h u _ (I.tok _) ru)
theorem As{m:Str}{g:Addr}{pl:Sem Bool}{Q:Value×List Value->Shared->Prop}(I:Inv X pins σ H s)(e:H a=some (.ins C dx fs))(c:dJ X.K C)(k:Meth X.K C m g)(l:fs.lookup m=none)
  (h:Q (.ref g,[.ref a]) s):wpAny (model X.prog X.w) A (getMethod (.ref a) m pl) Q E s:=by
 obtain⟨mA,O,r,_,_,_⟩:=uo I.hok e
 have hn:mA m=none:=eK.none_of (by rw[<-l];exact r m)
 exact PF I.ck O (c.get m) k.at_ k.fn hn h
theorem Kr{y:V}{u:Value}{Q:Unit->Shared->Prop}(I:Inv X pins σ H s)(e:H a=some (.ins C dx fs))(c:dJ X.K C)(n:fc X.K C f)(hl:fs.length<1000)(ry:RelV y u)
  (h:∀s',Inv X pins σ (upd H a (.ins C dx (dR f y fs))) s'->Q () s'):wpAny (model X.prog X.w) A (setAttr (.ref a) f u) Q E s:=by
 obtain⟨mA,O,r,wi,_,ho⟩:=uo I.hok e
 have hz:(fs.map (·.1)).length<=sizeLine:=by rw[List.length_map,sizeLine_eq];omega
 refine Oa I.ck O c.sa c.po n.Vd c.hd wi hz fun h' O' sb=>h _ ?_
 have hd:∃o,h'.get? dx=some o:=let ⟨o,_,_,e',_⟩:=O'.ns;⟨o,e'⟩
 refine I.write (x:=a) (e:=dx) (by rw[e];exact True.intro) (.inr ho) (fun b q hb z=>(sb.2 b hb).trans z) hd ?_
 refine⟨by rw[aN O.ne];exact ho,?_,O.ne,O'.obj,_,O'.ns,fun g=>?_,fun g hg=>?_⟩
 ·have:=Es f y fs;omega
 ·show eK ((dR f y fs).lookup g) (if g=f then some u else mA g)
  rw[C8]
  by_cases q:g=f
  ·rw[if_pos q,if_pos q];exact ry
  ·rw[if_neg q,if_neg q];exact r g
 ·by_cases q:g=f
  ·rw[q];exact(vd f y fs).1
  ·refine(vd f y fs).2 g (wi g fun z=>hg ?_)
   show(if g=f then some u else mA g)=none
   rw[if_neg q];exact z
theorem Inv.made(I:Inv X pins σ H s):Inv X pins σ (upd (upd H s.heap.objs.size (.own (s.heap.objs.size+1))) (s.heap.objs.size+1) (.ins C s.heap.objs.size []))
  {s with heap:=(s.heap.push PySem.W.emptyDict).push (PySem.W.instObj C s.heap.objs.size)}:=by
 have e1:(s.heap.push PySem.W.emptyDict).get? s.heap.objs.size=some PySem.W.emptyDict:=Heap.get?_push_size s.heap rfl
 have e2:((s.heap.push PySem.W.emptyDict).push (PySem.W.instObj C s.heap.objs.size)).get? (s.heap.objs.size+1)=some (PySem.W.instObj C s.heap.objs.size):=by
  have:=Heap.get?_push_size (s.heap.push PySem.W.emptyDict) (o:=PySem.W.instObj C s.heap.objs.size) rfl
  rwa[Heap.size_push] at this
 have e3:(s.heap.push PySem.W.emptyDict).Ns s.heap.objs.size (fun _=>none):=⟨PySem.W.emptyDict,#[],_,e1,rfl,(fun e he=>absurd he (by simp)),fun _=>rfl⟩
 have I1:=I.laid (a:=s.heap.objs.size) (o:= .own (s.heap.objs.size+1)) (h':=s.heap.push PySem.W.emptyDict) (t':=s.toks) (fun b u q=>Heap.get?_push_of_some _ q) (Nat.le_refl _) ⟨_,e1⟩
 refine I1.laid (a:=s.heap.objs.size+1) (o:= .ins C s.heap.objs.size []) (t':=s.toks) (fun b u q=>Heap.get?_push_of_some _ q) (Nat.le_of_eq (Heap.size_push _ _)) ?_
 have ne:s.heap.objs.size≠s.heap.objs.size+1:=Nat.ne_of_lt (Nat.lt_succ_self _)
 refine⟨by rw[aN ne,aU],Nat.zero_le _,ne,e2,fun _=>none,(Heap.Ns1.of_empty e3).at fun o q=>Heap.get?_push_of_some _ q,fun _=>True.intro,fun y hy=>absurd rfl hy⟩
theorem Ua{prog:Program}{w:World}{env:Env}{e:Expr}{f:Str}{pos:Pos}{s:Shared}{Q:Value->Shared->Prop}(hb:attributeBase e f env (eval e env)=eval e env)
  (h:wpAny (model prog w) A (eval e env) (fun o s₁=>wpAny (model prog w) A (getAttr o f true) Q E s₁) E s):wpAny (model prog w) A (eval (.Attribute e f pos) env) Q E s:=
 Attribute_any_ h (by rw[arm_eval_Attribute,hb])
end
def kE(K:PySem.W.Frag)(ta:TE)(f:Str):TE:=fun σ H Q=>ta σ H fun x H1=>∃a C dx fs v,x= .ref a/\H1 a=some (.ins C dx fs)/\dJ K C/\fc K C f/\fs.lookup f=some v/\Q v H1
def Bl(K:PySem.W.Frag)(ta tv:TE)(f:Str):TS:=fun D σ H=>tv σ H fun y H1=>ta σ H1 fun x H2=>∃a C dx fs,x= .ref a/\H2 a=some (.ins C dx fs)/\dJ K C/\fc K C f/\fs.length<1000/\
 D.nx σ (upd H2 a (.ins C dx (dR f y fs)))
section
variable{X:Cx}{o e value:Expr}{f:Str}{pos pos' tpos:Pos}{ta tv:TE}
theorem tY(he:PE X e ta)(hb:attributeBase e f X.env (eval e X.env)=eval e X.env):PE X (.Attribute e f pos) (kE X.K ta f):=by
 intro pins s σ H Q I h
 refine Ua hb (aI (he pins s σ H _ I h) fun u s1 ⟨x,H1,I1,rx,a,C,dx,fs,v,ex,ea,c,n,l,q⟩=>?_)
 subst ex
 obtain rfl:u=Value.ref a:=rx
 exact J0 I1 ea c n l fun u' s2 I2 ru=>⟨v,H1,I2,ru,q⟩
theorem GD(ha:PE X o ta)(hv:PE X value tv)(hs:swapsWith value (some (.Attribute o f pos')) pos.line X.env=pure false):PS X (.Assign [.Attribute o f pos'] value pos) (Bl X.K ta tv f):=by
 intro pins s σ H D I h
 refine plainObj_wpAny_Assign_Attribute (aI (hv pins s σ H _ I h) fun u s1 ⟨y,H1,I1,ry,q⟩=>aI (ha pins s1 σ H1 _ I1 q) fun ov s2 ⟨x,H2,I2,rx,a,C,dx,fs,ex,ea,c,n,l,q2⟩=>?_) hs
 subst ex
 obtain rfl:ov=Value.ref a:=rx
 exact Kr I2 ea c n l ry fun s3 I3=>⟨σ,_,I3,q2⟩
theorem aar{pl:Sem Bool}{m:Str}{apos:Pos}{args:List Expr}{pins:List (Addr×Obj)}{s:Shared}{σ:St}{H:Hp}{Q:Value->Shared->Prop}{te:TE}(he:PE X e te)(I:Inv X pins σ H s)
  (h : te σ H fun x H1 => ∃ a C dx fs g, x = .ref a /\ H1 a = some (.ins C dx fs) /\ dJ X.K C /\ Meth X.K C m g /\ fs.lookup m = none /\
   ∀s1,Inv X pins σ H1 s1->wpAny (model X.prog X.w) X.A (callWith pos (.ref g) [.ref a] (backTo pos (starEach args X.env)) (backToKw pos (keywordEach [] X.env))) Q X.xe s1)
  (ht : eval (.Call (.Attribute e m apos) args [] pos) X.env = (do
   let ov<-eval e X.env
   standAt apos.atName
   let (f,first)<-holding [ov] (getMethod ov m pl)
   callWith pos f first (backTo pos (starEach args X.env)) (backToKw pos (keywordEach [] X.env)))):
  wpAny (model X.prog X.w) X.A (eval (.Call (.Attribute e m apos) args [] pos) X.env) Q X.xe s:=by
 refine PySem.W.methodCall_KW (pl:=pl) (aI (he pins s σ H _ I h) fun u s1 ⟨x,H1,I1,rx,a,C,dx,fs,g,ex,ea,c,k,l,q⟩=>?_) ht
 subst ex
 obtain rfl:u=Value.ref a:=rx
 exact As I1 ea c k l (q s1 I1)
end
section
variable{X:Cx}{pins:List (Addr×Obj)}{σ:St}{H:Hp}{s:Shared}{A:Around}{E:Value->Shared->Prop}{Q:Value->Shared->Prop}{c:Value}{b:Bool}
inductive fZ(K:PySem.W.Frag)(H:Hp):V->Value->Prop where
 |aE:fZ K H .aE (.type "NoneType")
 |bl (x:Bool):fZ K H (.bl x) (.type "bool")
 |int (i:Int):fZ K H (.int i) (.type "int")
 |str (x:Str):fZ K H (.str x) (.type "str")
 |ji (x:UInt64):fZ K H (.ji x) (.type "float")
 |lst {a:Addr} {xs:List V} (e:H a=some (.lst xs)):fZ K H (.ref a) (.type "list")
 |fB {a:Addr} {o:Obj} {xs:List V} (e:H a=some (.fB o (.lst xs))):fZ K H (.ref a) (.type "list")
 |tup {a:Addr} {xs:List V} (e:H a=some (.tup xs)):fZ K H (.ref a) (.type "tuple")
 |dK {a:Addr} {kvs:List (Key×V)} (e:H a=some (.dK kvs)):fZ K H (.ref a) (.type "dict")
 |dT {a:Addr} {kvs:List (List Key×V)} (e:H a=some (.dT kvs)):fZ K H (.ref a) (.type "dict")
 |Hx {a:Addr} {o:Obj} {kvs:List (Key×V)} (e:H a=some (.fB o (.dK kvs))):fZ K H (.ref a) (.type "dict")
 | ins {a C dx : Addr} {fs : List (Str × V)} (e : H a = some (.ins C dx fs)) (cl : dJ K C) (ha : PySem.W.findIn K (.ref C) "__class__" = some (some (.builtin "object.__class__")))
   (hn:PySem.W.specialIn K (.builtin "object.__class__") "__get__"=some (some (.builtin "getset_descriptor.__get__"))) (htk:PySem.W.takesIn K (.builtin "object.__class__")=some true)
   (hm:PySem.W.mroIn K C (.type "object")=some true):fZ K H (.ref a) (.ref C)
theorem UR{x:V}{u t:Value}(I:Inv X pins σ H s)(rx:RelV x u)(ty:fZ X.K H x t)(e:PySem.W.kitOne X.K t c=some b)(h:∀tk,Q (.bool b) {s with toks:=tk}):
    wpAny (model X.prog X.w) A (call (.builtin "isinstance") [u,c]) Q E s:=by
  cases ty with
  |aE=>cases (show u=Value.none from rx);exact PySem.W.kia_one PySem.W.kitx_none I.ck True.intro e (fun z=>nomatch z) h
  |bl y=>cases (show u=Value.bool y from rx);exact PySem.W.kia_one PySem.W.kitx_bool I.ck True.intro e (fun z=>nomatch z) h
  |int i=>obtain⟨t,q⟩:=(show∃t,u=Value.int i t from rx);cases q;exact PySem.W.kia_one PySem.W.kitx_int I.ck True.intro e (fun z=>nomatch z) h
  |str y=>obtain⟨t,q⟩:=(show∃t,u=Value.str y t from rx);cases q;exact PySem.W.kia_one PySem.W.kitx_str I.ck True.intro e (fun z=>nomatch z) h
  |ji y=>obtain⟨t,q⟩:=(show∃t,u=Value.float y t from rx);cases q;exact PySem.W.kia_one PySem.W.kitx_float I.ck True.intro e (fun z=>nomatch z) h
  | @lst a xs ea =>
    cases (show u=Value.ref a from rx)
    obtain⟨_,_,n,_,h1⟩:=(show bK X.prog X.w H s.heap a (.lst xs) from I.hok a _ ea)
    exact PySem.W.kia_one PySem.W.kitx_list I.ck ⟨_,h1,rfl⟩ e (fun z=>nomatch z) h
  | @fB a ob xs ea =>
    cases (show u=Value.ref a from rx)
    obtain⟨_,_,_,n,_,h1⟩:=(show bK X.prog X.w H s.heap a (.fB ob (.lst xs)) from I.hok a _ ea)
    exact PySem.W.kia_one PySem.W.kitx_list I.ck ⟨_,h1,rfl⟩ e (fun z=>nomatch z) h
  | @tup a xs ea =>
    cases (show u=Value.ref a from rx)
    obtain⟨_,_,_,p⟩:=(show bK X.prog X.w H s.heap a (.tup xs) from I.hok a _ ea)
    obtain⟨o,h1,h2,_⟩:=p
    exact PySem.W.kia_one PySem.W.kitx_tuple I.ck ⟨o,h1,h2⟩ e (fun z=>nomatch z) h
  | @dK a kvs ea =>
    cases (show u=Value.ref a from rx)
    obtain⟨_,_,vs,_,p⟩:=(show bK X.prog X.w H s.heap a (.dK kvs) from I.hok a _ ea)
    obtain⟨o,es,ep,h1,h2,_⟩:=p
    exact PySem.W.kia_one PySem.W.kitx_dict I.ck ⟨o,h1,h2.1⟩ e (fun z=>nomatch z) h
  | @dT a kvs ea =>
    cases (show u=Value.ref a from rx)
    obtain⟨_,_,xs,_,o,es,ep,h1,h2,_⟩:=(show bK X.prog X.w H s.heap a (.dT kvs) from I.hok a _ ea)
    exact PySem.W.kia_one PySem.W.kitx_dict I.ck ⟨o,h1,h2.1⟩ e (fun z=>nomatch z) h
  | @Hx a ob kvs ea =>
    cases (show u=Value.ref a from rx)
    obtain⟨_,_,_,vs,_,o,es,ep,h1,h2,_⟩:=I.hok a _ ea
    exact PySem.W.kia_one PySem.W.kitx_dict I.ck ⟨o,h1,h2.1⟩ e (fun z=>nomatch z) h
  | @ins a C dx fs ea cl ha hn htk hm =>
    cases (show u=Value.ref a from rx)
    obtain⟨mA,O,_⟩:=uo I.hok ea
    obtain⟨od,J,_⟩:=O.look
    exact PySem.W.kia_one (PySem.W.kitx_own (cl.get _) cl.hd ha hn htk hm) I.ck J e (fun z=>nomatch z) h
end
structure cP(k:Nat)(A:Around):Prop where
 hd:A.handled=none
 dp:A.depth+3*k+5<recursionLimit
 un:A.units+16*k+200<cLine
theorem cP.mono{j k:Nat}{A:Around}(r:cP k A)(h:j<=k):cP j A:=⟨r.hd,by have:=r.dp;omega,by have:=r.un;omega⟩
theorem cP.deeper{k:Nat}{A:Around}(r:cP (k+1) A)(env:Env):cP k (A.deeper env):=
 ⟨r.hd,by have:=r.dp;show A.depth+1+3*k+5<_;omega,by have:=r.un;show A.units+3+16*k+200<_;omega⟩
theorem Wu{A:Around}{C:Addr}{us:List Value}{kw:List (Str×Value)}:(A.under (.builtin "type.__call__" ⟨.ref C::us,kw⟩)).depth=A.depth+1:=by
 first|rfl|simp[Around.under,Code.weight,Code.isCreation,Code.isGuard,Code.isCaller,Code.frames,Code.isFrame,guardIds]
theorem XG{A:Around}{C:Addr}{us:List Value}{kw:List (Str×Value)}:(A.under (.builtin "type.__call__" ⟨.ref C::us,kw⟩)).units=A.units+1:=by
 first|rfl|simp[Around.under,Code.cUnits,Code.frames,Code.isFrame]
theorem cP.make{k:Nat}{A:Around}(r:cP (k+1) A)(C:Addr)(us:List Value)(kw:List (Str×Value)):cP k (A.under (.builtin "type.__call__" ⟨.ref C::us,kw⟩)):=
 ⟨r.hd,by have:=r.dp;rw[Wu];omega,by have:=r.un;rw[XG];omega⟩
theorem cP.depth{k:Nat}{A:Around}(r:cP k A):A.depth<recursionLimit:=by have:=r.dp;omega
theorem cP.units{k:Nat}{A:Around}(r:cP k A):A.units+64<cLine:=by have:=r.un;omega
def bh:TA:=fun _ H Q=>Q [] H
def aS(ta:TE)(tr:TA):TA:=fun σ H Q=>ta σ H fun x H1=>tr σ H1 fun xs H2=>Q (x::xs) H2
section
variable{X:Cx}{e:Expr}{es:List Expr}{te:TE}{t:TA}{pos:Pos}
theorem aj:PA X [] bh:=fun _ _ _ _ H Q I h=>Calls.spliced_nil ⟨[],H,I, .nil,h⟩
theorem aa(ha:PE X e te)(hr:PA X es t)(hs:starEach (e::es) X.env=(false,eval e X.env)::starEach es X.env:=by rfl):PA X (e::es) (aS te t):=by
 intro pos pins s σ H Q I h
 rw[hs]
 show wpAny _ _ (spliced ((false,eval e X.env)::backTo pos (starEach es X.env))) _ _ s
 refine Calls.spliced_cons (aI (ha pins s σ H _ I h) fun u s1 ⟨x,H1,I1,r1,q1⟩=>?_)
 exact aI (hr pos pins s1 σ H1 _ I1 q1) fun us s2 ⟨xs,H2,I2,r2,q2⟩=>⟨x::xs,H2,I2, .cons r1 r2,q2⟩
def pY(t:TA):TE:=fun σ H Q=>t σ H fun xs H1=>xs.length<=sizeLine/\∀p,H1 p=none->Q (.ref p) (upd H1 p (.tup xs))
def kQ(t:TA):TE:=fun σ H Q=>t σ H fun xs H1=>xs.length<=sizeLine/\∀p,H1 p=none->Q (.ref p) (upd H1 p (.lst xs))
theorem fQ{x1}(h:PA X es t):PE X (.Tuple es x1 pos) (pY t):=by
 intro pins s σ H Q I hq
 refine wpAny_Tuple_spliced (aI (h pos pins s σ H _ I hq) fun us s1 ⟨xs,H1,I1,r,z,q⟩=>⟨by rw[<-r.length];exact z,?_⟩)
 have hf:H1 s1.heap.objs.size=none:=I1.hok.fresh (Nat.le_refl _)
 refine⟨.ref s1.heap.objs.size,upd H1 s1.heap.objs.size (.tup xs),I1.laid (t':=s1.toks) (fun b u e=>Heap.get?_push_of_some _ e) (Nat.le_refl _) ?_,rfl,q _ hf⟩
 exact⟨z,us,r,⟨_,Heap.get?_push_size _ rfl,rfl,_,rfl⟩⟩
theorem gm(h:PA X es t):PE X (.List es pos) (kQ t):=by
 intro pins s σ H Q I hq
 refine wpAny_List_spliced (aI (h pos pins s σ H _ I hq) fun us s1 ⟨xs,H1,I1,r,z,q⟩=>⟨by rw[<-r.length];exact z,?_⟩)
 have hf:H1 s1.heap.objs.size=none:=I1.hok.fresh (Nat.le_refl _)
 refine⟨.ref s1.heap.objs.size,upd H1 s1.heap.objs.size (.lst xs),I1.laid (t':=s1.toks) (fun b u e=>Heap.get?_push_of_some _ e) (Nat.le_refl _) ?_,rfl,q _ hf⟩
 exact⟨z,us,0,r,Heap.get?_push_size _ rfl⟩
end
abbrev Sp:=List V->Hp->VK->XK->Prop
abbrev iT:=List Env->Hp->Shared->XK->Value->Shared->Prop
structure kG(P:Program)(w:World)(K:PySem.W.Frag)(mg:Str->Option Value)(base:Heap)(A:Around)(outer:List Env)(s:Shared)(H:Hp):Prop where
 frames:A.frames=some outer
 mod:Mod K mg base
 bs:∀b o,base.get? b=some o->s.heap.get? b=some o/\H b=none
 kB:base.objs.size<=s.heap.objs.size
 ir:s.heap.FunFrames base outer
 kK:∀b∈frs outer,H b=none
 hok:cK P w H s.heap
 bare:AllBare s.gens
def CE(outer:List Env)(P:Program)(w:World)(H:Hp)(s:Shared)(Q:VK)(u:Value)(s':Shared):Prop:=
 ∃v H',s'.os=s.os/\AllBare s'.gens/\Un (frs outer) [] H H' s.heap s'.heap/\cK P w H' s'.heap/\RelV v u/\Q v H'
def CR(CX:iT)(outer:List Env)(P:Program)(w:World)(H:Hp)(s:Shared)(Q:VK)(E:XK)(r:Result)(s':Shared):Prop:=
 match r with
 | .ok (.ret u)=>CE outer P w H s Q u s'
 | .ok _=>False
 | .error e=>CX outer H s E e s'
structure aY(P:Program)(w:World)(K:PySem.W.Frag)(mg:Str->Option Value)(base:Heap)(CX:iT)(k:Nat)(f:Addr)(fd:FuncData)(ps:List Str)(sp:Sp):Prop where
 len:∀vs H Q E,sp vs H Q E->vs.length=ps.length
 run:∀(A:Around) (outer:List Env) (s:Shared) (H:Hp) (args:Args) (us:List Value) (vs:List V) (Q:VK) (E:XK),cP k A->kG P w K mg base A outer s H->BindsTo s fd args (ps.zip us)->Vals vs us->sp vs H Q E->
  codeAny (model P w) A (.call (.ref f) args) (CR CX outer P w H s Q E) s
theorem kG.make{P:Program}{w:World}{K:PySem.W.Frag}{mg:Str->Option Value}{base:Heap}{A:Around}{outer:List Env}{s:Shared}{H:Hp}(e:kG P w K mg base A outer s H)(C:Addr)(us:List Value)(kw:List (Str×Value)):
  kG P w K mg base (A.under (.builtin "type.__call__" ⟨.ref C::us,kw⟩)) outer s H:=⟨by first|exact e.frames|(simpa[Around.under,Code.envs,Code.isFrame,pushEnvs] using e.frames),e.mod,e.bs,e.kB,e.ir,e.kK,e.hok,e.bare⟩
section
variable{X:Cx}{pins:List (Addr×Obj)}{σ:St}{H:Hp}{s s':Shared}
theorem Inv.GX(I:Inv X pins σ H s):kG X.prog X.w X.K X.mg X.base X.A X.stack s H:=
 ⟨I.ok.frames,I.ok.mod,I.bs,Nat.le_trans I.ok.kB I.sz,I.stack,I.DM,I.hok,I.bare⟩
theorem Inv.after{Q:VK}{u:Value}(I:Inv X pins σ H s)(h:CE X.stack X.prog X.w H s Q u s'):EP X pins σ Q u s':=by
 obtain⟨v,H',os,bare,un,hok,r,q⟩:=h
 obtain⟨hh,g,d,t,os'⟩:=s'
 obtain rfl:os'=s.os:=os
 exact⟨v,H',I.call (h':=hh) (g':=g) (d':=d) (t':=t) (ch:=[]) un hok bare (fun b z=>absurd z (by simp)),r,q⟩
end
def eS(sp:Sp)(dX:List V)(E:XK)(t:TA):TE:=fun σ H Q=>t σ H fun vs H1=>sp (vs++dX) H1 Q E
def qf(C:Addr)(m:Str)(sp:Sp)(dX:List V)(E:XK)(ta:TE)(t:TA):TE:=fun σ H Q=>ta σ H fun x H1=>∃a dx fs,x= .ref a/\H1 a=some (.ins C dx fs)/\fs.lookup m=none/\
 t σ H1 fun vs H2=>sp (x::(vs++dX)) H2 Q E
def Ac(C:Addr)(sp:Sp)(dX:List V)(E:XK)(t:TA):TE:=fun σ H Q=>t σ H fun vs H1=>∀x dx,H1 x=none->H1 dx=none->dx≠x->
 sp (.ref x::(vs++dX)) (upd (upd H1 dx (.own x)) x (.ins C dx [])) (fun v H2=>v= .aE/\Q (.ref x) H2) E
def Binds(K:PySem.W.Frag)(fd:FuncData)(ps:List Str)(ds:List Value):Prop:=
 ∀(s:Shared) (us:List Value),K.In s.heap->(us++ds).length=ps.length->BindsTo s fd ⟨us,[]⟩ (ps.zip (us++ds))
theorem Binds.all{K:PySem.W.Frag}{fd:FuncData}{ps:List Str}(h:∀us:List Value,us.length=ps.length->bindArgs fd ⟨us,[]⟩=pure (ps.zip us)):Binds K fd ps []:=fun s us _ hl=>by
 rw[List.append_nil] at hl⊢
 exact .of_eq (h us hl)
def Passes(CX:iT)(X:Cx)(E:XK):Prop:=∀(pins:List (Addr×Obj)) (σ:St) (H:Hp) (s:Shared) (e:Value) (s':Shared),Inv X pins σ H s->CX X.stack H s E e s'->X.xe e s'
section
variable{X:Cx}{CX:iT}{k:Nat}{f C:Addr}{fd:FuncData}{ps:List Str}{sp:Sp}{dX:List V}{ds:List Value}{E:XK}{x m:Str}{p pos apos:Pos}{e o:Expr}{es:List Expr}{ta:TE}{t:TA}
theorem yM{pins:List (Addr×Obj)}{σ:St}{H:Hp}{s:Shared}{Q:VK}{us:List Value}{vs:List V}(F:aY X.prog X.w X.K X.mg X.base CX k f fd ps sp)(hr:cP k X.A)(hb:Binds X.K fd ps ds)(hd:Vals dX ds)(hx:Passes CX X E)
    (I:Inv X pins σ H s) (r:Vals vs us) (h:sp (vs++dX) H Q E):wpAny (model X.prog X.w) X.A (call (.ref f) us) (EP X pins σ Q) X.xe s:=by
  have r2:Vals (vs++dX) (us++ds):=r.append hd
  have hl:(us++ds).length=ps.length:=by rw[<-r2.length];exact F.len _ _ _ _ h
  refine wpAny_call (codeAny_mono (F.run X.A X.stack s H ⟨us,[]⟩ (us++ds) (vs++dX) Q E hr I.GX (hb s us I.ck hl) r2 h) fun r s' hq=>?_)
  cases r with
  |error e=>exact hx pins σ H s e s' I hq
  | ok fl =>
    cases fl with
    |ret u=>exact I.after hq
    |next=>exact False.elim hq
    |brk=>exact False.elim hq
    |cont=>exact False.elim hq
theorem OX(F:aY X.prog X.w X.K X.mg X.base CX k f fd ps sp)(hr:cP k X.A)(hg:Gl X x)(hm:X.mg x=some (.ref f))(hk:PySem.W.keepIn X.K (.ref f)=true)(hb:Binds X.K fd ps ds)(hd:Vals dX ds)(hx:Passes CX X E)
  (ha:PA X (e::es) t) (hdb:(x==("__debug__":Str))=false:=by decide) (he:starEach (e::es) X.env=(false,eval e X.env)::starEach es X.env:=by rfl) (hpl:(backTo pos (starEach es X.env)).any (·.1)=false:=by rfl):
  PE X (.Call (.Name x p) (e::es) [] pos) (eS sp dX E t):=by
 intro pins s σ H Q I h
 refine wpAny_Call_Name_kw (Gr I hg hm ?_ hdb)
 refine PySem.W.callWith_K (h₀:=X.base) I.ok.mod.oX hk (aI (ha pos pins s σ H _ I h) fun us s1 ⟨vs,H1,I1,r,q⟩=>⟨I1.ck,?_⟩) he hpl
 exact yM F hr hb hd hx I1 r q
theorem Yr{pl:Sem Bool}(he:PE X o ta)(c:dJ X.K C)(hm:Meth X.K C m f)(F:aY X.prog X.w X.K X.mg X.base CX k f fd ps sp)(hr:cP k X.A)(hb:Binds X.K fd ps ds)(hd:Vals dX ds)(hx:Passes CX X E)(ha:PA X (e::es) t)
  (hst:starEach (e::es) X.env=(false,eval e X.env)::starEach es X.env:=by rfl) (hpl:(backTo pos (starEach es X.env)).any (·.1)=false:=by rfl)
  (ht : eval (.Call (.Attribute o m apos) (e :: es) [] pos) X.env = (do
   let ov<-eval o X.env
   standAt apos.atName
   let (f,first)<-holding [ov] (getMethod ov m pl)
   callWith pos f first (backTo pos (starEach (e::es) X.env)) (backToKw pos (keywordEach [] X.env))):=by rfl):
  PE X (.Call (.Attribute o m apos) (e::es) [] pos) (qf C m sp dX E ta t):=by
 intro pins s σ H Q I h
 refine PySem.W.methodCall_KW (pl:=pl) (aI (he pins s σ H _ I h) fun u s1 ⟨x,H1,I1,rx,a,dx,fs,ex,ea,l,q⟩=>?_) ht
 subst ex
 obtain rfl:u=Value.ref a:=rx
 refine As I1 ea c hm l ?_
 refine PySem.W.callWith_K (first:=[.ref a]) (h₀:=X.base) I.ok.mod.oX hm.kp (aI (ha pos pins s1 σ H1 _ I1 q) fun us s2 ⟨vs,H2,I2,r,q2⟩=>⟨I2.ck,?_⟩) hst hpl
 exact yM (us:= .ref a::us) (vs:= .ref a::vs) F hr hb hd hx I2 (.cons rfl r) q2
theorem ZT{pl:Sem Bool}(he:PE X o ta)(c:dJ X.K C)(hm:Meth X.K C m f)(F:aY X.prog X.w X.K X.mg X.base CX k f fd ps sp)(hr:cP k X.A)(hb:Binds X.K fd ps ds)(hd:Vals dX ds)(hx:Passes CX X E)
  (ht : eval (.Call (.Attribute o m apos) [] [] pos) X.env = (do
   let ov<-eval o X.env
   standAt apos.atName
   let (f,first)<-holding [ov] (getMethod ov m pl)
   callWith pos f first (backTo pos (starEach [] X.env)) (backToKw pos (keywordEach [] X.env))):=by rfl):
  PE X (.Call (.Attribute o m apos) [] [] pos) (qf C m sp dX E ta bh):=by
 intro pins s σ H Q I h
 refine PySem.W.methodCall_KW (pl:=pl) (aI (he pins s σ H _ I h) fun u s1 ⟨x,H1,I1,rx,a,dx,fs,ex,ea,l,q⟩=>?_) ht
 subst ex
 obtain rfl:u=Value.ref a:=rx
 refine As I1 ea c hm l ?_
 exact PySem.W.callWith_K0 (first:=[.ref a]) I1.ck hm.kp (yM (us:=[.ref a]) (vs:=[.ref a]) F hr hb hd hx I1 (.cons rfl .nil) q)
structure Mk(K:PySem.W.Frag)(C f:Addr):Prop where
 makes:PySem.W.makesIn K C=true
 init:PySem.W.findIn K (.ref C) "__init__"=some (some (.ref f))
 fn:PySem.W.isFn K (.ref f)=true
 kp:PySem.W.keepIn K (.ref C)=true
theorem JN{pins:List (Addr×Obj)}{σ:St}{H:Hp}{s:Shared}{Q:VK}{us:List Value}{vs:List V}(M:Mk X.K C f)(F:aY X.prog X.w X.K X.mg X.base CX k f fd ps sp)(hr:cP (k+1) X.A)(hb:Binds X.K fd ps ds)(hd:Vals dX ds)
    (hx:Passes CX X E) (I:Inv X pins σ H s) (r:Vals vs us)
    (h:∀x dx,H x=none->H dx=none->dx≠x->sp (.ref x::(vs++dX)) (upd (upd H dx (.own x)) x (.ins C dx [])) (fun v H2=>v= .aE/\Q (.ref x) H2) E):
    wpAny (model X.prog X.w) X.A (call (.ref C) us) (EP X pins σ Q) X.xe s:=by
  have hq:=h (s.heap.objs.size+1) s.heap.objs.size (I.hok.fresh (Nat.le_succ _)) (I.hok.fresh (Nat.le_refl _)) (Nat.ne_of_lt (Nat.lt_succ_self _))
  have I2:=Inv.made (C:=C) I
  have r2:Vals (V.ref (s.heap.objs.size+1)::(vs++dX)) (Value.ref (s.heap.objs.size+1)::(us++ds)):= .cons rfl (r.append hd)
  have hl:(Value.ref (s.heap.objs.size+1)::us++ds).length=ps.length:=by
    have e:=r2.length
    rw[F.len _ _ _ _ hq] at e
    exact e.symm
  refine wpAny_call (KJ (f:=f) I.ck M.makes M.init (beq_iff_eq.mp M.fn) (codeAny_mono (F.run _ X.stack _ _ ⟨Value.ref (s.heap.objs.size+1)::us,[]⟩ (Value.ref (s.heap.objs.size+1)::(us++ds)) _ _ E (hr.make C us [])
    (I2.GX.make C us []) (hb _ (Value.ref (s.heap.objs.size+1)::us) I2.ck hl) r2 hq) fun r s' hq'=>?_))
  cases r with
  |error e=>exact hx pins σ _ _ e s' I2 hq'
  | ok fl =>
    cases fl with
    | ret u =>
      obtain⟨v,H',I3,rv,ev,q3⟩:=I2.after hq'
      subst ev
      exact⟨rv,⟨V.ref (s.heap.objs.size+1),H',I3,rfl,q3⟩⟩
    |next=>exact False.elim hq'
    |brk=>exact False.elim hq'
    |cont=>exact False.elim hq'
theorem RN(M:Mk X.K C f)(F:aY X.prog X.w X.K X.mg X.base CX k f fd ps sp)(hr:cP (k+1) X.A)(hg:Gl X x)(hm:X.mg x=some (.ref C))(hb:Binds X.K fd ps ds)(hd:Vals dX ds)(hx:Passes CX X E)
  (ha:PA X (e::es) t) (hdb:(x==("__debug__":Str))=false:=by decide) (he:starEach (e::es) X.env=(false,eval e X.env)::starEach es X.env:=by rfl) (hpl:(backTo pos (starEach es X.env)).any (·.1)=false:=by rfl):
  PE X (.Call (.Name x p) (e::es) [] pos) (Ac C sp dX E t):=by
 intro pins s σ H Q I h
 refine wpAny_Call_Name_kw (Gr I hg hm ?_ hdb)
 refine PySem.W.callWith_K (h₀:=X.base) I.ok.mod.oX M.kp (aI (ha pos pins s σ H _ I h) fun us s1 ⟨vs,H1,I1,r,q⟩=>⟨I1.ck,?_⟩) he hpl
 exact JN M F hr hb hd hx I1 r q
end
structure bM(N P:List Str)(sc:Scope):Prop where
 kind:sc.kind= .function
 co:sc.isCoroutine=false
 gen:sc.isGenerator=false
 nd:N.Nodup
 pre:N.take P.length=P
 par:∀x∈P,sc.names.lookup x=some .local\/sc.names.lookup x=some .cell
 Lz:∀y∈sc.names,y.2≠ .free
theorem B8{kindOf:Str->Option NameKind}{x:Str}:∀{binds:List (Str×Value)} {m:Str->Option Value},(∀v,(x,v)∉binds)->bindL kindOf binds m x=m x
  |[],_,_=>rfl
  | (n, v) :: r, m, h => by
    unfold bindL
    rw[B8 fun w hw=>h w (List.mem_cons_of_mem _ hw)]
    split
    · have:x≠n:=by rintro rfl;exact h v List.mem_cons_self
      simp[this]
    · rfl
theorem Dw{kindOf:Str->Option NameKind}{x:Str}:∀{binds:List (Str×Value)} {m:Str->Option Value},(∀v,(x,v)∉binds)->bindC kindOf binds m x=m x
  |[],_,_=>rfl
  | (n, v) :: r, m, h => by
    unfold bindC
    rw[Dw fun w hw=>h w (List.mem_cons_of_mem _ hw)]
    split
    · rfl
    · have:x≠n:=by rintro rfl;exact h v List.mem_cons_self
      simp[this]
theorem Gp{kindOf:Str->Option NameKind}{x:Str}{v:Value}:∀{P:List Str} {vs:List Value} {i:Nat} {m:Str->Option Value},P.Nodup->P[i]?=some x->vs[i]?=some v->kindOf x=some .local->
    bindL kindOf (P.zip vs) m x=some v
  |[],_,_,_,_,h,_,_=>by simp at h
  |_::_,[],_,_,_,_,h,_=>by simp at h
  | p :: P, w :: vs, 0, m, nd, h1, h2, hk => by
    simp at h1 h2;subst h1;subst h2
    show bindL kindOf ((p,w)::P.zip vs) m p=_
    unfold bindL
    rw[B8 fun v hv=>(List.nodup_cons.mp nd).1 (List.of_mem_zip hv).1,if_pos hk]
    simp
  | p :: P, w :: vs, i + 1, m, nd, h1, h2, hk => by
    show bindL kindOf ((p,w)::P.zip vs) m x=_
    unfold bindL
    exact Gp (i:=i) (List.nodup_cons.mp nd).2 (by simpa using h1) (by simpa using h2) hk
theorem EB{kindOf:Str->Option NameKind}{x:Str}{v:Value}:∀{P:List Str} {vs:List Value} {i:Nat} {m:Str->Option Value},P.Nodup->P[i]?=some x->vs[i]?=some v->kindOf x≠some .local->
    bindC kindOf (P.zip vs) m x=some v
  |[],_,_,_,_,h,_,_=>by simp at h
  |_::_,[],_,_,_,_,h,_=>by simp at h
  | p :: P, w :: vs, 0, m, nd, h1, h2, hk => by
    simp at h1 h2;subst h1;subst h2
    show bindC kindOf ((p,w)::P.zip vs) m p=_
    unfold bindC
    rw[Dw fun v hv=>(List.nodup_cons.mp nd).1 (List.of_mem_zip hv).1,if_neg hk]
    simp
  | p :: P, w :: vs, i + 1, m, nd, h1, h2, hk => by
    show bindC kindOf ((p,w)::P.zip vs) m x=_
    unfold bindC
    exact EB (i:=i) (List.nodup_cons.mp nd).2 (by simpa using h1) (by simpa using h2) hk
def start(N:List Str)(vs:List V):St:=vs.map some++List.replicate (N.length-vs.length) none
def mG(CX:iT)(P:Program)(w:World)(K:PySem.W.Frag)(mg:Str->Option Value)(base:Heap)(N:List Str)(qual:Str)(scope:Scope)(f:Addr)(cd:Value)(A:Around)(outer:List Env)(s:Shared)(H:Hp)(E:XK):Cx where
 prog:=P
 w:=w
 K:=K
 mg:=mg
 base:=base
 A:=A.deeper (envOfC qual scope s.heap.objs.size f cd)
 N:=N
 s₀:=s
 H₀:=H
 env:=envOfC qual scope s.heap.objs.size f cd
 outer:=outer
 stack:=envOfC qual scope s.heap.objs.size f cd::outer
 ex:=[]
 calm:=true
 fn:=fun _=>true
 pn:=[]
 xe:=fun e s'=>wpAny (model P w) (A.deeper (envOfC qual scope s.heap.objs.size f cd)) (leaving (envOfC qual scope s.heap.objs.size f cd) e) (fun _ s''=>CX outer H s E e s'') (fun e' s''=>CX outer H s E e' s'') s'
theorem Gy{sc:Scope}{n:Nat}{x:Str}(h:sc.names.lookup x=some .cell):∃c,(cellsFrom n sc.names []).lookup x=some c:=by
 have q:=PySem.W.cellsFrom_some sc.names n [] (.inl h)
 exact Option.isSome_iff_exists.mp q
theorem NU{CX:iT}{P:Program}{w:World}{K:PySem.W.Frag}{mg:Str->Option Value}{base:Heap}{N ps:List Str}{qual:Str}{scope:Scope}{f:Addr}{cd:Value}{A:Around}{outer:List Env}{s s1:Shared}{H:Hp}{E:XK}{us:List Value}{vs:List V}
  (S:bM N ps scope) (hd:A.handled=none) (e0:kG P w K mg base A outer s H) (hl:vs.length=ps.length) (r:Vals vs us)
  (x:InCallC s s.heap.objs.size (bindL (envOfC qual scope s.heap.objs.size f cd).kindOf (ps.zip us) fun _=>none) (cellsFrom (s.heap.objs.size+1) scope.names []) (bindC (envOfC qual scope s.heap.objs.size f cd).kindOf (ps.zip us) fun _=>none) s1):
  Inv (mG CX P w K mg base N qual scope f cd A outer s H E) [] (start N vs) H s1:=by
 have hpl:ps.length<=N.length:=by have:=congrArg List.length S.pre;rw[List.length_take] at this;omega
 obtain⟨h1,tk,rfl,hk⟩:=x.done
 have oM:∀b:Addr,b∉(mG CX P w K mg base N qual scope f cd A outer s H E).ex:=fun b z=>absurd (show b∈([]:List Addr) from z) (by simp)
 refine⟨⟨e0.mod,S.kind,rfl,rfl,Nat.le_refl _,fun y z c h1 h2=>?_,fun y hy=>?_,fun y c _ h=>?_,fun _=>hd,Around.frames_deeper e0.frames, .inr ⟨rfl,rfl⟩,fun b z=>absurd z (oM b),e0.bs,e0.kB,fun b _ _=>oM b,fun b z=>absurd z (oM b),e0.ir,e0.kK⟩,
  rfl,e0.bare,Un.kept hk,⟨_,x.toInCall.ns,fun i y v h1 h2 h3=>?_⟩,fun y c h=>⟨_,x.cell y c h⟩,e0.hok.fresh (Nat.le_refl _),fun y c h=>?_,fun p hp=>absurd (show p∈([]:List (Addr×Obj)) from hp) (by simp),e0.hok.kept hk,?_⟩
 ·exact name_of_addr x.apart (PySem.mem_of_lookup h1) (PySem.mem_of_lookup h2)
 ·have hy:scope.names.lookup y=some .cell\/scope.names.lookup y=some .free:=hy
  rcases hy with hy|hy
  ·exact Gy hy
  ·exact absurd rfl (S.Lz _ (PySem.mem_of_lookup hy))
 ·exact Nat.le_of_lt (x.above y c (PySem.mem_of_lookup h))
 ·have hi:i<vs.length:=by
   unfold start at h2
   by_cases hi:i<vs.length
   ·exact hi
   ·rw[List.getElem?_append_right (by simpa using hi)] at h2
    rw[List.getElem?_replicate] at h2
    split at h2<;>cases h2
  have ha:vs[i]?=some v:=by
   unfold start at h2
   rw[List.getElem?_append_left (by simpa using hi),List.getElem?_map] at h2
   cases e:vs[i]? with
   |none=>rw[e] at h2;cases h2
   |some a=>rw[e] at h2;cases h2;rfl
  obtain⟨u,hu,rv⟩:=r.get ha
  have hp:ps[i]?=some y:=by
   rw[<-S.pre,List.getElem?_take_of_lt (by omega)];exact h1
  have Fe:ps.Nodup:=by rw[<-S.pre];exact S.nd.sublist (List.take_sublist _ _)
  refine⟨u,rv,?_⟩
  rcases S.par y (List.mem_of_getElem? hp) with k|k
  ·exact .inl ⟨k,Gp Fe hp hu k⟩
  ·obtain⟨c,e⟩:=Gy (n:=s.heap.objs.size+1) k
   refine .inr ⟨.inl k,c,e,?_⟩
   have q:=x.cell y c e
   rw[EB Fe hp hu (by show scope.names.lookup y≠_;rw[k];decide)] at q
   exact q
 ·exact e0.hok.fresh (Nat.le_of_lt (x.above y c (PySem.mem_of_lookup h)))
 ·unfold start
  show _=N.length
  rw[List.length_append,List.length_map,List.length_replicate]
  omega
theorem Tj{CX:iT}{P:Program}{w:World}{K:PySem.W.Frag}{mg:Str->Option Value}{base:Heap}{k:Nat}{f:Addr}{name qual:Str}{params:Arguments}{body:List Stmt}{scope:Scope}{dV kV doc pm cdv ct oc:Value}{an od:Option Addr}
    {osl:Array (Option Value)} {N ps:List Str} {sp:Sp} (lk:K.lookup f=some ⟨oc,od, .func (PySem.W.fnOf name qual params body scope dV kV doc pm an cdv ct),osl⟩) (hcd:PySem.W.codeIn K cdv qual=true) (S:bM N ps scope)
    (len:∀vs H Q E,sp vs H Q E->vs.length=ps.length)
    (hbody:∀(A:Around) (outer:List Env) (s:Shared) (H:Hp) (vs:List V) (Q:VK) (E:XK),cP k (A.deeper (envOfC qual scope s.heap.objs.size f cdv))->sp vs H Q E->
      ∃t,gR (mG CX P w K mg base N qual scope f cdv A outer s H E) body t/\t {nx:=fun _ H'=>Q .aE H',rt:=Q} (start N vs) H):
    aY P w K mg base CX (k+1) f (PySem.W.fnOf name qual params body scope dV kV doc pm an cdv ct) ps sp:=by
  refine⟨len,fun A outer s H args us vs Q E hr e0 hb r jV=>?_⟩
  have hl:=len _ _ _ _ jV
  have KX:K.In s.heap:=e0.mod.oX.keeps fun b o e=>(e0.bs b o e).1
  have lim:s.heap.NoLimit:=e0.mod.nolimit.keeps fun b o e=>(e0.bs b o e).1
  have hkind:∀y∈ps.zip us,scope.names.lookup y.1=some .local\/(scope.names.lookup y.1=some .cell/\((cellsFrom (s.heap.objs.size+1) scope.names []).lookup y.1).isSome=true):=fun⟨n,v⟩ hy=>by
    rcases S.par n (List.of_mem_zip hy).1 with q|q
    · exact .inl q
    · exact .inr ⟨q,PySem.W.cellsFrom_some _ _ _ (.inl q)⟩
  refine codeAny_call_function hr.depth (KX _ _ lk) rfl S.co S.gen rfl (PySem.W.codeRec_of KX hcd) (hb _ _ _ _ ?_)
  refine wpAny_newFunctionEnv_cells S.kind hkind fun env he s1 x=>?_
  subst he
  refine⟨lim.keeps x.toInCall.keep,codeAny_func ?_⟩
  obtain⟨t,ht,hq⟩:=hbody A outer s H vs Q E (hr.deeper _) jV
  have I:Inv (mG CX P w K mg base N qual scope f cdv A outer s H E) [] (start N vs) H s1:=NU S hr.hd e0 hl r x
  refine wpAny_mono (ht [] s1 (start N vs) H _ I hq) (fun fl s' hs=>?_) fun e s' hs=>hs
  have fin:∀{σ':St} {H':Hp} {v:V} {u:Value},Inv (mG CX P w K mg base N qual scope f cdv A outer s H E) [] σ' H' s'->RelV v u->Q v H'->CE outer P w H s Q u s':=
    fun{σ' H' v u} J rv q=>⟨v,H',J.os,J.bare,J.base,J.hok,rv,q⟩
  cases fl with
  | ret u =>
    obtain⟨v,σ',H',J,rv,q⟩:=hs
    exact fin J rv q
  | next =>
    obtain⟨σ',H',J,q⟩:=hs
    exact fin (v:=V.aE) (u:=Value.none) J rfl q
  | brk =>
    obtain⟨_,_,_,q⟩:=hs
    exact False.elim q
  | cont =>
    obtain⟨_,_,_,q⟩:=hs
    exact False.elim q
section
variable{X:Cx}{x:Str}{p pos:Pos}{e:Expr}{es:List Expr}{t:TA}{id T:String}{r:List V->Hp->VK->Prop}
def dw(r:List V->Hp->VK->Prop)(t:TA):TE:=fun σ H Q=>t σ H fun vs H1=>r vs H1 Q
theorem bT(hc:dB X (.builtin id) r)(hg:Gl X x)(hm:X.mg x=none)(hv:bootBuiltins x=some (.builtin id))(ha:PA X (e::es) t)(hn:x≠"__name__":=by decide)(hdb:(x==("__debug__":Str))=false:=by decide)
  (he:starEach (e::es) X.env=(false,eval e X.env)::starEach es X.env:=by rfl) (hpl:(backTo pos (starEach es X.env)).any (·.1)=false:=by rfl):PE X (.Call (.Name x p) (e::es) [] pos) (dw r t):=by
 intro pins s σ H Q I h
 refine wpAny_Call_Name_kw (nI I hg hm hv ?_ hn hdb)
 exact PyProof.Rows.callWith_builtin1 (aI (ha pos pins s σ H _ I h) fun us s1 ⟨vs,H1,I1,r1,q1⟩=>hc pins s1 σ H1 vs us Q I1 r1 q1) he hpl
theorem gy(hc:dB X (.type T) r)(hg:Gl X x)(hm:X.mg x=none)(hv:bootBuiltins x=some (.type T))(ha:PA X (e::es) t)(hn:x≠"__name__":=by decide)(hdb:(x==("__debug__":Str))=false:=by decide)
  (he:starEach (e::es) X.env=(false,eval e X.env)::starEach es X.env:=by rfl) (hpl:(backTo pos (starEach es X.env)).any (·.1)=false:=by rfl):PE X (.Call (.Name x p) (e::es) [] pos) (dw r t):=by
 intro pins s σ H Q I h
 refine wpAny_Call_Name_kw (nI I hg hm hv ?_ hn hdb)
 exact PyProof.Rows.callWith_type1 (aI (ha pos pins s σ H _ I h) fun us s1 ⟨vs,H1,I1,r1,q1⟩=>hc pins s1 σ H1 vs us Q I1 r1 q1) he hpl
end
end L2
namespace HT
open PySem PyProof.Rows
section
open PySem.SeqAt
open PySem.AutoSeq1 (wpAny_loadPart')
open PySem.MeetsSeq PySem.MeetsSeq2 PySem.MeetsSeq3
end
section
variable{prog:Program}{w:World}{A:Around}{E:Value->Shared->Prop}{s:Shared}
def cY(n d:Nat):Option Int->Nat
 |none=>d
 |some v=>if v<0 then(v+(n:Int)).toNat else min v.toNat n
end
end HT
namespace L2
open PySem PySem.Spec PyProof.Rows
abbrev TO:=St->Hp->(Option Int->Hp->Prop)->Prop
def PO(X:Cx)(e:Option Expr)(t:TO):Prop:=
 ∀(pins:List (Addr×Obj)) (s:Shared) (σ:St) (H:Hp) (Q:Option Int->Hp->Prop),Inv X pins σ H s->t σ H Q->
  wpAny (model X.prog X.w) X.A (evalPart e X.env) (fun u s'=>∃o H',Inv X pins σ H' s'/\IsPart u o/\Q o H') X.xe s
def yf:TO:=fun _ H Q=>Q none H
def Bo(t:TE):TO:=fun σ H Q=>t σ H fun x H1=>∃i,x= .int i/\Q (some i) H1
section
variable{X:Cx}{e:Expr}{te:TE}{lo hi:Option Expr}{tl th:TO}{pos p2:Pos}
theorem qO:PO X none yf:=by
 intro pins s σ H Q I h
 rw[evalPart_none]
 exact wpAny_pure ⟨none,H,I, .none,h⟩
theorem tO(h:PE X e te):PO X (some e) (Bo te):=by
 intro pins s σ H Q I hw
 rw[evalPart_some]
 refine aI (h pins s σ H _ I hw) fun u s1 ⟨x,H1,I1,r1,q1⟩=>?_
 obtain⟨i,rfl,q⟩:=q1
 obtain⟨t,rfl⟩:=r1
 exact⟨some i,H1,I1, .int i t,q⟩
def Hr(X:Cx)(r:V->Option Int->Option Int->Hp->VK->Prop):Prop:=
 ∀(pins:List (Addr×Obj)) (s:Shared) (σ:St) (H:Hp) (x:V) (v vl vu:Value) (lo hi:Option Int) (sl:Addr) (Q:VK),Inv X pins σ H s->RelV x v->s.heap.IsSliceOf sl vl vu .none->IsPart vl lo->IsPart vu hi->r x lo hi H Q->
  ∃T id,typeLookup (.type T) "__getitem__"=pure (some (.builtin id))/\s.TypeIs v T/\wpAny (model X.prog X.w) X.A (getItem v (.ref sl)) (EP X pins σ Q) X.xe s
def pC(r:V->Option Int->Option Int->Hp->VK->Prop)(te:TE)(tl th:TO):TE:=fun σ H Q=>te σ H fun x H1=>tl σ H1 fun l H2=>th σ H2 fun u H3=>r x l u H3 Q
theorem sV{r:V->Option Int->Option Int->Hp->VK->Prop}(hr:Hr X r)(he:PE X e te)(hl:PO X lo tl)(hu:PO X hi th):PE X (.Subscript e (.Slice lo hi none p2) pos) (pC r te tl th):=by
 intro pins s σ H Q I h
 refine Subscript_ (aI (he pins s σ H _ I h) fun v s1 ⟨x,H1,I1,r1,q1⟩=>?_)
 refine wpAny_Slice (aI (hl pins s1 σ H1 _ I1 q1) fun vl s2 ⟨l,H2,I2,pl,q2⟩=>aI (hu pins s2 σ H2 _ I2 q2) fun vu s3 ⟨u,H3,I3,pu,q3⟩=>?_)
 rw[evalPart_none]
 refine wpAny_pure ?_
 have I4:Inv X pins σ H3 {s3 with heap:=s3.heap.push {cls:= .type "slice",data:= .fields #[vl,vu, .none]}}:=I3.kept (t':=s3.toks) fun b ob q=>Heap.get?_push_of_some _ q
 obtain⟨T,id,hT,ht,hg⟩:=hr pins {s3 with heap:=s3.heap.push {cls:= .type "slice",data:= .fields #[vl,vu, .none]}} σ H3 x v vl vu l u s3.heap.objs.size Q I4 r1 (Heap.IsSliceOf.new ..) pl pu q3
 show wpAny (model X.prog X.w) X.A (subscriptTail e (.Slice lo hi none p2) v (.ref s3.heap.objs.size)) (EP X pins σ Q) X.xe {s3 with heap:=s3.heap.push {cls:= .type "slice",data:= .fields #[vl,vu, .none]}}
 exact tail_any (ops:=[.ref s3.heap.objs.size,v]) ht hT hg (by with_unfolding_all rfl)
def jI(xs:List V)(lo hi:Option Int):List V:=(xs.drop (HT.cY xs.length 0 lo)).take (HT.cY xs.length xs.length hi-HT.cY xs.length 0 lo)
theorem SG(xs:List V)(lo hi:Option Int):(jI xs lo hi).length<=xs.length:=by
 unfold jI
 rw[List.length_take,List.length_drop]
 omega
def Mr(K:PySem.W.Frag):V->Option Int->Option Int->Hp->VK->Prop:=fun x lo hi H Q=>∃a xs,x= .ref a/\eE K H a xs/\
 ¬(HT.cY xs.length 0 lo=0/\HT.cY xs.length xs.length hi=xs.length)/\∀p,H p=none->Q (.ref p) (upd H p (.tup (jI xs lo hi)))
def RG(K:PySem.W.Frag):R2:=fun x y H Q=>∃a b xs ys,x= .ref a/\y= .ref b/\eE K H a xs/\eE K H b ys/\xs≠[]/\xs.length+ys.length<=sizeLine/\
 (ys=[]->Q (.ref a) H)/\(ys≠[]->∀p,H p=none->Q (.ref p) (upd H p (.tup (xs++ys))))
end
def fG(n:Nat)(i:Int):Option Nat:=if 0<=i then(if i<n then some i.toNat else none) else if-(n:Int)<=i then some (i+n).toNat else none
def bB{α:Type}(xs:List α)(i:Int):Option α:=(fG xs.length i).bind fun j=>xs[j]?
theorem EI{n:Nat}{i:Int}{j:Nat}(h:fG n i=some j):seqIndex? i n=some j/\j<n/\ -(n:Int)<=i/\i<n:=by
 unfold fG at h
 by_cases h0:0<=i
 ·rw[if_pos h0] at h
  by_cases h1:i<n
  ·rw[if_pos h1] at h
   have e:i.toNat=j:=Option.some.inj h
   exact⟨by rw[seqIndex_of h0 h1,e],by omega,by omega,h1⟩
  ·rw[if_neg h1] at h;cases h
 ·rw[if_neg h0] at h
  by_cases h1: -(n:Int)<=i
  ·rw[if_pos h1] at h
   have e:(i+n).toNat=j:=Option.some.inj h
   exact⟨by rw[seqIndex_neg (by omega) h1,e],by omega,h1,by omega⟩
  ·rw[if_neg h1] at h;cases h
theorem rK{α:Type}{xs:List α}{i:Int}{v:α}(h:bB xs i=some v):∃j,seqIndex? i xs.length=some j/\xs[j]?=some v/\j<xs.length/\ -(xs.length:Int)<=i/\i<xs.length:=by
  unfold bB at h
  cases e:fG xs.length i with
  |none=>rw[e] at h;cases h
  | some j =>
    rw[e] at h
    obtain⟨h1,h2,h3,h4⟩:=EI e
    exact⟨j,h1,h,h2,h3,h4⟩
theorem SM{α:Type}{xs:List α}{j:Nat}{v:α}(h:xs[j]?=some v):bB xs (j:Int)=some v:=by
 have hj:j<xs.length:=(List.getElem?_eq_some_iff.mp h).1
 have e:fG xs.length (j:Int)=some j:=by
  unfold fG
  rw[if_pos (by omega),if_pos (by omega)];simp
 unfold bB;rw[e];exact h
def Zf(b:Expr):Prop:=∀o i,subscripted b false o i=operate [o,i] (getItem o i)
def iQ(X:Cx)(r:R2):Prop:=
 ∀(value slice:Expr) (pins:List (Addr×Obj)) (s:Shared) (σ:St) (H:Hp) (x y:V) (v u:Value) (Q:VK),Inv X pins σ H s->RelV x v->RelV y u->r x y H Q->
  subscripted slice false v u=operate [v,u] (getItem v u)->wpAny (model X.prog X.w) X.A (subscriptTail value slice v u) (EP X pins σ Q) X.xe s
def oB(X:Cx)(id:String)(r:V->List V->Hp->VK->Prop):Prop:=
 ∀(pins:List (Addr×Obj)) (s:Shared) (σ:St) (H:Hp) (x:V) (xs:List V) (v:Value) (us:List Value) (Q:VK),Inv X pins σ H s->RelV x v->Vals xs us->r x xs H Q->
  wpAny (model X.prog X.w) X.A (call (.builtin id) (v::us)) (EP X pins σ Q) X.xe s
section
variable{X:Cx}{a b:Expr}{ta tb:TE}{pos:Pos}
theorem iQ.or{r r':R2}(h:iQ X r)(h':iQ X r'):iQ X (fun x y H Q=>r x y H Q\/r' x y H Q):=by
 intro value slice pins s σ H x y v u Q I rx ry q hs
 rcases q with q|q
 ·exact h value slice pins s σ H x y v u Q I rx ry q hs
 ·exact h' value slice pins s σ H x y v u Q I rx ry q hs
theorem aJ{r:R2}(hr:iQ X r)(ha:PE X a ta)(hb:PE X b tb)(hs:Zf b):PE X (.Subscript a b pos) (bX r ta tb):=by
 intro pins s σ H Q I h
 exact Subscript_ (uE ha hb I h fun v u s2 x y H2 I2 rx ry q=>hr a b pins s2 σ H2 x y v u Q I2 rx ry q (hs _ _))
def bI(K:PySem.W.Frag):R2:=fun x y H Q=>∃p xs i v,x= .ref p/\y= .int i/\aQ K H p xs/\bB xs i=some v/\Q v H
def cO(K:PySem.W.Frag):R2:=fun x y H Q=>∃p xs i v,x= .ref p/\y= .int i/\eE K H p xs/\bB xs i=some v/\Q v H
def FW:R2:=fun x y H Q=>∃z i c,x= .str z/\y= .int i/\z.length<=sizeLine/\bB z.cps.toList i=some c/\Q (.str ⟨#[c]⟩) H
theorem aZ:iQ X (bI X.K):=by
 intro value slice pins s σ H x y v u Q I rx ry h hs
 obtain⟨p,xs,i,z,rfl,rfl,hq,he,q⟩:=h
 cases rx
 obtain⟨t,rfl⟩:=ry
 obtain⟨its,r,pl,hz⟩:=I.list hq
 obtain⟨j,h1,h2,h3,h4,h5⟩:=rK he
 obtain⟨w,ew,rw'⟩:=r.get h2
 have hl:=r.length
 have hn:=lT
 have fin:EP X pins σ Q w s:=⟨z,H,I,rw',q⟩
 by_cases h0:0<=i
 ·have hj:i.toNat=j:=by
   rw[seqIndex_of h0 h5] at h1
   exact Option.some.inj h1
  exact item_listR pl.isList h0 (by omega) (by rw[hj];simpa using ew) fin hs
 ·have hj:(i+(its.toArray.size:Int)).toNat=j:=by
   rw[seqIndex_neg (by omega) h4] at h1
   rw[List.size_toArray,<-hl]
   exact Option.some.inj h1
  exact subscriptTail_builtinR (x:=w) pl.isList.typeIs slot_list_getitem.lookup
   (wpAny_getItem_list_neg (Q:=fun r s'=>r=w/\EP X pins σ Q r s') pl.isList (by omega) (by rw[List.size_toArray]<;>omega) (by omega) (by rw[hj];simpa using ew) ⟨rfl,fin⟩) hs
theorem dD:iQ X (cO X.K):=by
 intro value slice pins s σ H x y v u Q I rx ry h hs
 obtain⟨p,xs,i,z,rfl,rfl,hq,he,q⟩:=h
 cases rx
 obtain⟨t,rfl⟩:=ry
 obtain⟨its,r,pl,hz⟩:=I.tuple hq
 obtain⟨j,h1,h2,h3,h4,h5⟩:=rK he
 obtain⟨w,ew,rw'⟩:=r.get h2
 have hl:=r.length
 have hn:=lT
 have fin:EP X pins σ Q w s:=⟨z,H,I,rw',q⟩
 exact subscriptTail_builtinR (x:=w) pl.typeIs slot_tuple_getitem.lookup
  (getItem_tuple (j:=j) (Q:=fun r s'=>r=w/\EP X pins σ Q r s') pl (by omega) (by omega) (by rw[List.size_toArray,<-hl];exact h1) (by simpa using ew) ⟨rfl,fin⟩) hs
theorem Rr:iQ X FW:=by
 intro value slice pins s σ H x y v u Q I rx ry h hs
 obtain⟨z,i,c,rfl,rfl,hz,he,q⟩:=h
 obtain⟨t,rfl⟩:=rx
 obtain⟨t',rfl⟩:=ry
 obtain⟨j,h1,h2,h3,h4,h5⟩:=rK he
 have hl:z.cps.toList.length=z.length:=by simp[Str.length]
 rw[hl] at h1 h4 h5
 have hn:=lT
 exact tail_any (typeIs_str s z t) slot_str_getitem.lookup (getItem_str (c:=c) (by
  have e1:decide (i< -(2^63:Int))=false:=decide_eq_false (by omega)
  have e2:decide (i≥2^63)=false:=decide_eq_false (by omega)
  rw[e1,e2,Bool.or_false]) (by rw[h1];simpa using h2) ⟨.str ⟨#[c]⟩,H,I.tok _,⟨_,rfl⟩,q⟩) hs
def rm(K:PySem.W.Frag):R2:=fun x y H Q=>bI K x y H Q\/cO K x y H Q\/FW x y H Q
theorem En:iQ X (rm X.K):=aZ.or (dD.or Rr)
theorem Jr(its:List Value)(n j:Nat)(u:Value):Obj.mapSeq (·.setIfInBounds j u) {cls:= .type "list",data:= .seq its.toArray n}={cls:= .type "list",data:= .seq (its.set j u).toArray n}:=by
 simp[Obj.mapSeq]
theorem Inv.lst{pins:List (Addr×Obj)}{σ:St}{H:Hp}{s:Shared}{p:Addr}{xs:List V}(I:Inv X pins σ H s)(h:H p=some (.lst xs)):
  ∃(its:List Value) (n:Nat),Vals xs its/\s.heap.get? p=some {cls:= .type "list",data:= .seq its.toArray n}/\xs.length<=sizeLine:=by
 obtain⟨z,its,n,r,e⟩:=I.hok p _ h
 exact⟨its,n,r,e,z⟩
theorem Inv.ZU{pins:List (Addr×Obj)}{σ:St}{H:Hp}{s:Shared}{p:Addr}{xs ys:List V}{its its':List Value}{n n':Nat}{f:Obj->Obj}(I:Inv X pins σ H s)(h:H p=some (.lst xs))
  (ho:s.heap.get? p=some {cls:= .type "list",data:= .seq its.toArray n}) (hf:f {cls:= .type "list",data:= .seq its.toArray n}={cls:= .type "list",data:= .seq its'.toArray n'}) (r:Vals ys its') (hz:ys.length<=sizeLine) (t:Nat):
  Inv X pins σ (upd H p (.lst ys)) {s with heap:=s.heap.update p f,toks:=t}:=by
 have e:(s.heap.update p f).get? p=some {cls:= .type "list",data:= .seq its'.toArray n'}:=by
  rw[Heap.get?_update_self f ho (by rw[hf]<;>rfl),hf]
 refine I.write (x:=p) (e:=p) (by rw[h];trivial) (.inl rfl) (fun b u hb q=>(Heap.get?_update_other _ _ (Ne.symm hb)).trans q) ⟨_,e⟩ ?_
 exact⟨hz,its',n',r,e⟩
def pD:V->V->V->Hp->(Hp->Prop)->Prop:=fun o i v H Q=>∃p xs k j,o= .ref p/\i= .int k/\H p=some (.lst xs)/\fG xs.length k=some j/\Q (upd H p (.lst (xs.set j v)))
theorem set_list:qP X pD:=by
 intro pins s σ H o i v ov iv u Q I ro ri rv h
 obtain⟨p,xs,k,j,rfl,rfl,hp,hj,q⟩:=h
 cases ro
 obtain⟨t,rfl⟩:=ri
 obtain⟨its,n,r,ho,hz⟩:=I.lst hp
 obtain⟨h1,h2,h3,h4⟩:=EI hj
 have hl:=r.length
 have hn:=lT
 have I':Inv X pins σ (upd H p (.lst (xs.set j v))) {s with heap:=s.heap.update p (Obj.mapSeq (·.setIfInBounds j u))}:=
  I.ZU hp ho (Jr its n j u) (r.set rv j) (by rw[List.length_set];exact hz) s.toks
 by_cases h0:0<=k
 ·have hk:k.toNat=j:=by
   rw[seqIndex_of h0 h4] at h1
   exact Option.some.inj h1
  exact PySem.W.ki_setAt ho h0 (by omega) (by rw[List.size_toArray,<-hl];exact h4) (by rw[hk];exact⟨_,I',q⟩)
 ·have hk:(k+(its.toArray.size:Int)).toNat=j:=by
   rw[seqIndex_neg (by omega) h3] at h1
   rw[List.size_toArray,<-hl]
   exact Option.some.inj h1
  exact PySem.W.ki_setBack ho (by omega) (by rw[List.size_toArray,<-hl];exact h3) (by omega) (by rw[hk];exact⟨_,I',q⟩)
theorem Ng(lo hi:Option Int)(n:Nat):(sliceBounds lo hi none n).1=((HT.cY n 0 lo:Nat):Int)/\(sliceBounds lo hi none n).2.1=((HT.cY n n hi:Nat):Int)/\(sliceBounds lo hi none n).2.2=1:=by
  refine⟨?_,?_,rfl⟩
  · cases lo with
    |none=>simp[sliceBounds,HT.cY]
    | some i =>
      simp only[sliceBounds,HT.cY,Option.getD_none,show(1:Int)>0 by decide,if_true]
      by_cases h:i<0
      · simp only[h,if_true]<;>omega
      · simp only[h,if_false]<;>omega
  · cases hi with
    |none=>simp[sliceBounds,HT.cY]
    | some i =>
      simp only[sliceBounds,HT.cY,Option.getD_none,show(1:Int)>0 by decide,if_true]
      by_cases h:i<0
      · simp only[h,if_true]<;>omega
      · simp only[h,if_false]<;>omega
theorem RP(its:List Value)(lo hi:Option Int):slicePick its.toArray lo hi none=((its.drop (HT.cY its.length 0 lo)).take (HT.cY its.length its.length hi-HT.cY its.length 0 lo)).toArray:=by
 obtain⟨h1,h2,h3⟩:=Ng lo hi its.toArray.size
 unfold slicePick
 rw[h1,h2,h3]
 simp only[sliceRange_one,pick_run,List.size_toArray]<;>rfl
def nJ(K:PySem.W.Frag):V->Option Int->Option Int->Hp->VK->Prop:=fun x lo hi H Q=>∃a xs,x= .ref a/\aQ K H a xs/\∀p,H p=none->Q (.ref p) (upd H p (.lst (jI xs lo hi)))
theorem se:Hr X (nJ X.K):=by
 intro pins s σ H x v vl vu lo hi sl Q I rx hs pl pu h
 obtain⟨a,xs,rfl,hx,q⟩:=h
 cases rx
 obtain⟨its,r,ht,hz⟩:=I.list hx
 have hlen:=r.length
 refine⟨"list",_,slot_list_getitem.lookup,ht.isList.typeIs,?_⟩
 refine wpAny_getItem_list_slice ht.isList hs pl pu .none (by simp) ?_ (by rw[List.size_toArray]<;>omega)
 rw[RP,<-hlen]
 refine⟨.ref s.heap.objs.size,_,I.laid (t':=s.toks) (o:= .lst (jI xs lo hi)) (fun b ob q=>Heap.get?_push_of_some _ q) (Nat.le_refl _) ?_,rfl,q _ (I.hok.fresh (Nat.le_refl _))⟩
 exact⟨Nat.le_trans (SG xs lo hi) hz,_,0,(r.drop (HT.cY xs.length 0 lo)).take (HT.cY xs.length xs.length hi-HT.cY xs.length 0 lo),Heap.get?_push_size _ rfl⟩
def jX:V->Bool
 | .aE=>true
 | .bl _=>true
 | .int _=>true
 | .str _=>true
 |_=>false
def j9:V->V->Bool
 | .aE, .aE=>true
 | .bl a, .bl b=>a==b
 | .bl a, .int b=>(if a then 1 else 0)==b
 | .int a, .bl b=>a==(if b then 1 else 0)
 | .int a, .int b=>a==b
 | .str a, .str b=>a==b
 |_,_=>false
theorem Yt{A:Around}{s:Shared}{y x:V}{u v:Value}(ry:RelV y u)(rx:RelV x v)(fy:jX y=true)(fx:jX x=true):SeqAt.EqAt A s u v (j9 y x):=by
  cases y with
  | aE =>
    cases ry
    cases x with
    |aE=>cases rx;exact SeqAt.EqAt.same _
    |bl b=>cases rx;exact SeqAt.EqAt.none_bool b
    |int b=>obtain⟨t,rfl⟩:=rx;exact SeqAt.EqAt.none_int b t
    |str b=>obtain⟨t,rfl⟩:=rx;exact SeqAt.EqAt.none_str b t
    |_=>exact absurd (show false=true from fx) Bool.false_ne_true
  | bl a =>
    cases ry
    cases x with
    |aE=>cases rx;exact SeqAt.EqAt.bool_none a
    |bl b=>cases rx;exact SeqAt.EqAt.bool_bool a b
    |int b=>obtain⟨t,rfl⟩:=rx;exact SeqAt.EqAt.bool_int a b t
    |str b=>obtain⟨t,rfl⟩:=rx;exact SeqAt.EqAt.bool_str a b t
    |_=>exact absurd (show false=true from fx) Bool.false_ne_true
  | int a =>
    obtain⟨t',rfl⟩:=ry
    cases x with
    |aE=>cases rx;exact SeqAt.EqAt.int_none a t'
    |bl b=>cases rx;exact SeqAt.EqAt.int_bool a t' b
    |int b=>obtain⟨t,rfl⟩:=rx;exact SeqAt.EqAt.int_int a t' b t
    |str b=>obtain⟨t,rfl⟩:=rx;exact SeqAt.EqAt.int_str a t' b t
    |_=>exact absurd (show false=true from fx) Bool.false_ne_true
  | str a =>
    obtain⟨t',rfl⟩:=ry
    cases x with
    |aE=>cases rx;exact SeqAt.EqAt.str_none a t'
    |bl b=>cases rx;exact SeqAt.EqAt.str_bool a t' b
    |int b=>obtain⟨t,rfl⟩:=rx;exact SeqAt.EqAt.str_int a t' b t
    |str b=>obtain⟨t,rfl⟩:=rx;exact SeqAt.EqAt.str_str a t' b t
    |_=>exact absurd (show false=true from fx) Bool.false_ne_true
  |_=>exact absurd (show false=true from fy) Bool.false_ne_true
def gh(x:V)(u:Value):Bool:=match u with
 | .none=>j9 .aE x
 | .bool b=>j9 (.bl b) x
 | .int i _=>j9 (.int i) x
 | .str z _=>j9 (.str z) x
 |_=>false
theorem CL{x y:V}{u:Value}(r:RelV y u)(f:jX y=true):gh x u=j9 y x:=by
 cases y with
 |aE=>cases r;rfl
 |bl b=>cases r;rfl
 |int i=>obtain⟨t,rfl⟩:=r;rfl
 |str z=>obtain⟨t,rfl⟩:=r;rfl
 |_=>exact absurd (show false=true from f) Bool.false_ne_true
theorem pQ{x:V}:∀{xs:List V} {us:List Value},Vals xs us->xs.all jX=true->us.any (gh x)=xs.any fun y=>j9 y x
  |_,_, .nil,_=>rfl
  | y :: xs, u :: us, .cons r t, f => by
    rw[List.all_cons,Bool.and_eq_true] at f
    rw[List.any_cons,List.any_cons,CL r f.1,pQ t f.2]
theorem o7{A:Around}{s:Shared}{x:V}{v:Value}(rx:RelV x v)(fx:jX x=true):∀{xs:List V} {us:List Value},Vals xs us->xs.all jX=true->∀u∈us,SeqAt.EqAt A s u v (gh x u)
  |_,_, .nil,_=>fun u hu=>by cases hu
  | y :: xs, u :: us, .cons r t, f => fun u' hu => by
    rw[List.all_cons,Bool.and_eq_true] at f
    rcases List.mem_cons.mp hu with rfl|hu
    · rw[CL r f.1];exact Yt r rx f.1 fx
    · exact o7 rx fx t f.2 u' hu
def jY(x:V)(xs:List V):Bool:=xs.any fun y=>j9 y x
def mV(K:PySem.W.Frag)(neg:Bool):R2:=fun x y H Q=>∃p xs,y= .ref p/\(aQ K H p xs\/eE K H p xs)/\jX x=true/\xs.all jX=true/\Q (.bl (if neg then !jY x xs else jY x xs)) H
theorem XE:cI X (compareOp .In) (mV X.K false):=by
 intro pins s σ H x y v u Q I rx ry h
 obtain⟨p,xs,rfl,hq,fx,fs,q⟩:=h
 cases ry
 rcases hq with hq|hq
 ·obtain⟨its,r,pl,hz⟩:=I.list hq
  refine SeqAt.in_listAt (gh x) pl.isList (fun w hw=>o7 rx fx r fs w (by simpa using hw)) ⟨.bl _,H,I,rfl,?_⟩
  rw[show its.toArray.any (gh x)=its.any (gh x) by simp,pQ r fs]
  exact q
 ·obtain⟨its,r,pl,hz⟩:=I.tuple hq
  refine SeqAt.in_tupleAt (gh x) pl (fun w hw=>o7 rx fx r fs w (by simpa using hw)) ⟨.bl _,H,I,rfl,?_⟩
  rw[show its.toArray.any (gh x)=its.any (gh x) by simp,pQ r fs]
  exact q
theorem Mv:cI X (compareOp .NotIn) (mV X.K true):=by
 intro pins s σ H x y v u Q I rx ry h
 obtain⟨p,xs,rfl,hq,fx,fs,q⟩:=h
 cases ry
 rcases hq with hq|hq
 ·obtain⟨its,r,pl,hz⟩:=I.list hq
  refine SeqAt.notIn_listAt (gh x) pl.isList (fun w hw=>o7 rx fx r fs w (by simpa using hw)) ⟨.bl _,H,I,rfl,?_⟩
  rw[show its.toArray.any (gh x)=its.any (gh x) by simp,pQ r fs]
  exact q
 ·obtain⟨its,r,pl,hz⟩:=I.tuple hq
  refine SeqAt.notIn_tupleAt (gh x) pl (fun w hw=>o7 rx fx r fs w (by simpa using hw)) ⟨.bl _,H,I,rfl,?_⟩
  rw[show its.toArray.any (gh x)=its.any (gh x) by simp,pQ r fs]
  exact q
theorem Gg:dB X (.builtin "len") (fun xs H Q=>∃p ys,xs=[.ref p]/\(aQ X.K H p ys\/eE X.K H p ys)/\Q (.int ys.length) H):=by
 intro pins s σ H xs us Q I r h
 obtain⟨p,ys,rfl,hq,q⟩:=h
 obtain⟨u,rfl,rx⟩:=vals1 r
 cases rx
 have hn:=lT
 rcases hq with hq|hq
 ·obtain⟨its,r',pl,hz⟩:=I.list hq
  have hlen:=r'.length
  exact Calls.call_len_list pl.isList (by simp only[List.size_toArray]<;>omega) ⟨.int ys.length,H,I.tok _,⟨s.toks+1,by rw[List.size_toArray,hlen]⟩,q⟩
 ·obtain⟨its,r',pl,hz⟩:=I.tuple hq
  have hlen:=r'.length
  exact len_tuple pl (by simp only[List.size_toArray]<;>omega) ⟨.int ys.length,H,I.tok _,⟨s.toks+1,by rw[List.size_toArray,hlen]⟩,q⟩
theorem S8:dB X (.type "list") (fun xs H Q=>∃p ys,xs=[.ref p]/\(aQ X.K H p ys\/eE X.K H p ys)/\∀l,H l=none->Q (.ref l) (upd H l (.lst ys))):=by
 intro pins s σ H xs us Q I r h
 obtain⟨p,ys,rfl,hq,q⟩:=h
 obtain⟨u,rfl,rx⟩:=vals1 r
 cases rx
 have fin:∀(its:List Value),Vals ys its->ys.length<=sizeLine->∀(h':Heap) (c':Nat),(∀b o',s.heap.get? b=some o'->h'.get? b=some o')->
   h'.get? s.heap.objs.size=some {cls:= .type "list",dict:=none,data:= .seq its.toArray c',slots:= #[]}->EP X pins σ Q (.ref s.heap.objs.size) {s with heap:=h'}:=fun its r' hz h' c' kp e=>
  ⟨.ref s.heap.objs.size,_,I.laid (t':=s.toks) kp (Nat.le_refl _) (show bK X.prog X.w _ h' _ (.lst ys) from⟨hz,its,c',r',e⟩),rfl,q _ (I.hok.fresh (Nat.le_refl _))⟩
 rcases hq with hq|hq
 ·obtain⟨its,r',pl,hz⟩:=I.list hq
  have hlen:=r'.length
  obtain⟨o,ho,hc,n,hd⟩:=pl.isList
  exact call_list_seq p (.inl rfl) ho hc hd (fun h' c' kp e=>fin its r' hz h' c' kp e) (by simp only[List.size_toArray]<;>omega)
 ·obtain⟨its,r',pl,hz⟩:=I.tuple hq
  have hlen:=r'.length
  obtain⟨o,ho,hc,n,hd⟩:=pl
  exact call_list_seq p (.inr rfl) ho hc hd (fun h' c' kp e=>fin its r' hz h' c' kp e) (by simp only[List.size_toArray]<;>omega)
def ya(K:PySem.W.Frag)(T:String)(x:V)(H:Hp):Prop:=match x with
 | .str _=>T="str"
 | .int _=>T="int"
 | .ref p => (T = "list" /\ ∃ xs, aQ K H p xs) \/ (T = "tuple" /\ ∃ o, K.lookup p = some o /\ o.cls = .type "tuple" /\ o.dict = none) \/
   (T="dict" /\((∃kvs,H p=some (.dK kvs))\/(∃kvs,H p=some (.dT kvs))\/∃o kvs,H p=some (.fB o (.dK kvs))))\/(T="set" /\∃S n,H p=some (.set S n))
 |_=>False
theorem Fz{pins:List (Addr×Obj)}{σ:St}{H:Hp}{s:Shared}{T:String}{x:V}{v:Value}(I:Inv X pins σ H s)(r:RelV x v)(ty:ya X.K T x H):
    s.TypeIs v T/\∀a,v= .ref a->∃ob,s.heap.get? a=some ob/\ob.dict=none:=by
  cases x with
  | str z =>
    obtain⟨t,rfl⟩:=r
    cases (show T="str" from ty)
    exact⟨typeIs_str s z t,fun _ e=>nomatch e⟩
  | int i =>
    obtain⟨t,rfl⟩:=r
    cases (show T="int" from ty)
    exact⟨typeIs_int s i t,fun _ e=>nomatch e⟩
  | ref p =>
    cases r
    rcases ty with ⟨rfl,xs,hq⟩|⟨rfl,o,hk,hc,hd⟩|⟨rfl,hk⟩|⟨rfl,S,n,hk⟩
    · obtain⟨its,_,pl,_⟩:=I.list hq
      refine⟨pl.isList.typeIs,fun a e=>?_⟩
      cases e
      obtain⟨o,n,e,c,hd,_⟩:=pl
      exact⟨o,e,hd⟩
    · refine⟨⟨o,I.ck p o hk,hc⟩,fun a e=>?_⟩
      cases e
      exact⟨o,I.ck _ o hk,hd⟩
    · have z:∃o,s.heap.get? p=some o/\o.ExactDict:=by
        rcases hk with ⟨kvs,hk⟩|⟨kvs,hk⟩|⟨ob,kvs,hk⟩
        · obtain⟨_,_,_,_,o,_,_,e,ex,_⟩:=I.hok p _ hk
          exact⟨o,e,ex⟩
        · obtain⟨_,_,_,_,o,_,_,e,ex,_⟩:=I.hok p _ hk
          exact⟨o,e,ex⟩
        · obtain⟨_,_,_,_,_,o,_,_,e,ex,_⟩:=I.hok p _ hk
          exact⟨o,e,ex⟩
      obtain⟨o,e,ex⟩:=z
      refine⟨⟨o,e,ex.1⟩,fun a e2=>?_⟩
      cases e2
      exact⟨o,e,ex.2.1⟩
    · obtain⟨o,_,_,_,e,ex,_⟩:=I.hok p _ hk
      refine⟨⟨o,e,ex.1⟩,fun a e2=>?_⟩
      cases e2
      exact⟨o,e,ex.2.1⟩
  |_=>exact False.elim ty
def N7(K:PySem.W.Frag)(T:String)(r:V->List V->Hp->VK->Prop)(to:TE):TE:=fun σ H Q=>to σ H fun x H1=>ya K T x H1/\r x [] H1 Q
def lN(K:PySem.W.Frag)(T:String)(r:V->List V->Hp->VK->Prop)(to:TE)(t:TA):TE:=fun σ H Q=>to σ H fun x H1=>ya K T x H1/\t σ H1 fun xs H2=>r x xs H2 Q
variable{o e:Expr}{es:List Expr}{to:TE}{t:TA}{name:Str}{apos cpos:Pos}{T id:String}{r:V->List V->Hp->VK->Prop}
theorem Cz(pa:PlainAttrs T)(slot:Slot T name id)(hty:typeOf (.builtin id)=pure (.type "method_descriptor"))(hm:oB X id r)(ho:PE X o to)
  (hbase:attributeBase o name X.env (eval o X.env)=eval o X.env:=by rfl) (hline:(apos.endLine==cpos.line)=true:=by rfl):PE X (.Call (.Attribute o name apos) [] [] cpos) (N7 X.K T r to):=by
 intro pins s σ H Q I h
 refine wpAny_Call_method0_late hbase hline (aI (ho pins s σ H _ I h) fun v s1 ⟨x,H1,I1,r1,ty,q1⟩=>?_)
 obtain⟨h1,h2⟩:=Fz I1 r1 ty
 exact⟨T,id,pa,slot,hty,h1,h2,Calls.callWith_builtin rfl (PySem.evalArgs_none (hm pins s1 σ H1 x [] v [] Q I1 r1 .nil q1))⟩
theorem j7(pa:PlainAttrs T)(slot:Slot T name id)(hty:typeOf (.builtin id)=pure (.type "method_descriptor"))(hm:oB X id r)(ho:PE X o to)(ha:PA X (e::es) t)
  (hbase:attributeBase o name X.env (eval o X.env)=eval o X.env:=by rfl)
  (hfew : ((backTo cpos (starEach (e :: es) X.env)).all (fun x => !x.1) && (backToKw cpos (keywordEach [] X.env)).all (fun x => x.1.isSome)
   && decide ((e::es).length+([]:List Keyword).length+(if([]:List Keyword).isEmpty then 0 else 1)<30))=true:=by rfl)
  (hline:(apos.endLine==cpos.line)=true:=by rfl) (hs:starEach (e::es) X.env=(false,eval e X.env)::starEach es X.env:=by rfl) (hplain:(backTo cpos (starEach es X.env)).any (·.1)=false:=by rfl):
  PE X (.Call (.Attribute o name apos) (e::es) [] cpos) (lN X.K T r to t):=by
 intro pins s σ H Q I h
 refine wpAny_Call_method_late hbase hfew hline rfl (aI (ho pins s σ H _ I h) fun v s1 ⟨x,H1,I1,r1,ty,q1⟩=>?_)
 obtain⟨h1,h2⟩:=Fz I1 r1 ty
 refine⟨T,id,pa,slot,hty,h1,h2,?_⟩
 have hA:=ha cpos pins s1 σ H1 _ I1 q1
 rw[hs] at hA⊢
 refine Calls.callWith_builtin (by show(false||(backTo cpos (starEach es X.env)).any (·.1))=false;rw[hplain]<;>rfl) (Calls.evalArgs_plain ?_)
 exact aI hA fun us s2 ⟨vs,H2,I2,r2,q2⟩=>hm pins s2 σ H2 x vs v us Q I2 r1 r2 q2
/-xs.append(e),list.index on a module's tuple .. are oB facts of 06m-/
end
def sj(X:Cx)(id:String)(r:V->List V->Hp->VK->Prop):Prop:=
 ∀(pins:List (Addr×Obj)) (s:Shared) (σ:St) (H:Hp) (x:V) (xs:List V) (v:Value) (us:List Value) (Q:VK),Inv X pins σ H s->RelV x v->Vals xs us->r x xs H Q->
  wpAny (model X.prog X.w) X.A (call (.builtin id) (v::us)) (EP X pins σ Q) X.xe s
theorem Vals.one{x:V}{us:List Value}(h:Vals [x] us):∃u,us=[u]/\RelV x u:=by
 cases h with
 |cons r t=>cases t;exact⟨_,rfl,r⟩
theorem Vals.two{x y:V}{us:List Value}(h:Vals [x,y] us):∃u v,us=[u,v]/\RelV x u/\RelV y v:=by
  cases h with
  | cons r t =>
    obtain⟨v,e,q⟩:=Vals.one t
    exact⟨_,v,by rw[e],r,q⟩
theorem Vals.zero:∀{us:List Value},Vals [] us->us=[]
 |_, .nil=>rfl
theorem Vals.dropLast{xs:List V}{us:List Value}(h:Vals xs us):Vals xs.dropLast us.dropLast:=by
  induction h with
  |nil=>exact .nil
  | cons r t ih =>
    cases t with
    |nil=>exact .nil
    |cons q t'=>exact .cons r ih
theorem Kw{α:Type}(l:List α):l.eraseIdx (l.length-1)=l.dropLast:=by
  induction l with
  |nil=>rfl
  | cons a r ih =>
    cases r with
    |nil=>rfl
    | cons b r =>
      have e:(a::b::r).length-1=((b::r).length-1)+1:=by
        have h1:(a::b::r).length=r.length+2:=rfl
        have h2:(b::r).length=r.length+1:=rfl
        omega
      rw[e,List.eraseIdx_cons_succ,ih]
      all_goals rfl
section
variable{X:Cx}{pins:List (Addr×Obj)}{σ:St}{H:Hp}{s:Shared}{l b:Addr}{xs ys zs:List V}
theorem Inv.uO{its its':List Value}{n:Nat}{f:Array Value->Array Value}{t':Nat}(I:Inv X pins σ H s)(hH:H l=some (.lst xs))
  (e:s.heap.get? l=some {cls:= .type "list",data:= .seq its.toArray n}) (hf:f its.toArray=its'.toArray) (hv:Vals ys its') (hz:ys.length<=sizeLine):
  Inv X pins σ (upd H l (.lst ys)) {s with heap:=s.heap.update l (Obj.mapSeq f),toks:=t'}:=by
 have q:=PySem.IsL.update e f
 rw[hf] at q
 refine I.write (x:=l) (e:=l) (by rw[hH];exact trivial) (.inl rfl) (fun b' u hb hu=>(Heap.get?_update_other s.heap (Obj.mapSeq f) (Ne.symm hb)).trans hu) ⟨_,q⟩ ?_
 exact⟨hz,its',_,hv,q⟩
theorem Inv.Ht{its:List Value}{t':Nat}(I:Inv X pins σ H s)(hv:Vals ys its)(hz:ys.length<=sizeLine):
  Inv X pins σ (upd H s.heap.objs.size (.lst ys)) {s with heap:=s.heap.push {cls:= .type "list",data:= .seq its.toArray},toks:=t'}:=
 I.laid (fun _ _ q=>Heap.get?_push_of_some _ q) (Nat.le_refl _) ⟨hz,its,0,hv,Heap.get?_push_size _ rfl⟩
theorem Inv.fresh(I:Inv X pins σ H s):H s.heap.objs.size=none:=I.hok.fresh (Nat.le_refl _)
theorem Inv.m6(I:Inv X pins σ H s)(hH:H l=some (.lst xs)):xs.length<=sizeLine/\∃(its:List Value) (n:Nat),Vals xs its/\xs.length=its.length/\s.heap.get? l=some {cls:= .type "list",data:= .seq its.toArray n}:=by
 obtain⟨z,its,n,r,e⟩:=I.hok l _ hH
 exact⟨z,its,n,r,r.length,e⟩
theorem K6{n:Nat}(h:n<=sizeLine):Builtin.List.listTooLong n=false:=by
 unfold Builtin.List.listTooLong
 exact decide_eq_false (by omega)
end
section
variable{X:Cx}
def uY:V->List V->Hp->VK->Prop:=fun x vs H Q=>∃l xs y,x= .ref l/\vs=[y]/\H l=some (.lst xs)/\xs.length<sizeLine/\Q .aE (upd H l (.lst (xs++[y])))
theorem mR:sj X "list.append" uY:=by
 intro pins s σ H x vs v us Q I rx rv h
 obtain⟨l,xs,y,rfl,rfl,hH,hz,q⟩:=h
 cases rx
 obtain⟨u,rfl,ru⟩:=rv.one
 obtain⟨z,its,n,r,hl,e⟩:=I.m6 hH
 refine call_meets F.slot_list_append ⟨_,e,rfl⟩ F.entry_list_append (F.args_list_append_2 _ _) (PySem.list_append l its.toArray n u (by rw[List.size_toArray];omega)) ⟨e,?_⟩
 refine⟨.aE,_,I.uO (its':=its++[u]) hH e (by simp) (r.append (.cons ru .nil)) ?_,rfl,q⟩
 rw[List.length_append,List.length_singleton]
 omega
def Yx:V->List V->Hp->VK->Prop:=fun x vs H Q=>∃l b xs zs,x= .ref l/\vs=[.ref b]/\H l=some (.lst xs)/\H b=some (.lst zs)/\xs.length+zs.length<=sizeLine/\Q .aE (upd H l (.lst (xs++zs)))
theorem aaC:sj X "list.extend" Yx:=by
 intro pins s σ H x vs v us Q I rx rv h
 obtain⟨l,b,xs,zs,rfl,rfl,hH,hB,hz,q⟩:=h
 cases rx
 obtain⟨u,rfl,ru⟩:=rv.one
 cases ru
 obtain⟨z,its,n,r,hl,e⟩:=I.m6 hH
 obtain⟨z2,its2,n2,r2,hl2,e2⟩:=I.m6 hB
 have hsz:its.toArray.size+its2.toArray.size<=sizeLine:=by rw[List.size_toArray,List.size_toArray];omega
 have VZ:¬(!its.toArray.isEmpty && Builtin.List.listTooLong (its.toArray.size+its2.toArray.size))=true:=by
  rw[K6 hsz,Bool.and_false]
  exact Bool.false_ne_true
 refine call_meets F.slot_list_extend ⟨_,e,rfl⟩ F.entry_list_extend (F.args_list_extend_2 _ _)
  (AutoSeq1.list_extend_list_list_0 l its.toArray n b its2.toArray n2 VZ (by rw[List.size_toArray];omega) (by omega)) ⟨e,e2,?_⟩
 refine⟨.aE,_,I.uO (its':=its++its2) hH e (by simp) (r.append r2) ?_,rfl,q⟩
 rw[List.length_append]
 omega
def Fv:V->List V->Hp->VK->Prop:=fun x vs H Q=>∃l xs y,x= .ref l/\vs=[]/\H l=some (.lst xs)/\xs[xs.length-1]?=some y/\Q y (upd H l (.lst xs.dropLast))
theorem Ub:sj X "list.pop" Fv:=by
 intro pins s σ H x vs v us Q I rx rv h
 obtain⟨l,xs,y,rfl,rfl,hH,hy,q⟩:=h
 cases rx
 have Bp:=rv.zero
 subst Bp
 obtain⟨z,its,n,r,hl,e⟩:=I.m6 hH
 obtain⟨u,hu,ru⟩:=r.get hy
 have hy':its.toArray[its.toArray.size-1]?=some u:=by
  show its.toArray[its.length-1]?=some u
  rw[<-Array.getElem?_toList,<-hl]
  exact hu
 refine call_meets F.slot_list_pop ⟨_,e,rfl⟩ F.entry_list_pop (F.args_list_pop_1 _) (MeetsSeq.list_pop_last l its.toArray n u hy' (by rw[List.size_toArray];omega)) ⟨e,?_⟩
 refine⟨y,_,I.uO (its':=its.dropLast) hH e ?_ r.dropLast ?_,ru,q⟩
 ·show its.toArray.eraseIdxIfInBounds (its.toArray.size-1)=its.dropLast.toArray
  rw[List.size_toArray,List.eraseIdxIfInBounds_toArray,Kw]
 ·rw[List.length_dropLast]
  omega
def Bq:R2:=fun x y H Q=>∃l b xs zs,x= .ref l/\y= .ref b/\H l=some (.lst xs)/\H b=some (.lst zs)/\xs.length+zs.length<=sizeLine/\∀p,H p=none->Q (.ref p) (upd H p (.lst (xs++zs)))
theorem G9:cI X (binaryOp .Add) Bq:=by
 intro pins s σ H x y v u Q I rx ry h
 obtain⟨l,b,xs,zs,rfl,rfl,hH,hB,hz,q⟩:=h
 cases rx
 cases ry
 obtain⟨z,its,n,r,hl,e⟩:=I.m6 hH
 obtain⟨z2,its2,n2,r2,hl2,e2⟩:=I.m6 hB
 refine PySem.P.add_list e e2 ?_ (by rw[List.size_toArray,List.size_toArray];omega)
 have ea:its.toArray++its2.toArray=(its++its2).toArray:=by simp
 rw[ea]
 exact⟨.ref _,_,I.Ht (t':=s.toks) (r.append r2) (by rw[List.length_append];omega),rfl,q _ I.fresh⟩
end
end L2
namespace Att
open PySem PySem.W PySem.Calls PyProof.Rows
theorem ZS{P:Params}{h:Heap}:∀(ns:List Int) (vs:List Value),WellAll P h vs (ns.map WData.int)->IntsAre vs ns:=by
  intro ns
  induction ns with
  | nil =>
    intro vs w
    rw[List.map_nil] at w
    cases w
    exact .nil
  | cons n ns ih =>
    intro vs w
    rw[List.map_cons] at w
    cases w with
    | cons a b =>
      cases a
      exact .cons _ _ (ih _ b)
theorem Wa{l:OpenLaw}{n:Nat}(hn:l.most=some n){P:Params}{h:Heap}{args:List WData}{vals:List Value}
    (hpre:l.row.toRowW.claim.pre args=true) (hwl:WellAll P h vals args):
    ∃a vs ns,vals=[Value.ref a]/\args=[WData.list (ns.map WData.int)]/\h.get? a=some {cls:= .type "list",data:= .seq vs.toArray}/\IntsAre vs ns/\ns.length<=n:=by
  have hsh:WShape.hasAll [] args [.list .int]=true:=(pre_splitW hpre).1
  have hc:l.pre.holds [] {args:=args}=true:=(pre_splitW hpre).2
  obtain⟨d,r,rfl,h1,h2⟩:=hasAllW_cons hsh
  obtain rfl:=hasAllW_nil h2
  obtain⟨xs,rfl,h3⟩:=hasW_list h1
  obtain⟨ns,rfl⟩:=items_int h3
  have hlen:ns.length<=n:=by
    unfold OpenLaw.pre at hc
    have h4:(WTm.not (.lt (.lit (.int (n:Int))) (.len (.arg 0)))).holds [] {args:=[.list (ns.map .int)]}=true:=by
      have h4:=(holds_andW hc).1
      rw[hn] at h4
      exact h4
    have h5:=condW_of h4 (w_not (w_lt w_lit (w_len_list (w_arg rfl))))
    rw[List.length_map] at h5
    refine Nat.le_of_not_lt fun q=>?_
    have q':(n:Int)<((ns.length:Nat):Int):=by omega
    first
      |(rw[decide_eq_true q'] at h5;exact absurd h5 (by decide))
      |(simp at h5;omega)
  cases hwl with
  | cons w1 w2 =>
    cases w2
    cases w1 with
    |list ho hall=>exact⟨_,_,ns,rfl,rfl,ho,ZS ns _ hall,hlen⟩
theorem Zb(l:OpenLaw)(args:List WData):l.row.toRowW.claim.post args (.bool true) args=true:=
 postW_of (r:=l.row.toRowW) (X:=(true==true))
  (show WShape.has [] (.bool true) .bool=true by first|rfl|decide|simp[WShape.has,WShape.arms,WShape.armsAll])
  (show(WTm.eq .res (.lit (.bool true))).value [] {args:=args,res:=some (.bool true),after:=args}=some (.bool (true==true)) from w_eq_bool (w_res rfl) w_lit) rfl
theorem Mn{l:OpenLaw}{n:Nat}{q:Program}{loose:List Str}{XP:(Str->Option Value)->Heap->Prop}{YP:World->Heap->Prop}{d:DefRec}
  (hn:l.most=some n) (hdf:d.params.defaults=[])
  (call : ∀ (w : World) (s₀ s₁ : Shared) (mg mb : Str -> Option Value) (fa : Addr) (o : Obj) (pm cd doc : Value) (a : Addr) (vs : List Value) (ns : List Int),
   Ground q loose [] XP w s₀ mg mb s₁.heap->YP w s₁.heap->
   s₁.heap.get? fa=some o->o.data= .func (docDef d.name d.params d.body d.scope pm cd doc)->s₁.heap.CodeRec cd d.name->mg d.name=some (.ref fa)->
   s₁.heap.get? a=some {cls:= .type "list",data:= .seq vs.toArray}->IntsAre vs ns->ns.length<=n->s₁.gens= #[]->
   codeAny (model l.prog w) callerA (.call (.ref fa) ⟨[.ref a],[]⟩) (fun r s'=>r= .ok (.ret (.bool true))/\OldK s₁.heap s'.heap/\s'.os=s₁.os/\AllBare s'.gens) s₁):
  WalkO q loose XP YP l.row.toRowW d [] (fun f vs=>PySem.call f vs):=by
 intro w s₀ s₁ mg mb G Y fa o pm cd doc dV kV ho hd hcd hD hmg hg args vals as hpre hlay hrd hwl hlo
 obtain rfl:dV= .none:=Dflts.none hD hdf
 obtain rfl:kV= .none:=Dflts.noKw hD
 obtain⟨a,vs,ns,rfl,rfl,hobj,hints,hlen⟩:=Wa hn hpre hwl
 refine enter_call (codeAny_mono (call w s₀ s₁ mg mb fa o pm cd doc a vs ns G Y ho (fd_plain hd) hcd hmg hobj hints hlen hg) fun r s' hq=>?_)
 obtain⟨rfl,h2,h3,h4⟩:=hq
 exact⟨.inl ⟨.bool true, .bool true,[],rfl,fun _=>rfl, .bool true,Zb l _,fun _=>⟨List.Pairwise.nil,fun _ hm=>(nomatch hm)⟩⟩,h2,h3,h4⟩
section
variable{prog:Program}{w:World}{A:Around}{E:Value->Shared->Prop}{s:Shared}{K:Frag}
def ledger(h:Heap)(L d:Addr):List (Addr×Obj):=(List.range h.objs.size).filterMap fun a=>if a=L\/a=d then none else(h.get? a).map fun o=>(a,o)
end
end Att
namespace L2
open PySem PySem.Spec PyProof.Rows
theorem Fp:∀{vs:List Value} {ns:List Int},IntsAre vs ns->Vals (ns.map V.int) vs
 |_,_, .nil=> .nil
 |_,_, .cons n t h=> .cons ⟨t,rfl⟩ (Fp h)
def uF(H:Hp):Prop:=∀b,H b=none\/∃o xs,H b=some (.fB o (.lst xs))
theorem NC{P:Program}{w:World}{K:PySem.W.Frag}{mg mb:Str->Option Value}{CX:iT}{k:Nat}{fa a:Addr}{fd:FuncData}{x:Str}{sp:Sp}{s₁:Shared}{vs:List Value}{ns:List Int}
    (KX:K.In s₁.heap) (hns:s₁.heap.Ns mainGlobals mg) (hb:s₁.heap.Ns builtinsNs mb) (LB:∀x:Str,x≠"__name__" ->mb x=bootBuiltins x) (hlim:s₁.heap.NoLimit) (hg:s₁.gens= #[])
    (ha:s₁.heap.get? a=some {cls:= .type "list",data:= .seq vs.toArray}) (hi:IntsAre vs ns) (hl:ns.length<=sizeLine) (hr:cP k callerA)
    (F:∀base:Heap,K.In base->base.Ns mainGlobals mg->aY P w K mg base CX k fa fd [x] sp) (hbind:∀(s:Shared) (u:Value),BindsTo s fd ⟨[u],[]⟩ [(x,u)])
    (jV:∀H:Hp,uF H->aQ K H a (ns.map V.int)->sp [.ref a] H (fun v _=>v= .bl true) fun _ _ _=>False)
    (Bf:∀H e s',CX [] H s₁ (fun _ _ _=>False) e s'->False):
    codeAny (model P w) callerA (.call (.ref fa) ⟨[.ref a],[]⟩) (fun r s'=>r= .ok (.ret (.bool true))/\OldK s₁.heap s'.heap/\s'.os=s₁.os/\AllBare s'.gens) s₁:=by
  have rv:=Fp hi
  have UG:=hi.length
  have core:∀H:Hp,uF H->aQ K H a (ns.map V.int)->cK P w H s₁.heap->(∀b,H b≠none->b=a)->(H a≠none->K.lookup a=none)->
      codeAny (model P w) callerA (.call (.ref fa) ⟨[.ref a],[]⟩) (fun r s'=>r= .ok (.ret (.bool true))/\OldK s₁.heap s'.heap/\s'.os=s₁.os/\AllBare s'.gens) s₁:=by
    intro H hO hS hok hA hK
    have CS:∀{b:Addr} {o:Obj},s₁.heap.get? b=some o->H b=none->(jL s₁.heap H).get? b=some o:=fun e n=>VN e n
    have oM:∀{b:Addr} {o:Obj} {es:Array DictEntry} {ep:Nat},s₁.heap.get? b=some o->o.data= .dict es ep->H b=none:=fun{b o es ep} e d=>by
      cases q:H b with
      |none=>rfl
      | some u =>
        have e':b=a:=hA b (by rw[q];simp)
        subst e'
        rw[ha] at e;cases e
        have d':Data.seq vs.toArray _=Data.dict es ep:=d
        cases d'
    have qy:∀{b:Addr} {m:Str->Option Value},s₁.heap.Ns b m->(jL s₁.heap H).Ns b m:=fun{b m} ⟨o,es,ep,e,d,r⟩=>⟨o,es,ep,CS e (oM e d),d,r⟩
    have GQ:K.In (jL s₁.heap H):=fun b o e=>CS (KX b o e) (by
      cases q:H b with
      |none=>rfl
      | some u =>
        have e':b=a:=hA b (by rw[q];simp)
        subst e'
        rw[hK (by rw[q];simp)] at e;cases e)
    have hM:Mod K mg (jL s₁.heap H):=⟨GQ,qy hns,⟨mb,qy hb,LB⟩,let ⟨mc,h1,h2⟩:=hlim;⟨mc,qy h1,h2⟩⟩
    have e0:kG P w K mg (jL s₁.heap H) callerA [] s₁ H:=⟨rfl,hM,fun b o e=>Jt e,Nat.le_of_eq (OY _ _),trivial,fun b hb=>absurd (show b∈([]:List Addr) from hb) (by simp),hok, .of_eq hg⟩
    refine codeAny_mono ((F _ GQ (qy hns)).run callerA [] s₁ H ⟨[.ref a],[]⟩ [.ref a] [.ref a] _ _ hr e0 (hbind s₁ (.ref a)) (.cons rfl .nil) (jV H hO hS)) fun r s' h=>?_
    cases r with
    |error e=>exact(Bf H e s' h).elim
    | ok fl =>
      cases fl with
      |next=>exact False.elim h
      |brk=>exact False.elim h
      |cont=>exact False.elim h
      | ret u =>
        obtain⟨v,H',os,bare,un,JI,r',q⟩:=h
        have q':v= .bl true:=q
        subst q'
        obtain rfl:u=Value.bool true:=r'
        refine⟨rfl,OldK.of_keep fun b o e=>?_,os,bare⟩
        cases q:H b with
        |none=>exact un.keep b o e q (by intro z;exact absurd (show b∈([]:List Addr) from z) (by simp)) (by simp)
        | some u =>
          rcases hO b with z|⟨ob,xs,z⟩
          · rw[q] at z;cases z
          · have z2:=un.ju b ob _ z
            obtain⟨e1,_⟩:=hok b _ z
            obtain⟨e2,_⟩:=JI b _ z2
            rw[e] at e1;cases e1
            exact e2
  cases hk:K.lookup a with
  | some o =>
    have e:=KX a o hk
    rw[ha] at e
    cases e
    refine core (fun _=>none) (fun _=> .inl rfl) (.inr ⟨_,vs.toArray,_,hk,rfl,rfl,rfl,by rw[List.size_toArray,UG];exact hl,by simpa using rv⟩) (fun b u z=>by have z':(none:Option HO)=some u:=z;cases z') (fun b z=>absurd rfl z) fun z=>absurd rfl z
  | none =>
    refine core (fun b=>if b=a then some (.fB {cls:= .type "list",data:= .seq vs.toArray} (.lst (ns.map V.int))) else none) (fun b=>?_) (.inl (.inr ⟨{cls:= .type "list",data:= .seq vs.toArray},if_pos rfl⟩)) (fun b u z=>?_) (fun b z=>?_) fun _=>hk
    · by_cases hb:b=a
      · exact .inr ⟨_,_,if_pos hb⟩
      · exact .inl (if_neg hb)
    · by_cases hb:b=a
      · have z':=(if_pos hb).symm.trans z
        cases z'
        subst hb
        exact⟨ha,by rw[List.length_map];exact hl,vs,_,rv,ha⟩
      · have z':=(if_neg hb).symm.trans z
        cases z'
    · by_cases hb:b=a
      · exact hb
      · exact absurd (if_neg hb) z
theorem XZ{l:PySem.W.OpenLaw}{n k:Nat}{q:Program}{loose:List Str}{XP:(Str->Option Value)->Heap->Prop}{YP:World->Heap->Prop}{d:DefRec}{K:Params->PySem.W.Frag}{CX:World->iT}{sp:World->Sp}{x:Str}
  (hn:l.most=some n) (hn2:n<=sizeLine) (hdf:d.params.defaults=[]) (hr:cP k callerA)
  (hY:∀(w:World) (h:Heap),YP w h->(K w.params).In h)
  (F : ∀ (w : World) (mg : Str -> Option Value) (fa : Addr) (h : Heap), (K w.params).In h -> h.Ns mainGlobals mg -> mg d.name = some (.ref fa) ->
   ∃fd:FuncData,(∀(s:Shared) (u:Value),BindsTo s fd ⟨[u],[]⟩ [(x,u)])/\
    ∀base:Heap,(K w.params).In base->base.Ns mainGlobals mg->aY l.prog w (K w.params) mg base (CX w) k fa fd [x] (sp w))
  (jV:∀(w:World) (H:Hp) (a:Addr) (ns:List Int),ns.length<=n->uF H->aQ (K w.params) H a (ns.map V.int)->sp w [.ref a] H (fun v _=>v= .bl true) fun _ _ _=>False)
  (Bf:∀(w:World) (H:Hp) (s:Shared) (e:Value) (s':Shared),CX w [] H s (fun _ _ _=>False) e s'->False):
  PySem.W.WalkO q loose XP YP l.row.toRowW d [] (fun f vs=>PySem.call f vs):=by
 refine Att.Mn hn hdf fun w s₀ s₁ mg mb fa o pm cd doc a vs ns G Y ho hd hcd hmg hobj hints hlen hg=>?_
 have KX:=hY w _ Y
 obtain⟨fd,hb,hF⟩:=F w mg fa _ KX G.T.g hmg
 exact NC KX G.T.g G.T.b G.T.builtins G.T.nolimit hg hobj hints (Nat.le_trans hlen hn2) hr hF hb (fun H hO hS=>jV w H a ns hlen hO hS) fun H e s'=>Bf w H s₁ e s'
end L2
/-THE LAST THEOREM (shape;LID,My.*are yours):
   My.Adr:a structure of the addresses that your layer names (classes,functions);My.Txt K t:a structure (Prop) of the equations over K;
   My.txt_mk:{K} {implicit addresses ..} (e1:nsIn K mainGlobals "law"=some (some (.ref f))) (e2:K.lookup f=some ⟨oc,od, .func (fnOf "law" "law" params body scope dV kV doc pm an cdv ct),sl⟩) (e3:codeIn K cdv "law"=true) .. :∃t,My.Txt K t
set_option maxRecDepth 100000 in
set_option maxHeartbeats 0 in
(the tactic k_is has no namespace:write k_is)-/
namespace L2
open PySem PySem.Spec PyProof.Rows
def inClass(s:Stmt)(j:Nat):Stmt:=match s with
 | .ClassDef _ _ _ body _ _ _ _ _ _ _=>body.getD j (.Pass ⟨0,0,0,0⟩)
 |_=> .Pass ⟨0,0,0,0⟩
def bH(s:Stmt):Arguments:=match s with
 | .FunctionDef _ a _ _ _ _ _ _ _ _=>a
 |_=>{posonlyargs:=[],args:=[],vararg:=none,kwonlyargs:=[],kw_defaults:=[],kwarg:=none,defaults:=[]}
def bE(s:Stmt):List Stmt:=match s with
 | .FunctionDef _ _ b _ _ _ _ _ _ _=>b
 |_=>[]
def az(s:Stmt):Scope:=match s with
 | .FunctionDef _ _ _ _ _ _ sc _ _ _=>sc
 |_=>{kind:= .function,names:=[],isGenerator:=false,isCoroutine:=false}
abbrev bw:iT:=fun _ _ _ _ _ _=>False
abbrev E0:XK:=fun _ _ _=>False
theorem ue{X:Cx}:Passes bw X E0:=fun _ _ _ _ _ _ _ h=>h.elim
structure bC(K:PySem.W.Frag)(x qual:Str)(st:Stmt)(f:Addr)(fd:FuncData):Prop where
 ex:∃(oc:Value) (od:Option Addr) (kV doc pm:Value) (an:Option Addr) (cdv ct:Value) (osl:Array (Option Value)),
  fd=PySem.W.fnOf x qual (bH st) (bE st) (az st) .none kV doc pm an cdv ct/\K.lookup f=some ⟨oc,od, .func fd,osl⟩/\PySem.W.codeIn K cdv qual=true
 kp:PySem.W.keepIn K (.ref f)=true
section
variable{P:Program}{w:World}{K:PySem.W.Frag}{mg:Str->Option Value}{base:Heap}
theorem bC.ok{x qual:Str}{st:Stmt}{f:Addr}{fd:FuncData}{N ps:List Str}{k:Nat}{sp:Sp}(F:bC K x qual st f fd)(S:bM N ps (az st))(len:∀vs H Q E,sp vs H Q E->vs.length=ps.length)
  (hbody : ∀ (cdv : Value) (A : Around) (outer : List Env) (s : Shared) (H : Hp) (vs : List V) (Q : VK) (E : XK), cP k (A.deeper (envOfC qual (az st) s.heap.objs.size f cdv)) -> sp vs H Q E ->
   ∃t,gR (mG bw P w K mg base N qual (az st) f cdv A outer s H E).t6 (bE st) t/\t {nx:=fun _ H'=>Q .aE H',rt:=Q} (start N vs) H):aY P w K mg base bw (k+1) f fd ps sp:=by
 obtain⟨oc,od,kV,doc,pm,an,cdv,ct,osl,rfl,lk,hcd⟩:=F.ex
 refine Tj lk hcd S len fun A outer s H vs Q E hr jV=>?_
 obtain⟨t,h,q⟩:=hbody cdv A outer s H vs Q E hr jV
 exact⟨t,h.t6,q⟩
theorem bC.binds{x qual:Str}{st:Stmt}{f:Addr}{fd:FuncData}{ps:List Str}(F:bC K x qual st f fd)
  (h:∀(kV doc pm:Value) (an:Option Addr) (cdv ct:Value) (us:List Value),us.length=ps.length->bindArgs (PySem.W.fnOf x qual (bH st) (bE st) (az st) .none kV doc pm an cdv ct) ⟨us,[]⟩=pure (ps.zip us)):Binds K fd ps []:=by
 obtain⟨oc,od,kV,doc,pm,an,cdv,ct,osl,rfl,lk,hcd⟩:=F.ex
 exact .all (h kV doc pm an cdv ct)
theorem bP{x qual:Str}{st:Stmt}{f:Addr}{oc:Value}{od an:Option Addr}{osl:Array (Option Value)}{kV doc pm cdv ct:Value}(l:K.lookup f=some ⟨oc,od, .func (PySem.W.fnOf x qual (bH st) (bE st) (az st) .none kV doc pm an cdv ct),osl⟩)
  (c:PySem.W.codeIn K cdv qual=true) (k:PySem.W.keepIn K (.ref f)=true):bC K x qual st f (PySem.W.fnOf x qual (bH st) (bE st) (az st) .none kV doc pm an cdv ct):=⟨⟨oc,od,kV,doc,pm,an,cdv,ct,osl,rfl,l,c⟩,k⟩
end
theorem HN{n:Nat}(h:n<=1000):n<sizeLine:=Nat.lt_of_le_of_lt h (by decide)
section
variable{X:Cx}
theorem pv(i:Nat){x:Str}{pos:Pos}(hN:X.N[i]?=some x:=by rfl)(hv:zK X.env.scope x:=by first|exact Or.inl rfl|exact Or.inr (Or.inl rfl)|exact Or.inr (Or.inr rfl))(hd:(x==("__debug__":Str))=false:=by decide)
  (hcd:(x==("__classdict__":Str))=false:=by decide):PE X (.Name x pos) (bq i):=LQ hN hv hd hcd
end
theorem Iq{A B:Prop}(h:B):if false=true then A else B:=by
 rw[if_neg Bool.false_ne_true]
 exact h
theorem rQ{A B:Prop}(h:A):if true=true then A else B:=by
 rw[if_pos rfl]
 exact h
theorem nW{c A B:Prop}[Decidable c](h1:c->A)(h2:¬c->B):if c then A else B:=by
 by_cases h:c
 ·rw[if_pos h]
  exact h1 h
 ·rw[if_neg h]
  exact h2 h
def bx(H H':Hp):Prop:=∀b o,H b=some o->H' b=some o
theorem bx.refl(H:Hp):bx H H:=fun _ _ h=>h
theorem bx.trans{H H1 H2:Hp}(a:bx H H1)(b:bx H1 H2):bx H H2:=fun c o h=>b c o (a c o h)
theorem bx.free{H H':Hp}(e:bx H H'){l:Addr}(h:H' l=Option.none):H l=Option.none:=by
  cases q:H l with
  |none=>rfl
  | some o =>
    rw[e l o q] at h
    cases h
theorem bx.seq{K:PySem.W.Frag}{H H':Hp}{a:Addr}{xs:List V}(e:bx H H')(h:aQ K H a xs):aQ K H' a xs:=by
 rcases h with (h|⟨o,h⟩)|h
 ·exact .inl (.inl (e _ _ h))
 ·exact .inl (.inr ⟨o,e _ _ h⟩)
 ·exact .inr h
end L2
set_option maxHeartbeats 1000000
namespace L2
open PySem PySem.Spec PyProof.Rows
def gJ(cells:List (Str×Addr)):List (Str×NameKind)->List (Str×Addr)->List (Str×Addr)
 |[],acc=>acc
 |(n,k)::r,acc=>gJ cells r (if k==NameKind.free then(match cells.lookup n with|some a=>(n,a)::acc|none=>acc) else acc)
theorem yY{env:Env}{f:Str×NameKind->List (Str×Addr)->Sem (ForInStep (List (Str×Addr)))}
    (hf:∀x acc,f x acc=if(x.2==NameKind.free)=true then(do let a<-cellOf env x.1;pure (ForInStep.yield ((x.1,a)::acc))) else pure (ForInStep.yield acc)):
    ∀(l:List (Str×NameKind)) (acc:List (Str×Addr)),(∀x∈l,x.2= .free->∃a,env.cells.lookup x.1=some a)->(forIn l acc f:Sem (List (Str×Addr)))=pure (gJ env.cells l acc)
  |[],acc,_=>by rw[List.forIn_nil];rfl
  | (n, k) :: r, acc, h => by
    have hr:=fun x hx=>h x (List.mem_cons_of_mem _ hx)
    rw[List.forIn_cons,hf]
    by_cases hk:(k==NameKind.free)=true
    · have hk':k=NameKind.free:=by simpa using hk
      obtain⟨a,ha⟩:=h (n,k) List.mem_cons_self hk'
      have hc:cellOf env n=pure a:=by unfold cellOf;rw[ha]
      rw[if_pos hk,hc]
      show(forIn r ((n,a)::acc) f:Sem (List (Str×Addr)))=pure (gJ env.cells r _)
      rw[yY hf r _ hr,if_pos hk,ha]
    · rw[if_neg hk]
      show(forIn r acc f:Sem (List (Str×Addr)))=pure (gJ env.cells r _)
      rw[yY hf r _ hr,if_neg hk]
theorem Zw{scope:Scope}{env:Env}(h:∀x∈scope.names,x.2= .free->∃a,env.cells.lookup x.1=some a):closureFor scope env=pure (gJ env.cells scope.names []):=by
 simp only[closureFor]
 rw[yY (env:=env) (fun⟨n,k⟩ acc=>by dsimp only) scope.names [] h]
 rfl
theorem AE{cells:List (Str×Addr)}:∀{l:List (Str×NameKind)} {acc:List (Str×Addr)} {x:Str} {c:Addr},(∀y d,acc.lookup y=some d->cells.lookup y=some d)->(gJ cells l acc).lookup x=some c->cells.lookup x=some c
  |[],_,_,_,ha,h=>ha _ _ h
  | (n, k) :: r, acc, x, c, ha, h => by
    refine AE (l:=r) ?_ h
    intro y d hd
    by_cases hk:(k==NameKind.free)=true
    · rw[if_pos hk] at hd
      cases q:cells.lookup n with
      |none=>rw[q] at hd;exact ha _ _ hd
      | some a =>
        rw[q] at hd
        by_cases hy:(y==n)=true
        · have hy':y=n:=by simpa using hy
          subst hy'
          simp[List.lookup_cons] at hd
          rw[q,hd]
        · have hy':(y==n)=false:=by simpa using hy
          simp only[List.lookup_cons,hy'] at hd
          exact ha _ _ hd
    · rw[if_neg hk] at hd;exact ha _ _ hd
theorem Cd{cells:List (Str×Addr)}:∀{l:List (Str×NameKind)} {acc:List (Str×Addr)} {x:Str},(acc.lookup x).isSome=true->((gJ cells l acc).lookup x).isSome=true
  |[],_,_,h=>h
  | (n, k) :: r, acc, x, h => by
    refine Cd (l:=r) ?_
    by_cases hk:(k==NameKind.free)=true
    · rw[if_pos hk]
      cases q:cells.lookup n with
      |none=>exact h
      | some a =>
        by_cases hy:(x==n)=true
        · simp[List.lookup_cons,hy]
        · have hy':(x==n)=false:=by simpa using hy
          simp only[List.lookup_cons,hy']
          exact h
    · rw[if_neg hk];exact h
theorem Ed{cells:List (Str×Addr)}:∀{l:List (Str×NameKind)} {acc:List (Str×Addr)} {x:Str} {a:Addr},(x,NameKind.free)∈l->cells.lookup x=some a->((gJ cells l acc).lookup x).isSome=true
  |[],_,_,_,h,_=>nomatch h
  | (n, k) :: r, acc, x, a, h, hc => by
    rcases List.mem_cons.mp h with e|h
    · obtain⟨rfl,rfl⟩:=Prod.mk.inj e
      refine Cd (l:=r) ?_
      rw[if_pos (by decide),hc]
      simp[List.lookup_cons]
    · exact Ed (l:=r) h hc
theorem FY{cells:List (Str×Addr)}{l:List (Str×NameKind)}{x:Str}{a:Addr}(h:(x,NameKind.free)∈l)(hc:cells.lookup x=some a):(gJ cells l []).lookup x=some a:=by
 obtain⟨c,e⟩:=Option.isSome_iff_exists.mp (Ed (acc:=[]) h hc)
 have:=AE (fun y d (q:([]:List (Str×Addr)).lookup y=some d)=>by simp at q) e
 rw[hc] at this;cases this
 exact e
theorem wH{env:Env}:∀{l:List (Str×NameKind)} {x:Str} {k:NameKind},(∀y∈l,y.2≠ .cell)->
    (l.map fun(n,k)=>if(k==NameKind.free && env.scope.kind== .function && env.kindOf n==some .cell) then(n,NameKind.cell) else(n,k)).lookup x=some k->k= .cell\/k= .free->l.lookup x=some .free
  |[],_,_,_,h,_=>by simp at h
  | (n, q) :: r, x, k, hc, h, hk => by
    have hr:=fun y hy=>hc y (List.mem_cons_of_mem _ hy)
    have ih:=wH (env:=env) (l:=r) (x:=x) (k:=k) hr
    rw[List.map_cons] at h
    dsimp only at h
    by_cases hx:(x==n)=true
    · simp only[List.lookup_cons,hx]
      by_cases hq:(q==NameKind.free && env.scope.kind== .function && env.kindOf n==some .cell)=true
      · have:q= .free:=by
          simp only[Bool.and_eq_true] at hq
          simpa using hq.1.1
        rw[this]
      · rw[if_neg hq] at h
        simp only[List.lookup_cons,hx] at h
        have Dt:q=k:=Option.some.inj h
        rcases hk with e|e
        · exact absurd (Dt.trans e) (hc (n,q) List.mem_cons_self)
        · rw[Dt,e]
    · have hx':(x==n)=false:=by simpa using hx
      simp only[List.lookup_cons,hx']
      refine ih ?_ hk
      by_cases hq:(q==NameKind.free && env.scope.kind== .function && env.kindOf n==some .cell)=true
      · rw[if_pos hq] at h
        simp only[List.lookup_cons,hx'] at h
        exact h
      · rw[if_neg hq] at h
        simp only[List.lookup_cons,hx'] at h
        exact h
theorem DZ{env:Env}:∀{l:List (Str×NameKind)} {x:Str},l.lookup x=some .free->
    (l.map fun(n,k)=>if(k==NameKind.free && env.scope.kind== .function && env.kindOf n==some .cell) then(n,NameKind.cell) else(n,k)).lookup x=some .cell\/
    (l.map fun(n,k)=>if(k==NameKind.free && env.scope.kind== .function && env.kindOf n==some .cell) then(n,NameKind.cell) else(n,k)).lookup x=some .free
  |[],_,h=>by simp at h
  | (n, q) :: r, x, h => by
    have ih:=DZ (env:=env) (l:=r) (x:=x)
    rw[List.map_cons]
    dsimp only
    by_cases hx:(x==n)=true
    · simp only[List.lookup_cons,hx] at h
      by_cases hq:(q==NameKind.free && env.scope.kind== .function && env.kindOf n==some .cell)=true
      · rw[if_pos hq]
        left
        simp only[List.lookup_cons,hx]
      · rw[if_neg hq]
        right
        simp only[List.lookup_cons,hx]
        exact h
    · have hx':(x==n)=false:=by simpa using hx
      simp only[List.lookup_cons,hx'] at h
      have:=ih h
      by_cases hq:(q==NameKind.free && env.scope.kind== .function && env.kindOf n==some .cell)=true
      · rw[if_pos hq]
        simp only[List.lookup_cons,hx']
        exact this
      · rw[if_neg hq]
        simp only[List.lookup_cons,hx']
        exact this
def cy(sx:Scope)(NX:List Str)(scope:Scope)(N:List Str)(mp:List (Option Nat)):Bool:=
 (scope.kind== .function) && scope.names.all (fun y=>y.2 != .cell) && scope.names.all (fun y=>y.2 != .local||scope.names.lookup y.1==some .local) &&
 scope.names.all (fun y=>y.2 != .free||sx.names.lookup y.1==some .cell||sx.names.lookup y.1==some .free) &&(mp.length==N.length) &&
 ((N.zip mp).all fun p=>match p.2 with|none=>true|some j=>NX[j]?==some p.1 && scope.names.lookup p.1==some .free)
structure bQ(sx:Scope)(NX:List Str)(scope:Scope)(N:List Str)(mp:List (Option Nat)):Prop where
 kind:scope.kind= .function
 cell:∀y∈scope.names,y.2≠ .cell
 names:∀y∈scope.names,y.2= .local->scope.names.lookup y.1=some .local
 free:∀y∈scope.names,y.2= .free->sx.names.lookup y.1=some .cell\/sx.names.lookup y.1=some .free
 len:mp.length=N.length
 look:∀(i j:Nat) (x:Str),mp[i]?=some (some j)->N[i]?=some x->NX[j]?=some x/\scope.names.lookup x=some .free
theorem bQ.of{sx:Scope}{NX:List Str}{scope:Scope}{N:List Str}{mp:List (Option Nat)}(h:cy sx NX scope N mp=true):bQ sx NX scope N mp:=by
 unfold cy at h
 simp only[Bool.and_eq_true,List.all_eq_true] at h
 obtain⟨⟨⟨⟨⟨h1,h2⟩,h3⟩,h4⟩,h5⟩,h6⟩:=h
 refine⟨by simpa using h1,fun y hy=>by simpa using h2 y hy,fun y hy e=>?_,fun y hy e=>?_,by simpa using h5,fun i j x e1 e2=>?_⟩
 ·have:=h3 y hy
  simpa[e] using this
 ·have:=h4 y hy
  simpa[e] using this
 ·have hm:(x,some j)∈N.zip mp:=by
   have:(N.zip mp)[i]?=some (x,some j):=by
    rw[List.getElem?_zip_eq_some];exact⟨e2,e1⟩
   exact List.mem_of_getElem? this
  have:=h6 _ hm
  simpa using this
def eH(mp:List (Option Nat))(σ:St):St:=mp.map fun o=>match o with|none=>none|some j=>match σ[j]? with|some v=>v|none=>none
def gG(X:Cx)(scope:Scope)(C:Addr)(N:List Str)(s₀:Shared)(H₀:Hp)(fp:List Addr):Cx:=
 {X with N:=N,s₀:=s₀,H₀:=H₀,env:=compEnvC scope (gJ X.env.cells scope.names []) C X.env,outer:=X.stack,ex:=fp,fn:=fun _=>false,pn:=[],xe:=fun _ _=>False}
def oZ(X:Cx)(ifs:List Expr)(t:TT):Prop:=
 ∀(pins:List (Addr×Obj)) (s:Shared) (σ:St) (H:Hp) (Q:Bool->Hp->Prop),Inv X pins σ H s->t σ H Q->
  wpAny (model X.prog X.w) X.A (forIn ifs true fun c r=>if r=true then do let ok<-isTrue c X.env (eval c X.env);pure (ForInStep.yield ok) else pure (ForInStep.yield r)) (TP X pins σ Q) X.xe s
def kX:TT:=fun _ H Q=>Q true H
theorem eG{X:Cx}:oZ X [] kX:=fun pins s σ H Q I h=>wpAny_tests_nil ⟨H,I,h⟩
theorem g6{X:Cx}{c:Expr}{t:TT}(h:PT X c t):oZ X [c] t:=fun pins s σ H Q I q=>wpAny_tests_one (h pins s σ H Q I q)
def nU(J:It)(g:TG)(tc:TT)(te:TE)(acc:Addr)(Qe:Hp->Prop)(σ:St)(H:Hp):Prop:=∃W:Nat->Nat->St->Hp->Prop,(∃m,W 0 m σ H)/\∀i m σ H,W i m σ H->
 (J.stop i H /\ Qe H) \/ (J.go i H /\ ∃ Nx : St -> Hp -> Prop, (∀ σ' H', Nx σ' H' -> ∃ m', m' < m /\ W (i + 1) m' σ' H') /\ ∀ x H', J.ki i H x H' -> g x σ H' fun σ2 H2 => tc σ2 H2 fun b H3 =>
  if b=true then te σ2 H3 fun v H4=>∃ys,H4 acc=some (.lst ys)/\ys.length<sizeLine/\Nx σ2 (upd H4 acc (.lst (ys++[v]))) else Nx σ2 H3)
def jE(wi:TI)(g:TG)(tc:TT)(te:TE)(mp:List (Option Nat)):TE:=fun σ H Q=>wi σ H fun J H1=>∀acc,H1 acc=none->nU J g tc te acc (fun H'=>Q (.ref acc) H') (eH mp σ) (upd H1 acc (.lst []))
section
variable{prog:Program}{w:World}{A:Around}{R:Result->Shared->Prop}{s:Shared}
theorem Ma{elt target iter:Expr}{ifs:List Expr}{scope:Scope}{pos:Pos}{it acc:Value}{env:Env}(I:Nat->Shared->Prop)
    (turn:∀n s,I n s->wpAny (model prog w) A (pyNext it) (fun r s₁=>match r with
      |none=>R (.ok .next) s₁
      |some v=>wpAny (model prog w) A (letOwnedTupleGo target it v) (fun _ s₀=>wpAny (model prog w) A (assign target env v) (fun _ s₂=>
          wpAny (model prog w) A (forIn ifs true fun c r=>if r=true then do let ok<-isTrue c env (eval c env);pure (ForInStep.yield ok) else pure (ForInStep.yield r)) (fun ok s₃=>
            if ok=true then wpAny (model prog w) A (eval elt env) (fun x s₄=>
              wpAny (model prog w) A (call (.builtin "list.append") [acc,x]) (fun _ s₅=>∃m,m<n/\I m s₅) (fun _ _=>False) s₄) (fun _ _=>False) s₃
            else∃m,m<n/\I m s₃) (fun _ _=>False) s₂) (fun _ _=>False) s₀) (fun _ _=>False) s₁) (fun _ _=>False) s)
    (n:Nat) (h:I n s):
    codeAny (model prog w) A (.compLoop (.ListComp elt [⟨target,iter,ifs,0⟩] scope pos) 0 it acc env) R s:=by
  refine codeAny_loop rfl I (fun n s hI=>?_) n h
  show wpAny _ A ((compTurn (.ListComp elt [⟨target,iter,ifs,0⟩] scope pos) 0 it acc env).onRaise (fun x=>do noteFrame x env;theTreesLotGoes x)) _ _ s
  refine wpAny_noted ?_
  rw[compTurn_list]
  refine wpAny_bind (wpAny_standAt (wpAny_bind (wpAny_mono (turn n s hI) (fun r s₁ h₁=>?_) fun _ _ h'=>h'.elim)))
  cases r with
  |none=>exact wpAny_pure h₁
  | some v =>
    refine wpAny_bind (wpAny_mono h₁ (fun _ s₀ h₀=>?_) fun _ _ h'=>h'.elim)
    refine wpAny_bind (wpAny_mono h₀ (fun _ s₂ h₂=>wpAny_bind (wpAny_mono h₂ (fun ok s₃ h₃=>?_) fun _ _ h'=>h'.elim)) fun _ _ h'=>h'.elim)
    cases ok with
    |false=>exact wpAny_pure ⟨rfl,h₃⟩
    | true =>
      exact wpAny_bind (wpAny_bind (wpAny_mono h₃ (fun x s₄ h₄=>wpAny_bind (wpAny_mono h₄ (fun _ s₅ h₅=>wpAny_pure (wpAny_pure ⟨rfl,h₅⟩)) fun _ _ h'=>h'.elim)) fun _ _ h'=>h'.elim))
end
section
variable{X:Cx}
theorem Ff{elt iter tg:Expr}{ifs:List Expr}{scope:Scope}{pos pos':Pos}{N:List Str}{mp:List (Option Nat)}{wi:TI}{g:TG}{tc:TT}{te:TE}{use:Option (Value->Sem Unit)}
    {pins:List (Addr×Obj)} {s:Shared} {σ:St} {H:Hp} {Q:VK} {QQ:Value->Shared->Prop}
    (ok:bQ X.env.scope X.N scope N mp) (hc:X.calm=true) (hi:PI X tg iter wi)
    (hb:∀C s₀ H₀ fp,PG (gG X scope C N s₀ H₀ fp) tg g/\oZ (gG X scope C N s₀ H₀ fp) ifs tc/\PE (gG X scope C N s₀ H₀ fp) elt te)
    (hs:∀x,foldedSetIterable iter X.env x=pure x) (I:Inv X pins σ H s) (h:jE wi g tc te mp σ H Q)
    (fin:∀acc C H' s' m,Inv X pins σ H' s'->gu X pins H' C->s'.heap.Ns C m->Q (.ref acc) H'->compPost (model X.prog X.w) X.A X.xe use QQ (.ref acc) C (.ok .next) s'):
    wpAny (model X.prog X.w) X.A (comprehension (.ListComp elt [⟨tg,iter,ifs,0⟩] scope pos) scope X.env pos' (newList []) false (eval iter X.env) use) QQ X.xe s:=by
  have hfree:∀x∈scope.names,x.2= .free->∃a,X.env.cells.lookup x.1=some a:=fun x hx e=>I.ok.has x.1 (ok.free x hx e)
  refine wpAny_comprehension_free (use:=use) rfl hs (Zw hfree) ok.kind ok.names (aI (hi pins s σ H _ I h) fun v s1 h1=>aI h1 fun itv s2 h2=>?_)
  obtain⟨it,fp,tn,J,H2,e,I2,T,st2,f2,hW⟩:=h2
  subst e
  refine wpAny_newObj_type (wpAny_newFunctionEnv ok.cell (by intro y hy;simp at hy) (fun h₁ xh AM=>?_) ok.kind)
  dsimp only at xh AM⊢
  have I3:=I2.Ht (its:=[]) (ys:=[]) (t':=s2.toks) .nil (Nat.zero_le _)
  have hW:=hW s2.heap.objs.size I2.fresh
  obtain⟨W,⟨m0,w0⟩,turn⟩:=hW
  generalize vN:s2.heap.push {cls:= .type "list",dict:=none,data:= .seq ([]:List Value).toArray}=HP at xh AM⊢
  have I3:Inv X pins σ (upd H2 s2.heap.objs.size (.lst [])) {s2 with heap:=HP}:=by rw[<-vN];exact I3
  generalize IW:upd H2 s2.heap.objs.size (.lst [])=H3 at I3 w0
  have hC:HP.objs.size=s2.heap.objs.size+1:=by rw[<-vN,Heap.size_push]
  have old:∀b o,HP.get? b=some o->h₁.get? b=some o:=fun b o e=>AM.extBut b o (Nat.ne_of_lt (Heap.lt_size e)) (Heap.get?_push_of_some _ e)
  have ji:∀b∈fp,b<s2.heap.objs.size:=fun b hb=>by
    obtain⟨o,e,_⟩:=T.obj 0 _ st2 b hb
    exact Heap.lt_size e
  have TZ:∀b∈fp,H3 b=none:=fun b hb=>by
    rw[<-IW,aN (Nat.ne_of_lt (ji b hb))]
    exact(f2 b hb).1
  have oz:∀{x:Str} {c:Addr},(gJ X.env.cells scope.names []).lookup x=some c->X.env.cells.lookup x=some c:=fun{x c} e=>AE (fun y d q=>by simp at q) e
  have rF:(gG X scope HP.objs.size N {s2 with heap:=HP} H3 fp).Ok:=by
    refine⟨I2.ok.mod,ok.kind,I2.ok.glob,I2.ok.blt,Nat.le_refl _,fun x y c e1 e2=>I2.ok.inj x y c (oz e1) (oz e2),fun x hx=>?_,(fun x c e=>absurd (show false=true from e) (by decide)),I2.ok.hd,I2.ok.frames, .inl rfl,fun b hb=>?_,I3.bs,Nat.le_trans I3.ok.kB I3.sz,fun b o e hb=>?_,fun b hb hz=>?_,I3.stack,I3.DM⟩
    · have hx':scope.names.lookup x=some .free:=by
        rcases hx with hx|hx
        · exact wH ok.cell hx (.inl rfl)
        · exact wH ok.cell hx (.inr rfl)
      have hm:=PySem.mem_of_lookup hx'
      obtain⟨a,ha⟩:=hfree _ hm rfl
      exact⟨a,FY hm ha⟩
    · refine⟨fun z=>?_,fun x c e=>(f2 b hb).2.2.2.2.1 x c (oz e)⟩
      have z':b=HP.objs.size:=z
      have q:=ji b hb
      rw[z',hC] at q
      exact absurd q (Nat.not_lt.mpr (Nat.le_succ _))
    · rcases(f2 b hb).2.2.2.1 with z|z
      · exact I2.ok.oV b o e z
      · exact absurd (Nat.lt_of_lt_of_le (Heap.lt_size (I2.ok.bs b o e).1) z) (Nat.lt_irrefl _)
    · rcases List.mem_cons.mp (I2.uv b hz) with z|z
      · exact(f2 b hb).2.1 z
      · exact(f2 b hb).2.2.1 z
  have IY:Inv (gG X scope HP.objs.size N {s2 with heap:=HP} H3 fp) [] (eH mp σ) H3 {s2 with heap:=h₁,toks:=s2.toks+([]:List (Str×Value)).length}:=by
    refine⟨rF,rfl,I2.bare,Un.kept old,⟨_,xh,fun i x v e1 e2 e3=>?_⟩,fun x c e=>?_,I3.hok.fresh (Nat.le_refl _),fun x c e=>I3.iI x c (oz e),fun p hp=>absurd (show p∈([]:List (Addr×Obj)) from hp) (by simp),I3.hok.kept old,?_⟩
    · have hj:∃j,mp[i]?=some (some j)/\σ[j]?=some (some v):=by
        unfold eH at e2
        rw[List.getElem?_map] at e2
        cases q:mp[i]? with
        |none=>rw[q] at e2;cases e2
        | some o =>
          rw[q] at e2
          cases o with
          |none=>cases e2
          | some j =>
            refine⟨j,rfl,?_⟩
            have e2:(match σ[j]? with|some v=>v|none=>none)=some v:=Option.some.inj e2
            cases r:σ[j]? with
            |none=>rw[r] at e2;cases e2
            | some u =>
              rw[r] at e2
              have e2:u=some v:=e2
              rw[e2]
      obtain⟨j,hj1,hj2⟩:=hj
      obtain⟨l1,l2⟩:=ok.look i j x hj1 e1
      have hm:=PySem.mem_of_lookup l2
      have kx:=ok.free _ hm rfl
      obtain⟨mm,_,hl⟩:=I3.loc
      obtain⟨u,ru,lk⟩:=hl j x v l1 hj2 (kx.elim (fun z=> .inr (.inl z)) fun z=> .inr (.inr z))
      refine⟨u,ru, .inr ⟨DZ l2,?_⟩⟩
      rcases lk with ⟨k,_⟩|⟨_,c,e,z⟩
      · exfalso
        have k':X.env.scope.names.lookup x=some .local:=k
        rcases kx with kx|kx
        · rw[k'] at kx;cases kx
        · rw[k'] at kx;cases kx
      · refine⟨c,FY hm e,?_⟩
        obtain⟨o,ho,hd⟩:=z
        exact⟨o,old c o ho,hd⟩
    · obtain⟨v,o,ho,hd⟩:=I3.cell x c (oz e)
      exact⟨v,o,old c o ho,hd⟩
    · show(eH mp σ).length=N.length
      unfold eH
      rw[List.length_map,ok.len]
  have kh:∀{H':Hp},(∀b∈fp,H' b=none)->∀b∈fp,gu (gG X scope HP.objs.size N {s2 with heap:=HP} H3 fp) [] H' b:=fun{H'} hn b hb=>
    ⟨hn b hb,(rF.rD b hb).1,rF.p6 b hb, .inl hb,(rF.rD b hb).2,fun p hp=>absurd (show p∈([]:List (Addr×Obj)) from hp) (by simp)⟩
  have CJ:tn 0 h₁:=T.keep 0 _ _ st2 fun b hb o e=>old b o (by rw[<-vN];exact Heap.get?_push_of_some _ e)
  have loop:codeAny (model X.prog X.w) X.A (.compLoop (.ListComp elt [⟨tg,iter,ifs,0⟩] scope pos) 0 (.ref it) (.ref s2.heap.objs.size) (compEnvC scope (gJ X.env.cells scope.names []) HP.objs.size X.env))
      (compPost (model X.prog X.w) X.A X.xe use QQ (.ref s2.heap.objs.size) HP.objs.size) {s2 with heap:=h₁,toks:=s2.toks+([]:List (Str×Value)).length}:=by
    obtain⟨hg,ht,he⟩:=hb HP.objs.size {s2 with heap:=HP} H3 fp
    generalize hY:gG X scope HP.objs.size N {s2 with heap:=HP} H3 fp=Y at hg ht he IY kh
    have yp:Y.prog=X.prog:=by rw[<-hY];rfl
    have yw:Y.w=X.w:=by rw[<-hY];rfl
    have yK:Y.K=X.K:=by rw[<-hY];rfl
    have yA:Y.A=X.A:=by rw[<-hY];rfl
    have yc:Y.calm=true:=by rw[<-hY];exact hc
    have yx:Y.xe=fun _ _=>False:=by rw[<-hY];rfl
    have CW:Y.env=compEnvC scope (gJ X.env.cells scope.names []) HP.objs.size X.env:=by rw[<-hY];rfl
    rw[<-CW]
    refine Ma (fun n s'=>∃i σ' H',Inv Y [] σ' H' s'/\tn i s'.heap/\(∀b∈fp,H' b=none)/\W i n σ' H') ?_ m0 ⟨0,_,H3,IY,CJ,TZ,w0⟩
    rintro n s3 ⟨i,σ3,H4,I4,st3,fr3,w3⟩
    rcases turn i n σ3 H4 w3 with ⟨stop,qn⟩|⟨go,Nx,hN,step⟩
    · have q0:=T.done Y yp yw yK yc i [] s3 σ3 H4 (fun _ _=>False) I4 (kh fr3) st3 stop
      rw[yA] at q0
      refine aI q0 fun r s4 ⟨hr,I5⟩=>?_
      subst hr
      show compPost (model X.prog X.w) X.A X.xe use QQ (.ref s2.heap.objs.size) HP.objs.size (.ok .next) s4
      obtain⟨m,hm,_⟩:=id I5.loc
      have yl:Y.env.locals=HP.objs.size:=by rw[CW];rfl
      rw[yl] at hm
      have fC:H4 HP.objs.size=none:=by have:=I5.free;rw[yl] at this;exact this
      have ub:=I5.base
      have ub':Un (frs X.stack) fp H3 H4 HP s4.heap:=by rw[<-hY] at ub;exact ub
      have hos:s4.os=s2.os:=by have:=I5.os;rw[<-hY] at this;exact this
      have Rv:cK X.prog X.w H4 s4.heap:=by have:=I5.hok;rw[yp,yw] at this;exact this
      have IX:Inv X pins σ H4 s4:=I3.NT (ch:=fp) hos ub' Rv I5.bare fun b hb=>⟨(f2 b hb).2.2.2.1,(f2 b hb).2.1,(f2 b hb).2.2.2.2.1,(f2 b hb).2.2.2.2.2⟩
      exact fin _ _ H4 s4 m IX (I3.oO (Nat.le_refl _) fC) hm qn
    · have q0:=T.item Y yp yw yK yc i [] s3 σ3 H4 (fun _ _=>False) I4 (kh fr3) st3 go
      rw[yA] at q0
      refine aI q0 fun r s4 ⟨u,hr,h4⟩=>?_
      subst hr
      refine aI h4 fun _ s5 ⟨x,H5,I5,r5,y5,lF,zI⟩=>?_
      have yd:=I5.pinned (kh zI) (T.obj _ _ lF)
      rw[<-yx,<-yp,<-yw,<-yA]
      refine aI (hg _ s5 σ3 H5 x u _ yd r5 (step x H5 y5)) fun _ s6 ⟨o8,H6,I6,q6⟩=>?_
      refine aI (ht _ s6 o8 H6 _ I6 q6) fun b s7 ⟨H7,I7,q7⟩=>?_
      have again:∀{qb:St} {H8:Hp} {s8:Shared},Inv Y ([]++oG fp s5.heap) qb H8 s8->Nx qb H8->∃m,m<n/\∃i σ' H',Inv Y [] σ' H' s8/\tn i s8.heap/\(∀b∈fp,H' b=none)/\W i m σ' H':=fun{qb H8 s8} I8 n8=>by
        obtain⟨m',hm,w8⟩:=hN qb H8 n8
        refine⟨m',hm,i+1,qb,H8,I8.qw,T.keep _ _ _ lF fun b hb o e=>(I8.pin (b,o) (List.mem_append_right _ (List.mem_append_right _ (tV hb e)))).1,fun b hb=>?_,w8⟩
        obtain⟨o,e,d⟩:=T.obj _ _ lF b hb
        exact(I8.pin (b,o) (List.mem_append_right _ (List.mem_append_right _ (tV hb e)))).2.1
      cases b with
      | false =>
        rw[if_neg Bool.false_ne_true]
        rw[if_neg Bool.false_ne_true] at q7
        exact again I7 q7
      | true =>
        rw[if_pos rfl]
        rw[if_pos rfl] at q7
        refine aI (he _ s7 o8 H7 _ I7 q7) fun v s8 ⟨y,H8,I8,r8,ys,e8,z8,n8⟩=>?_
        refine aI (mR _ s8 o8 H8 (.ref s2.heap.objs.size) [y] (.ref s2.heap.objs.size) [v] (fun _ H9=>H9=upd H8 s2.heap.objs.size (.lst (ys++[y]))) I8 rfl (.cons r8 .nil) ⟨_,ys,y,rfl,rfl,e8,z8,rfl⟩) fun v9 s9 ⟨y9,H9,I9,r9,e9⟩=>?_
        subst e9
        exact again I9 n8
  refine codeAny_compStart_list loop (T.self _ _ _ _ _ CJ loop)
theorem gu.turned{pins:List (Addr×Obj)}{s:Shared}{σ:St}{H:Hp}{C:Addr}{h':Heap}(I:Inv X pins σ H s)(f:gu X pins H C)(hs:Heap.SameBut C s.heap h'):Inv X pins σ H {s with heap:=h'}:=
 I.turned (t':=s.toks) (fun b o hb e=>(hs.2 b hb).trans e) f.1 f.2.1 f.2.2.2.1 f.2.2.2.2.1 f.2.2.2.2.2
theorem dH{elt iter tg:Expr}{ifs:List Expr}{scope:Scope}{pos:Pos}{N:List Str}{mp:List (Option Nat)}{wi:TI}{g:TG}{tc:TT}{te:TE}
  (ok:bQ X.env.scope X.N scope N mp) (hi:PI X tg iter wi)
  (hb:∀C s₀ H₀ fp,PG (gG X scope C N s₀ H₀ fp) tg g/\oZ (gG X scope C N s₀ H₀ fp) ifs tc/\PE (gG X scope C N s₀ H₀ fp) elt te) (hc:X.calm=true:=by rfl)
  (hs:∀x,foldedSetIterable iter X.env x=pure x:=by intro _;rfl):PE X (.ListComp elt [⟨tg,iter,ifs,0⟩] scope pos) (jE wi g tc te mp):=by
 intro pins s σ H Q I h
 rw[eval_ListComp]
 refine Ff (use:=none) ok hc hi hb hs I h fun acc C H' s' m I' f hn q=>?_
 exact⟨m,hn,fun h' hs'=>⟨.ref acc,H',f.turned I' hs',rfl,q⟩⟩
def rM(i:Nat)(t:TE):TS:=fun D σ H=>t σ H fun v H'=>D.nx (σ.set i (some v)) H'
theorem kq{elt iter tg:Expr}{ifs:List Expr}{scope:Scope}{pos spos py:Pos}{N:List Str}{mp:List (Option Nat)}{wi:TI}{g:TG}{tc:TT}{te:TE}{i:Nat}{y:Str}
  (hN:X.N.Nodup) (hy:X.N[i]?=some y) (hk:X.env.kindOf y=some .local)
  (ok:bQ X.env.scope X.N scope N mp) (hi:PI X tg iter wi)
  (hb:∀C s₀ H₀ fp,PG (gG X scope C N s₀ H₀ fp) tg g/\oZ (gG X scope C N s₀ H₀ fp) ifs tc/\PE (gG X scope C N s₀ H₀ fp) elt te) (hc:X.calm=true:=by rfl)
  (hsw:swapsWith (.ListComp elt [⟨tg,iter,ifs,0⟩] scope pos) (some (.Name y py)) spos.line X.env=pure true:=by rfl)
  (hs:∀x,foldedSetIterable iter X.env x=pure x:=by intro _;rfl):PS X (.Assign [.Name y py] (.ListComp elt [⟨tg,iter,ifs,0⟩] scope pos) spos) (rM i (jE wi g tc te mp)):=by
 intro pins s σ H D I h
 rw[exec_Assign_Name_used _ _ _ _ hsw]
 refine wpAny_bind (wpAny_standAt (wpAny_bind ?_))
 show wpAny _ X.A (do let _<-comprehension (.ListComp elt [⟨tg,iter,ifs,0⟩] scope pos) scope X.env _ (newList []) false (eval iter X.env) (some (assign (.Name y py) X.env))) _ _ s
 refine wpAny_bind (wpAny_mono (Ff (use:=some (assign (.Name y py) X.env)) (QQ:=fun _ s'=>SP X pins D .next s') ok hc hi hb hs I h fun acc C H' s' m I' f hn q=>?_) (fun _ s' hq=>wpAny_pure (wpAny_pure hq)) fun _ _ e=>e)
 refine wpAny_assign_Name (BU (v:= .ref acc) I' hN hy (.inl hk) rfl (fun s2 I2 ⟨a,sb,ha⟩=>?_) (.inr hk))
 have hne:C≠a:=by
  rcases ha with z|z
  ·rw[z];exact f.2.1
  ·exact fun e=>f.2.2.2.2.1 y a z e.symm
 exact⟨m,hn.sameBut sb hne,fun h' hs'=>⟨_,H',f.turned I2 hs',q⟩⟩
end
def Sm(i:Int):Prop:= -(2^300)<i/\i<2^300
theorem DB{i:Int}(h:Sm i):Builtin.Int.intBits i<=2^20:=by
 obtain⟨h1,h2⟩:=h
 unfold Builtin.Int.intBits
 split
 ·exact Nat.zero_le _
 ·rename_i h0
  have hn:i.natAbs≠0:=by
   intro e
   apply h0
   simp
   omega
  have h3:i.natAbs<2^300:=by omega
  have h4:i.natAbs.log2<300:=(Nat.log2_lt hn).mpr h3
  have:(2:Nat)^20=1048576:=by decide
  omega
theorem Lk{x y:Int}(h:Sm y):Builtin.divisionGoesByPylong x y=false:=by
 refine PyProof.noPylong_of_log2 ?_
 obtain⟨h1,h2⟩:=h
 by_cases h0:y.natAbs=0
 ·rw[h0];decide+kernel
 ·have h3:y.natAbs<2^300:=by omega
  have h4:y.natAbs.log2<300:=(Nat.log2_lt h0).mpr h3
  omega
section
variable{X:Cx}
theorem oq:cI X (binaryOp .FloorDiv) (rI (fun _ j=>0<j/\Sm j) fun i j=> .int (i/j)):=tD fun i j _ _ _ _ _ hc q=>
 floordiv_int (by omega) (by rw[Int.fdiv_eq_ediv_of_nonneg _ (by omega)];exact q) (.inl (Lk hc.2))
def iE(K:PySem.W.Frag):List V->Hp->VK->Prop:=fun xs H Q=>∃x T t b,xs=[x, .ty T]/\fZ K H x t/\PySem.W.kitOne K t (.type T)=some b/\Q (.bl b) H
theorem jr:dB X (.builtin "isinstance") (iE X.K):=by
 intro pins s σ H xs us Q I rv h
 obtain⟨x,T,t,b,rfl,ty,e,q⟩:=h
 obtain⟨u,v,rfl,ru,rv⟩:=rv.two
 cases (show v=Value.type T from rv)
 exact UR I ru ty e fun tk=>⟨.bl b,H,I.tok tk,rfl,q⟩
def UB:PyData->Key->Prop
 | .int i,k=>k= .inl i
 | .str x,k=>k= .inr x
 |_,_=>False
mutual
def ah(nb:Addr->Prop)(H:Hp):PyData->V->Prop
 | .none,v=>v= .aE
 | .bool b,v=>v= .bl b
 | .int i,v=>v= .int i
 | .str x,v=>v= .str x
 | .list ds,v=>∃a xs,v= .ref a/\¬nb a/\H a=some (.lst xs)/\af nb H ds xs
 | .tuple ds,v=>∃a xs,v= .ref a/\¬nb a/\H a=some (.tup xs)/\af nb H ds xs
 | .dict kvs,v=>∃a ps,v= .ref a/\¬nb a/\Rd H a (.dK ps)/\au nb H kvs ps
termination_by structural d=>d
def af(nb:Addr->Prop)(H:Hp):List PyData->List V->Prop
 |[],xs=>xs=[]
 |d::ds,xs=>∃y ys,xs=y::ys/\ah nb H d y/\af nb H ds ys
termination_by structural d=>d
def au(nb:Addr->Prop)(H:Hp):List (PyData×PyData)->List (Key×V)->Prop
 |[],xs=>xs=[]
 |d::ds,xs=>∃p ys,xs=p::ys/\cC nb H d p/\au nb H ds ys
termination_by structural d=>d
def cC(nb:Addr->Prop)(H:Hp):PyData×PyData->Key×V->Prop
 |(k,d),p=>UB k p.1/\ah nb H d p.2
termination_by structural d=>d
end
def aP(nb:Addr->Prop)(H H':Hp):Prop:=∀a o,¬nb a->H a=some o->H' a=some o
def Nb(b:Addr):Addr->Prop:=fun a=>a=b
section
variable{nb aM:Addr->Prop}{H H1 H2 H':Hp}{a b c p:Addr}{o:HO}{xs:List V}
theorem aP.refl(nb:Addr->Prop)(H:Hp):aP nb H H:=fun _ _ _ h=>h
theorem aP.trans(x:aP nb H H1)(y:aP nb H1 H2):aP nb H H2:=fun a o n h=>y a o n (x a o n h)
theorem aP.of(x:bx H H'):aP nb H H':=fun a o _ h=>x a o h
theorem aP.set(h:nb p):aP nb H (upd H p o):=fun a u n q=>by rw[aN (fun e=>n (by rw[e];exact h))];exact q
theorem aP.rd{u:HO}(x:aP nb H H')(n:¬nb a)(h:Rd H a u):Rd H' a u:=by
 rcases h with h|⟨o,h⟩
 ·exact .inl (x _ _ n h)
 ·exact .inr ⟨o,x _ _ n h⟩
end
mutual
theorem ah.keep{nb:Addr->Prop}{H H':Hp}(x:aP nb H H'):∀{d:PyData} {v:V},ah nb H d v->ah nb H' d v
 | .none,_,h=>by unfold ah at h⊢;exact h
 | .bool _,_,h=>by unfold ah at h⊢;exact h
 | .int _,_,h=>by unfold ah at h⊢;exact h
 | .str _,_,h=>by unfold ah at h⊢;exact h
 | .list ds,_,h=>by unfold ah at h⊢;obtain⟨a,xs,e,n,s,r⟩:=h;exact⟨a,xs,e,n,x _ _ n s,af.keep x r⟩
 | .tuple ds,_,h=>by unfold ah at h⊢;obtain⟨a,xs,e,n,s,r⟩:=h;exact⟨a,xs,e,n,x _ _ n s,af.keep x r⟩
 | .dict kvs,_,h=>by unfold ah at h⊢;obtain⟨a,xs,e,n,s,r⟩:=h;exact⟨a,xs,e,n,x.rd n s,au.keep x r⟩
theorem af.keep{nb:Addr->Prop}{H H':Hp}(x:aP nb H H'):∀{ds:List PyData} {vs:List V},af nb H ds vs->af nb H' ds vs
 |[],_,h=>by unfold af at h⊢;exact h
 |d::ds,_,h=>by unfold af at h⊢;obtain⟨y,ys,e,h1,h2⟩:=h;exact⟨y,ys,e,ah.keep x h1,af.keep x h2⟩
theorem au.keep{nb:Addr->Prop}{H H':Hp}(x:aP nb H H'):∀{ds:List (PyData×PyData)} {vs:List (Key×V)},au nb H ds vs->au nb H' ds vs
 |[],_,h=>by unfold au at h⊢;exact h
 |d::ds,_,h=>by unfold au at h⊢;obtain⟨y,ys,e,h1,h2⟩:=h;exact⟨y,ys,e,cC.keep x h1,au.keep x h2⟩
theorem cC.keep{nb:Addr->Prop}{H H':Hp}(x:aP nb H H'):∀{d:PyData×PyData} {v:Key×V},cC nb H d v->cC nb H' d v
 |(k,d),_,h=>by unfold cC at h⊢;exact⟨h.1,ah.keep x h.2⟩
end
mutual
theorem ah.av{nb aM:Addr->Prop}{H:Hp}(x:∀a,aM a->nb a):∀{d:PyData} {v:V},ah nb H d v->ah aM H d v
 | .none,_,h=>by unfold ah at h⊢;exact h
 | .bool _,_,h=>by unfold ah at h⊢;exact h
 | .int _,_,h=>by unfold ah at h⊢;exact h
 | .str _,_,h=>by unfold ah at h⊢;exact h
 | .list ds,_,h=>by unfold ah at h⊢;obtain⟨a,xs,e,n,s,r⟩:=h;exact⟨a,xs,e,fun z=>n (x a z),s,af.av x r⟩
 | .tuple ds,_,h=>by unfold ah at h⊢;obtain⟨a,xs,e,n,s,r⟩:=h;exact⟨a,xs,e,fun z=>n (x a z),s,af.av x r⟩
 | .dict kvs,_,h=>by unfold ah at h⊢;obtain⟨a,xs,e,n,s,r⟩:=h;exact⟨a,xs,e,fun z=>n (x a z),s,au.av x r⟩
theorem af.av{nb aM:Addr->Prop}{H:Hp}(x:∀a,aM a->nb a):∀{ds:List PyData} {vs:List V},af nb H ds vs->af aM H ds vs
 |[],_,h=>by unfold af at h⊢;exact h
 |d::ds,_,h=>by unfold af at h⊢;obtain⟨y,ys,e,h1,h2⟩:=h;exact⟨y,ys,e,ah.av x h1,af.av x h2⟩
theorem au.av{nb aM:Addr->Prop}{H:Hp}(x:∀a,aM a->nb a):∀{ds:List (PyData×PyData)} {vs:List (Key×V)},au nb H ds vs->au aM H ds vs
 |[],_,h=>by unfold au at h⊢;exact h
 |d::ds,_,h=>by unfold au at h⊢;obtain⟨y,ys,e,h1,h2⟩:=h;exact⟨y,ys,e,cC.av x h1,au.av x h2⟩
theorem cC.av{nb aM:Addr->Prop}{H:Hp}(x:∀a,aM a->nb a):∀{d:PyData×PyData} {v:Key×V},cC nb H d v->cC aM H d v
 |(k,d),_,h=>by unfold cC at h⊢;exact⟨h.1,ah.av x h.2⟩
end
mutual
theorem ah.fresh{nb:Addr->Prop}{H:Hp}{p:Addr}(hp:H p=none):∀{d:PyData} {v:V},ah nb H d v->ah (fun a=>nb a\/a=p) H d v
 | .none,_,h=>by unfold ah at h⊢;exact h
 | .bool _,_,h=>by unfold ah at h⊢;exact h
 | .int _,_,h=>by unfold ah at h⊢;exact h
 | .str _,_,h=>by unfold ah at h⊢;exact h
 | .list ds,_,h=>by unfold ah at h⊢;obtain⟨a,xs,e,n,s,r⟩:=h;exact⟨a,xs,e,fun z=>z.elim n (fO s hp),s,af.fresh hp r⟩
 | .tuple ds,_,h=>by unfold ah at h⊢;obtain⟨a,xs,e,n,s,r⟩:=h;exact⟨a,xs,e,fun z=>z.elim n (fO s hp),s,af.fresh hp r⟩
 | .dict kvs,_,h=>by unfold ah at h⊢;obtain⟨a,xs,e,n,s,r⟩:=h;exact⟨a,xs,e,fun z=>z.elim n (s.elim (fun s=>fO s hp) fun⟨_,s⟩=>fO s hp),s,au.fresh hp r⟩
theorem af.fresh{nb:Addr->Prop}{H:Hp}{p:Addr}(hp:H p=none):∀{ds:List PyData} {vs:List V},af nb H ds vs->af (fun a=>nb a\/a=p) H ds vs
 |[],_,h=>by unfold af at h⊢;exact h
 |d::ds,_,h=>by unfold af at h⊢;obtain⟨y,ys,e,h1,h2⟩:=h;exact⟨y,ys,e,ah.fresh hp h1,af.fresh hp h2⟩
theorem au.fresh{nb:Addr->Prop}{H:Hp}{p:Addr}(hp:H p=none):∀{ds:List (PyData×PyData)} {vs:List (Key×V)},au nb H ds vs->au (fun a=>nb a\/a=p) H ds vs
 |[],_,h=>by unfold au at h⊢;exact h
 |d::ds,_,h=>by unfold au at h⊢;obtain⟨y,ys,e,h1,h2⟩:=h;exact⟨y,ys,e,cC.fresh hp h1,au.fresh hp h2⟩
theorem cC.fresh{nb:Addr->Prop}{H:Hp}{p:Addr}(hp:H p=none):∀{d:PyData×PyData} {v:Key×V},cC nb H d v->cC (fun a=>nb a\/a=p) H d v
 |(k,d),_,h=>by unfold cC at h⊢;exact⟨h.1,ah.fresh hp h.2⟩
end
mutual
theorem ah.reads{pins:List (Addr×Obj)}{σ:St}{H:Hp}{s:Shared}{nb:Addr->Prop}(I:Inv X pins σ H s):∀{d:PyData} {v:V} {u:Value},ah nb H d v->RelV v u->d.canLay0=true->∃as,Reads s.heap u d as
  | .none,_,_,h,r,_=>by unfold ah at h;subst h;cases r;exact⟨_, .none⟩
  | .bool _,_,_,h,r,_=>by unfold ah at h;subst h;cases r;exact⟨_, .bool _⟩
  | .int _,_,_,h,r,_=>by unfold ah at h;subst h;obtain⟨t,rfl⟩:=r;exact⟨_, .int _ _⟩
  | .str _,_,_,h,r,_=>by unfold ah at h;subst h;obtain⟨t,rfl⟩:=r;exact⟨_, .str _ _⟩
  | .list ds, _, _, h, r, hc0 => by
    unfold ah at h
    obtain⟨a,xs,rfl,n,s,q⟩:=h
    cases r
    obtain⟨its,rv,p,hz⟩:=I.list (aQ.of s)
    obtain⟨as,ra⟩:=af.reads I q rv (by simpa only[PyData.canLay0] using hc0)
    obtain⟨o,ho,hc,m,hd⟩:=p.isList
    exact⟨_, .list ho hc hd (by simpa using ra)⟩
  | .tuple ds, _, _, h, r, hc0 => by
    unfold ah at h
    obtain⟨a,xs,rfl,n,s,q⟩:=h
    cases r
    obtain⟨its,rv,p,hz⟩:=I.tuple (eE.of s)
    obtain⟨as,ra⟩:=af.reads I q rv (by simpa only[PyData.canLay0] using hc0)
    obtain⟨o,ho,hc,m,hd⟩:=p
    exact⟨_, .tuple ho hc hd (by simpa using ra)⟩
  | .dict _,_,_,h,r,hc0=>by simp[PyData.canLay0] at hc0
theorem af.reads{pins:List (Addr×Obj)}{σ:St}{H:Hp}{s:Shared}{nb:Addr->Prop}(I:Inv X pins σ H s):∀{ds:List PyData} {vs:List V} {us:List Value},af nb H ds vs->Vals vs us->PyData.canLayAll0 ds=true->∃as,ReadsAll s.heap us ds as
  |[],_,_,h,r,_=>by unfold af at h;subst h;cases r;exact⟨_, .nil⟩
  | d :: ds, _, _, h, r, hc0 => by
    rw[PyData.canLayAll0,Bool.and_eq_true] at hc0
    unfold af at h
    obtain⟨y,ys,rfl,h1,h2⟩:=h
    cases r with
    | cons r1 r2 =>
      obtain⟨as,q1⟩:=ah.reads I h1 r1 hc0.1
      obtain⟨bs,q2⟩:=af.reads I h2 r2 hc0.2
      exact⟨_, .cons q1 q2⟩
end
def A9(neg:Bool):R2:=fun x y H Q=>∃nb d e,ah nb H d x/\ah nb H e y/\SeqAt.shaped d=true/\SeqAt.shaped e=true/\Q (.bl (PyData.eqv d e !=neg)) H
theorem L6(hu:X.A.units+64<cLine):cI X (compareOp .Eq) (A9 false):=by
 intro pins s σ H x y v u Q I rx ry h
 obtain⟨nb,d,e,h1,h2,h3,h4,q⟩:=h
 obtain⟨as,r1⟩:=h1.reads I rx (SeqAt.canLay_of_shaped h3)
 obtain⟨bs,r2⟩:=h2.reads I ry (SeqAt.canLay_of_shaped h4)
 exact eq_dataH r1 r2 h3 h4 hu ⟨.bl _,H,I,rfl,by simpa using q⟩
theorem vU(hu:X.A.units+64<cLine):cI X (compareOp .NotEq) (A9 true):=by
 intro pins s σ H x y v u Q I rx ry h
 obtain⟨nb,d,e,h1,h2,h3,h4,q⟩:=h
 obtain⟨as,r1⟩:=h1.reads I rx (SeqAt.canLay_of_shaped h3)
 obtain⟨bs,r2⟩:=h2.reads I ry (SeqAt.canLay_of_shaped h4)
 exact ne_dataH r1 r2 h3 h4 hu ⟨.bl _,H,I,rfl,by simpa using q⟩
end
structure Callee(P:Program)(w:World)(K:PySem.W.Frag)(mg:Str->Option Value)(base:Heap)(x:Str)(k:Nat)(ps:List Str)(sp:Sp):Prop where
 ex:∃f fd,aY P w K mg base bw k f fd ps sp/\Binds K fd ps []/\PySem.W.keepIn K (.ref f)=true/\mg x=some (.ref f)
theorem aO{X:Cx}{x:Str}{k:Nat}{ps:List Str}{sp:Sp}{p pos:Pos}{e:Expr}{es:List Expr}{t:TA}(c:Callee X.prog X.w X.K X.mg X.base x k ps sp)(hr:cP k X.A)(ha:PA X (e::es) t)(hg:Gl X x:=by rfl)
  (hdb:(x==("__debug__":Str))=false:=by decide) (he:starEach (e::es) X.env=(false,eval e X.env)::starEach es X.env:=by rfl) (hpl:(backTo pos (starEach es X.env)).any (·.1)=false:=by rfl):
  PE X (.Call (.Name x p) (e::es) [] pos) (eS sp [] E0 t):=by
 obtain⟨f,fd,F,b,kp,m⟩:=c.ex
 exact OX F hr hg m kp b .nil ue ha hdb he hpl
theorem Callee.mk'{P:Program}{w:World}{K:PySem.W.Frag}{mg:Str->Option Value}{base:Heap}{x:Str}{st:Stmt}{k:Nat}{ps:List Str}{sp:Sp}{f:Addr}{fd:FuncData}(F:bC K x x st f fd)(ok:aY P w K mg base bw k f fd ps sp)(b:Binds K fd ps [])
  (m:mg x=some (.ref f)):Callee P w K mg base x k ps sp:=⟨f,fd,ok,b,F.kp,m⟩
end L2
set_option maxRecDepth 100000
set_option maxHeartbeats 1000000
namespace L2
open PySem PySem.Spec PyProof.Rows
section
variable{X:Cx}
theorem dO:cI X (binaryOp .Mult) (rI (fun i j=>sI i j\/(Sm i/\Sm j)) fun i j=> .int (i*j)):=tD fun _ _ _ _ _ _ _ hc q=>mul_int q (by
 rcases hc with hc|hc
 ·exact hc.ok
 ·exact IntMulOk.of_bits (DB hc.1) (DB hc.2))
end
def cG(H:Hp)(b l:Addr):Prop:=∃(ns:List Int) (i c st n:Int),H b=some (.lst [.ref l, .int i, .int c, .int st, .int n])/\H l=some (.lst (ns.map V.int))/\
 (∀x∈ns,0<=x/\x<10^60)/\ns.length<=63/\0<=i/\0<=c/\c<10^60/\0<=st/\st<2147483647
theorem Vm{H:Hp}{b l:Addr}{ns:List Int}{i c st n:V}(h:H b=some (.lst [.ref l,i,c,st,n]))(h':H l=some (.lst (ns.map V.int))):l≠b:=by
 intro e
 subst e
 rw[h] at h'
 have e:=HO.lst.inj (Option.some.inj h')
 cases ns with
 |nil=>cases e
 |cons x r=>rw[List.map_cons] at e;cases (List.cons.inj e).1
theorem cG.put{H:Hp}{b l:Addr}{ns:List Int}{i c st n:Int}(hl:l≠b)(h':H l=some (.lst (ns.map V.int)))(h1:∀x∈ns,0<=x/\x<10^60)(h2:ns.length<=63)
  (h3:0<=i) (h4:0<=c) (h5:c<10^60) (h6:0<=st) (h7:st<2147483647):cG (upd H b (.lst [.ref l, .int i, .int c, .int st, .int n])) b l:=
 ⟨ns,i,c,st,n,aU,by rw[aN hl];exact h',h1,h2,h3,h4,h5,h6,h7⟩
theorem cG.put2{H:Hp}{b l p:Addr}{o:HO}(h:cG H b l)(hp:p≠b/\p≠l):cG (upd H p o) b l:=by
 obtain⟨ns,i,c,st,n,h1,h2,r⟩:=h
 exact⟨ns,i,c,st,n,by rw[aN (Ne.symm hp.1)];exact h1,by rw[aN (Ne.symm hp.2)];exact h2,r⟩
theorem cG.same{H H':Hp}{b l:Addr}(h:cG H b l)(s:bx H H'):cG H' b l:=by
 obtain⟨ns,i,c,st,n,h1,h2,r⟩:=h
 exact⟨ns,i,c,st,n,s _ _ h1,s _ _ h2,r⟩
def jg:Sp:=fun vs H Q _=>∃(b l:Addr) (many:Int),vs=[.ref b, .int many]/\cG H b l/\0<many/\Sm many/\∀(r:Int) (H':Hp),0<=r->r<many->aP (Nb b) H H'->cG H' b l->Q (.int r) H'
def C4(K:PySem.W.Frag):Sp:=fun vs H Q _=>∃(a:Addr) (ns:List Int),vs=[.ref a]/\aQ K H a (ns.map V.int)/\ns.length<=63/\∀(b l:Addr) (H':Hp),bx H H'->H b=none->cG H' b l->Q (.ref b) H'
theorem gC{α:Type}{xs:List α}{i:Int}{v:α}(h0:0<=i)(h:xs[i.toNat]?=some v):bB xs i=some v:=by
 have e:i=((i.toNat:Nat):Int):=by omega
 rw[e]
 exact SM h
theorem bW{H:Hp}{p:Addr}{o:HO}(h:H p=none):bx H (upd H p o):=fun b u q=>by rw[aN (fO q h)];exact q
section
variable{nb:Addr->Prop}{H H':Hp}
theorem af.length:∀{ds:List PyData} {xs:List V},af nb H ds xs->xs.length=ds.length
 |[],_,h=>by unfold af at h;subst h;rfl
 |d::ds,_,h=>by unfold af at h;obtain⟨y,ys,rfl,_,h2⟩:=h;simp[af.length h2]
theorem af.get:∀{ds:List PyData} {xs:List V} {i:Nat} {d:PyData},af nb H ds xs->ds[i]?=some d->∃x,xs[i]?=some x/\ah nb H d x
 |[],_,_,_,_,e=>by simp at e
 |d::ds,_,0,_,h,e=>by unfold af at h;obtain⟨y,ys,rfl,h1,h2⟩:=h;simp at e;subst e;exact⟨y,rfl,h1⟩
 |d::ds,_,i+1,_,h,e=>by unfold af at h;obtain⟨y,ys,rfl,h1,h2⟩:=h;simpa using af.get (i:=i) h2 (by simpa using e)
theorem af.snoc{d:PyData}{x:V}(hd:ah nb H d x):∀{ds:List PyData} {xs:List V},af nb H ds xs->af nb H (ds++[d]) (xs++[x])
 |[],_,h=>by unfold af at h;subst h;unfold af;exact⟨x,[],rfl,hd,by unfold af;rfl⟩
 |e::ds,_,h=>by unfold af at h;obtain⟨y,ys,rfl,h1,h2⟩:=h;show af nb H (e::(ds++[d])) _;unfold af;exact⟨y,ys++[x],rfl,h1,af.snoc hd h2⟩
theorem af.append:∀{ds es:List PyData} {xs ys:List V},af nb H ds xs->af nb H es ys->af nb H (ds++es) (xs++ys)
 |[],_,_,_,h,h'=>by unfold af at h;subst h;exact h'
 |e::ds,es,_,zs,h,h'=>by unfold af at h;obtain⟨y,ys,rfl,h1,h2⟩:=h;show af nb H (e::(ds++es)) _;unfold af;exact⟨y,ys++zs,rfl,h1,af.append h2 h'⟩
theorem af.take:∀{ds:List PyData} {xs:List V} (n:Nat),af nb H ds xs->af nb H (ds.take n) (xs.take n)
 |_,_,0,_=>by simp only[List.take_zero];unfold af;rfl
 |[],_,n+1,h=>by unfold af at h;subst h;simp only[List.take_nil];unfold af;rfl
 |d::ds,_,n+1,h=>by unfold af at h;obtain⟨y,ys,rfl,h1,h2⟩:=h;simp only[List.take_succ_cons];unfold af;exact⟨y,_,rfl,h1,af.take n h2⟩
theorem af.drop:∀{ds:List PyData} {xs:List V} (n:Nat),af nb H ds xs->af nb H (ds.drop n) (xs.drop n)
 |_,_,0,h=>h
 |[],_,n+1,h=>by unfold af at h;subst h;simp only[List.drop_nil];unfold af;rfl
 |d::ds,_,n+1,h=>by unfold af at h;obtain⟨y,ys,rfl,h1,h2⟩:=h;simp only[List.drop_succ_cons];exact af.drop n h2
theorem af.nil:af nb H [] []:=by unfold af;rfl
theorem af.cons{d:PyData}{x:V}{ds:List PyData}{xs:List V}(h1:ah nb H d x)(h2:af nb H ds xs):af nb H (d::ds) (x::xs):=by unfold af;exact⟨x,xs,rfl,h1,h2⟩
theorem ah.int(i:Int):ah nb H (.int i) (.int i):=by unfold ah;rfl
theorem ah.aE:ah nb H .none .aE:=by unfold ah;rfl
theorem ah.bl(b:Bool):ah nb H (.bool b) (.bl b):=by unfold ah;rfl
theorem ah.lst{a:Addr}{ds:List PyData}{xs:List V}(n:¬nb a)(h:H a=some (.lst xs))(hd:af nb H ds xs):ah nb H (.list ds) (.ref a):=by unfold ah;exact⟨a,xs,rfl,n,h,hd⟩
theorem ah.tup{a:Addr}{ds:List PyData}{xs:List V}(n:¬nb a)(h:H a=some (.tup xs))(hd:af nb H ds xs):ah nb H (.tuple ds) (.ref a):=by unfold ah;exact⟨a,xs,rfl,n,h,hd⟩
theorem ah.cU{v:V}{ds:List PyData}(h:ah nb H (.list ds) v):∃a xs,v= .ref a/\¬nb a/\H a=some (.lst xs)/\af nb H ds xs:=by unfold ah at h;exact h
theorem ah.ofT{v:V}{ds:List PyData}(h:ah nb H (.tuple ds) v):∃a xs,v= .ref a/\¬nb a/\H a=some (.tup xs)/\af nb H ds xs:=by unfold ah at h;exact h
theorem ah.bD{v:V}{i:Int}(h:ah nb H (.int i) v):v= .int i:=by unfold ah at h;exact h
theorem ah.qL{v:V}(h:ah nb H .none v):v= .aE:=by unfold ah at h;exact h
end
def Zz:Sp:=fun vs H Q _=>∃i:Int,vs=[.int i]/\Q (.bl true) H
def um(K:PySem.W.Frag):Sp:=fun vs H Q _=>∃(a:Addr) (ns:List Int),vs=[.ref a]/\aQ K H a (ns.map V.int)/\ns.length<=63/\∀H',Q (.bl true) H'
end L2
set_option maxRecDepth 100000
set_option maxHeartbeats 1000000
namespace L2
open PySem PySem.Spec PyProof.Rows
def v7(Q:VK):List V->Hp->Prop:=fun xs H1=>xs.length<=sizeLine/\∀p,H1 p=none->Q (.ref p) (upd H1 p (.lst xs))
def iz(K:PySem.W.Frag):List V->Hp->VK->Prop:=fun xs H Q=>∃p ys,xs=[.ref p]/\(aQ K H p ys\/eE K H p ys)/\∀l,H l=none->Q (.ref l) (upd H l (.lst ys))
theorem kc{X:Cx}:dB X (.type "list") (iz X.K):=S8
def Dq:R2:=fun x y H Q=>y= .aE/\Q (.bl (decide (x= .aE))) H
def rX:R2:=fun x y H Q=>y= .aE/\Q (.bl (!decide (x= .aE))) H
theorem Gq{X:Cx}:cI X (compareOp .Is) Dq:=TM
theorem vQ{X:Cx}:cI X (compareOp .IsNot) rX:=Me
def intOf:Expr->Option Int
 | .Constant (.int i) _ _=>some i
 |_=>none
theorem Mx{e:Expr}{i:Int}(h:intOf e=some i):∃k p,e= .Constant (.int i) k p:=by
 unfold intOf at h
 split at h
 ·cases h;exact⟨_,_,rfl⟩
 ·cases h
def mW:List Expr->Option (List Int)
 |[]=>some []
 |e::r=>(intOf e).bind fun i=>(mW r).map (i:: ·)
def sN(is:List Int):TA:=fun _ H Q=>Q (is.map V.int) H
theorem Gf{X:Cx}:∀{es:List Expr} {is:List Int},mW es=some is->PA X es (sN is):=by
  intro es
  induction es with
  | nil =>
    intro is h
    have e:is=[]:=by simpa[mW] using h.symm
    subst e
    exact aj
  | cons e r ih =>
    intro is h
    unfold mW at h
    cases hi:intOf e with
    |none=>rw[hi] at h;cases h
    | some i =>
      rw[hi] at h
      obtain⟨k,p,rfl⟩:=Mx hi
      obtain⟨js,hj,rfl⟩:=Option.map_eq_some_iff.mp (show(mW r).map (i:: ·)=some is from h)
      exact aa (te:=tC (.int i)) (t:=sN js) ao (ih hj)
theorem XO{X:Cx}{i:Nat}{x:Str}{es:List Expr}{is:List Int}{p1 p2 p3:Pos}(hN:X.N.Nodup)(hi:X.N[i]?=some x)(hx:Loc X.env.scope x)(h:mW es=some is)(hf:X.fn x=true\/X.env.scope.names.lookup x=some .local):
  PS X (.Assign [.Name x p1] (.List es p2) p3) (fW (kQ (sN is)) (dW i)):=aT hN hi hx (gm (Gf h)) rfl hf
namespace R
section
variable{σ:St}{H:Hp}{Q:VK}{D:Ends}{ta tb te:TE}{K:PySem.W.Frag}
theorem seq{t u:TS}(h:t {D with nx:=u D} σ H):pK t u D σ H:=h
theorem asg{g:TG}(h:te σ H fun x H1=>g x σ H1 D.nx):fW te g D σ H:=h
theorem jx{c:TT}{t u:TS}(h:c σ H fun b H1=>if b=true then t D σ H1 else u D σ H1):xJ c t u D σ H:=h
theorem ret(h:te σ H D.rt):mz te D σ H:=h
theorem next(h:D.nx σ H):xN D σ H:=h
theorem var{i:Nat}{v:V}(e:σ[i]?=some (some v))(h:Q v H):bq i σ H Q:=⟨v,e,h⟩
theorem c{v:V}(h:Q v H):tC v σ H Q:=h
theorem op{r:R2}(h:ta σ H fun x H1=>tb σ H1 fun y H2=>r x y H2 Q):bX r ta tb σ H Q:=h
theorem test{q:Bool->Hp->Prop}(h:te σ H fun x H'=>∃k,x= .bl k/\q k H'):yk te σ H q:=h
theorem bl{P:Bool->Prop}{b:Bool}(h:P b):∃k,V.bl b= .bl k/\P k:=⟨b,rfl,h⟩
theorem and{t u:TT}{q:Bool->Hp->Prop}(h:t σ H fun c H1=>if c=true then u σ H1 q else q false H1):vI t u σ H q:=h
theorem cb{r:List V->Hp->VK->Prop}{t:TA}(h:t σ H fun vs H1=>r vs H1 Q):dw r t σ H Q:=h
theorem call{sp:Sp}{t:TA}(h:t σ H fun vs H1=>sp (vs++[]) H1 Q E0):eS sp [] E0 t σ H Q:=h
theorem nil{q:List V->Hp->Prop}(h:q [] H):bh σ H q:=h
theorem cons{t:TA}{q:List V->Hp->Prop}(h:ta σ H fun x H1=>t σ H1 fun xs H2=>q (x::xs) H2):aS ta t σ H q:=h
theorem lst{t:TA}(h:t σ H (v7 Q)):kQ t σ H Q:=h
theorem sl{r:V->Option Int->Option Int->Hp->VK->Prop}{tl th:TO}(h:te σ H fun x H1=>tl σ H1 fun l H2=>th σ H2 fun u H3=>r x l u H3 Q):pC r te tl th σ H Q:=h
theorem MZ{q:Option Int->Hp->Prop}(h:q none H):yf σ H q:=h
theorem part{q:Option Int->Hp->Prop}(h:te σ H fun x H1=>∃i,x= .int i/\q (some i) H1):Bo te σ H q:=h
theorem RJ{P:Int->Prop}{i:Int}(h:P i):∃j,V.int i= .int j/\P j:=⟨i,rfl,h⟩
theorem Gi{i:Nat}{v:V}{q:St->Hp->Prop}(h:q (σ.set i (some v)) H):dW i v σ H q:=h
theorem ZE{to ti:TE}{t:mC}{v:V}{q:St->Hp->Prop}(h:to σ H fun o H1=>ti σ H1 fun i H2=>t o i v H2 fun H3=>q σ H3):qa to ti t v σ H q:=h
theorem QN{t:TG}{u:fN}{v:V}{r:List V}{q:St->Hp->Prop}(h:t v σ H fun σ' H'=>u r σ' H' q):lU t u (v::r) σ H q:=⟨v,r,rfl,h⟩
theorem Mm{q:St->Hp->Prop}(h:q σ H):oR [] σ H q:=⟨rfl,h⟩
theorem Ja{n:Nat}{t:fN}{a:Addr}{xs:List V}{q:St->Hp->Prop}(hq:eE K H a xs)(hl:xs.length=n)(h:t xs σ H q):mw K n t (.ref a) σ H q:=⟨a,xs,rfl,hq,hl,h⟩
theorem ko{q:Bool->Hp->Prop}(h:q true H):kX σ H q:=h
theorem fX{g:Int->Int->V}{i j:Int}(h:Q (g i j) H):L2.fX g (.int i) (.int j) H Q:=⟨i,j,rfl,rfl,h⟩
theorem rI{C:Int->Int->Prop}{g:Int->Int->V}{i j:Int}(hc:C i j)(h:Q (g i j) H):L2.rI C g (.int i) (.int j) H Q:=⟨i,j,rfl,rfl,hc,h⟩
theorem wW{i j:Int}:decide (V.int i=V.int j)=decide (i=j):=by rw[Bool.eq_iff_iff];simp
theorem OH{i j:Int}(h:Q (.bl (decide (i=j))) H):Aa (.int i) (.int j) H Q:=⟨rfl,by rw[wW];exact h⟩
theorem J2{i j:Int}(h:Q (.bl (decide (i≠j))) H):BC (.int i) (.int j) H Q:=⟨rfl,by rw[wW,<-decide_not];exact h⟩
theorem Ge{i:Int}(h:Q (.bl true) H):rX (.int i) .aE H Q:=⟨rfl,by rw[decide_eq_false (fun e=>V.noConfusion e)];exact h⟩
theorem Dr(h:Q (.bl false) H):rX .aE .aE H Q:=⟨rfl,by rw[decide_eq_true rfl];exact h⟩
theorem su{p:Addr}{xs:List V}{i:Int}{v:V}(hp:H p=some (.lst xs))(e:bB xs i=some v)(h:Q v H):bI K (.ref p) (.int i) H Q:=⟨p,xs,i,v,rfl,rfl,aQ.of hp,e,h⟩
theorem zG{p:Addr}{o:HO}{xs:List V}{i:Int}{v:V}(e:bB xs i=some v)(h:Q v (upd H p (.lst xs))):bI K (.ref p) (.int i) (upd H p (.lst xs)) Q:=⟨p,xs,i,v,rfl,rfl,aQ.of aU,e,h⟩
theorem setM{p:Addr}{xs:List V}{k:Int}{j:Nat}{v:V}{q:Hp->Prop}(hp:H p=some (.lst xs))(e:fG xs.length k=some j)(h:q (upd H p (.lst (xs.set j v)))):pD (.ref p) (.int k) v H q:=⟨p,xs,k,j,rfl,rfl,hp,e,h⟩
theorem JB{p:Addr}{xs:List V}{k:Int}{j:Nat}{v:V}{q:Hp->Prop}(e:fG xs.length k=some j)(h:q (upd H p (.lst (xs.set j v)))):pD (.ref p) (.int k) v (upd H p (.lst xs)) q:=
 ⟨p,xs,k,j,rfl,rfl,aU,e,by rw[xV];exact h⟩
theorem R8{p:Addr}{xs:List V}{P:List V->Prop}(hp:H p=some (.lst xs))(h:P xs):∃a ys,[V.ref p]=[.ref a]/\(aQ K H a ys\/eE K H a ys)/\P ys:=⟨p,xs,rfl, .inl (aQ.of hp),h⟩
theorem B3{p:Addr}{xs:List V}{lo hi:Option Int}(hp:aQ K H p xs)(h:∀a,H a=none->Q (.ref a) (upd H a (.lst (jI xs lo hi)))):nJ K (.ref p) lo hi H Q:=⟨p,xs,rfl,hp,h⟩
theorem JC{a:Int}{P:Int->Prop}(h:P a):∃i,[V.int a]=[.int i]/\P i:=⟨a,rfl,h⟩
theorem XS{xs:List V}(h:xs.length<=10000)(q:∀p H',bx H H'->H p=none->H' p=some (.lst xs)->Q (.ref p) H'):v7 Q xs H:=
 ⟨Nat.le_trans h (by decide),fun p hp=>q p _ (bW hp) hp aU⟩
theorem Ep{c A B:Prop}[Decidable c](h:c)(q:A):if c then A else B:=by rw[if_pos h];exact q
theorem FL{c A B:Prop}[Decidable c](h:¬c)(q:B):if c then A else B:=by rw[if_neg h];exact q
theorem dT{c:Prop}[Decidable c](h:c):decide c=true:=decide_eq_true h
theorem dF{c:Prop}[Decidable c](h:¬c):¬decide c=true:=by rw[decide_eq_false h];exact Bool.false_ne_true
theorem CI{c:Prop}[Decidable c](h:¬c):(!decide c)=true:=by rw[decide_eq_false h];rfl
theorem Cp{c:Prop}[Decidable c](h:c):¬(!decide c)=true:=by rw[decide_eq_true h];decide
theorem Kv{t:TA}{R:It->Hp->Prop}(h:t σ H fun vs H1=>∃i j:Int,vs=[.int i, .int j]/\(-(2^62)<=i/\i<2^62/\ -(2^62)<=j/\j<2^62)/\R (gK i (j-i).toNat) H1):HL t σ H R:=h
theorem Xc{P:Int->Int->Prop}{a b:Int}(h1: -(2^62)<=a/\a<2^62/\ -(2^62)<=b/\b<2^62)(h:P a b):∃i j:Int,[V.int a,V.int b]=[.int i, .int j]/\(-(2^62)<=i/\i<2^62/\ -(2^62)<=j/\j<2^62)/\P i j:=⟨a,b,rfl,h1,h⟩
theorem iL{tl:TE}{R:It->Hp->Prop}(h:tl σ H fun x H1=>∃a,x= .ref a/\(∃xs,aQ K H1 a xs)/\R (mq K a) H1):nh K tl σ H R:=h
theorem qG{P:Addr->Prop}{p:Addr}{xs:List V}(hp:aQ K H p xs)(h:P p):∃a,V.ref p= .ref a/\(∃xs,aQ K H a xs)/\P a:=⟨p,rfl,⟨xs,hp⟩,h⟩
theorem RU{wi:TI}{g:TG}{tb:TS}(h:wi σ H fun J H1=>∃W:Nat->Nat->St->Hp->Prop,(∃m,W 0 m σ H1)/\∀i m σ H,W i m σ H->
 (J.stop i H/\D.nx σ H)\/(J.go i H/\∃N:St->Hp->Prop,(∀σ' H',N σ' H'->∃m',m'<m/\W (i+1) m' σ' H')/\∀x H',J.ki i H x H'->g x σ H' fun σ2 H2=>tb {D with nx:=N,ct:=N,bk:=D.nx} σ2 H2)):m9 wi g tb D σ H:=h
theorem comp{wi:TI}{g:TG}{tc:TT}{mp:List (Option Nat)}(h:wi σ H fun J H1=>∀acc,H1 acc=none->nU J g tc te acc (fun H'=>Q (.ref acc) H') (eH mp σ) (upd H1 acc (.lst []))):jE wi g tc te mp σ H Q:=h
end
theorem wV{lo:Int}{n:Nat}{g:TG}{tc:TT}{te:TE}{acc:Addr}{Qe:Hp->Prop}{σ:St}{H:Hp}(Pv:Nat->St->Hp->Prop)(h0:Pv 0 σ H)
  (hs:∀i σ H,i<n->Pv i σ H->g (.int (lo+i)) σ H fun σ2 H2=>tc σ2 H2 fun b H3=>if b=true then te σ2 H3 fun v H4=>∃ys,H4 acc=some (.lst ys)/\ys.length<sizeLine/\Pv (i+1) σ2 (upd H4 acc (.lst (ys++[v]))) else Pv (i+1) σ2 H3)
  (hd:∀σ H,Pv n σ H->Qe H):nU (gK lo n) g tc te acc Qe σ H:=by
 refine⟨fun i m σ H=>m=n-i/\i<=n/\Pv i σ H,⟨n,by simp,Nat.zero_le _,h0⟩,?_⟩
 rintro i m σ H ⟨rfl,hi,p⟩
 by_cases hlt:i<n
 ·refine .inr ⟨hlt,Pv (i+1),fun σ' H' p'=>⟨n-(i+1),by omega,rfl,hlt,p'⟩,fun x H' y=>?_⟩
  obtain⟨e,y⟩:=y
  subst e y
  exact hs i σ _ hlt p
 ·have e:i=n:=by omega
  subst e
  exact .inl ⟨Nat.le_refl _,hd σ H p⟩
theorem D5{K:PySem.W.Frag}{a:Addr}{xs:List V}{g:TG}{tc:TT}{te:TE}{acc:Addr}{Qe:Hp->Prop}{σ:St}{H:Hp}(Pv:Nat->St->Hp->Prop)(h0:Pv 0 σ H)(hl:∀i σ H,i<=xs.length->Pv i σ H->aQ K H a xs)
  (hs:∀i x σ H,xs[i]?=some x->Pv i σ H->g x σ H fun σ2 H2=>tc σ2 H2 fun b H3=>if b=true then te σ2 H3 fun v H4=>∃ys,H4 acc=some (.lst ys)/\ys.length<sizeLine/\Pv (i+1) σ2 (upd H4 acc (.lst (ys++[v]))) else Pv (i+1) σ2 H3)
  (hd:∀σ H,Pv xs.length σ H->Qe H):nU (mq K a) g tc te acc Qe σ H:=by
 refine⟨fun i m σ H=>m=xs.length-i/\i<=xs.length/\Pv i σ H,⟨xs.length,by simp,Nat.zero_le _,h0⟩,?_⟩
 rintro i m σ H ⟨rfl,hi,p⟩
 have q:=hl i σ H hi p
 by_cases hlt:i<xs.length
 ·refine .inr ⟨⟨xs,xs[i],q,by simp[hlt]⟩,Pv (i+1),fun σ' H' p'=>⟨xs.length-(i+1),by omega,rfl,hlt,p'⟩,fun x H' y=>?_⟩
  obtain⟨e,y⟩:=y
  subst e
  exact hs i x σ _ (y xs q) p
 ·have e:i=xs.length:=by omega
  subst e
  exact .inl ⟨⟨xs,q,Nat.le_refl _⟩,hd σ H p⟩
end R
end L2
set_option maxRecDepth 100000
set_option maxHeartbeats 1000000
namespace L2
open PySem PySem.Spec PyProof.Rows
@[reducible] def pairD(pr:Int×Int):PyData:= .tuple [.int pr.1, .int pr.2]
def cM:Option Int->PyData
 |none=> .none
 |some i=> .int i
def nu:Option Int->V
 |none=> .aE
 |some i=> .int i
def eO(wd:List (Option Int))(pr:Int×Int):Int:=match wd[pr.1.toNat]? with
 |some (some x)=>pr.2*x
 |_=>0
def aG(prs:List (Int×Int))(wd:List (Option Int)):Int:=(prs.map (eO wd)).sum
theorem Gd{prs:List (Int×Int)}{wd:List (Option Int)}{i:Nat}(h:i<prs.length):aG (prs.take (i+1)) wd=aG (prs.take i) wd+eO wd prs[i]:=by
 unfold aG
 rw[List.take_add_one,List.getElem?_eq_getElem h,List.map_append,List.sum_append]
 simp
theorem ZN{nb:Addr->Prop}{H:Hp}{o:Option Int}{v:V}(h:ah nb H (cM o) v):v=nu o:=by
 cases o with
 |none=>exact h.qL
 |some i=>exact h.bD
theorem uy{nb:Addr->Prop}{H:Hp}:∀{wd:List (Option Int)} {xs:List V},af nb H (wd.map cM) xs->xs=wd.map nu
  |[],_,h=>by unfold List.map af at h;exact h
  | o :: wd, _, h => by
    rw[List.map_cons] at h
    unfold af at h
    obtain⟨y,ys,rfl,h1,h2⟩:=h
    rw[List.map_cons,ZN h1,uy h2]
theorem HE{nb:Addr->Prop}{H:Hp}{pr:Int×Int}{v:V}(h:ah nb H (pairD pr) v):∃t,v= .ref t/\¬nb t/\H t=some (.tup [.int pr.1, .int pr.2]):=by
 obtain⟨t,xs,rfl,n,ht,hd⟩:=h.ofT
 unfold af at hd
 obtain⟨y,ys,rfl,h1,h2⟩:=hd
 unfold af at h2
 obtain⟨z,zs,rfl,h3,h4⟩:=h2
 unfold af at h4
 subst h4
 rw[h1.bD,h3.bD] at ht
 exact⟨t,rfl,n,ht⟩
def ua:Sp:=fun vs H Q _=>∃(nb:Addr->Prop) (p:Int) (va vc:V) (prs:List (Int×Int)) (wd:List (Option Int)),vs=[.int p,va,vc]/\ah nb H (.list (prs.map pairD)) va/\ah nb H (.list (wd.map cM)) vc/\0<p/\
 (∀pr∈prs,0<=pr.1/\pr.1<wd.length/\Sm pr.2)/\(∀x,some x∈wd->Sm x)/\Q (.int (aG prs wd%p)) H
theorem Xs(prs:List (Int×Int)):SeqAt.shaped (.list (prs.map pairD))=true/\PyData.depthAll (prs.map pairD)<=1/\PyData.canLayAll0 (prs.map pairD)=true:=by
 have h:PyData.depthAll (prs.map pairD)<=1/\PyData.canLayAll0 (prs.map pairD)=true:=by
  induction prs with
  |nil=>simp[PyData.depthAll,PyData.canLayAll0]
  |cons a r ih=>simp[pairD,PyData.depthAll,PyData.depth,PyData.canLayAll0,PyData.canLay0,ih.2];have:=ih.1;omega
 refine⟨?_,h⟩
 unfold SeqAt.shaped
 simp[PyData.canLay0,PyData.depth,h.2]
 omega
def tu(r:Int):Prop:=∀d:Int,2<=d->d*d<=r->r%d≠0
def qZ:List Int:=[2,3,5,7,2,11,101,10007,65537,1000003,998244353,1000000007,2147483647,1000000000039,1000000000000000003,18446744073709551557,2305843009213693951,618970019642690137449562111,162259276829213363391578010288127,170141183460469231731687303715884105727,1000000000000000000000000000000000000003,9999999999999999999999999999999999999983]
def DX(p:Int):Prop:=2<=p/\p<10^40/\(p∈qZ\/tu p)
def zJ:Sp:=fun vs H Q _=>∃n:Int,vs=[.int n]/\2<=n/\n<=10002/\∀(r:Int) (H':Hp),bx H H'->2<=r->r<=10100->tu r->Q (.int r) H'
def QB:Sp:=fun vs H Q _=>∃(b l:Addr),vs=[.ref b]/\cG H b l/\∀(p:Int) (H':Hp),DX p->aP (Nb b) H H'->cG H' b l->Q (.int p) H'
theorem pT{nb:Addr->Prop}{H:Hp}:∀is:List Int,af nb H (is.map PyData.int) (is.map V.int)
 |[]=>af.nil
 |i::is=>af.cons (.int i) (pT is)
theorem uf{nb:Addr->Prop}{H:Hp}:∀{is:List Int} {xs:List V},af nb H (is.map PyData.int) xs->xs=is.map V.int
  |[],_,h=>by unfold List.map af at h;exact h
  | i :: is, _, h => by
    rw[List.map_cons] at h
    unfold af at h
    obtain⟨y,ys,rfl,h1,h2⟩:=h
    rw[List.map_cons,h1.bD,uf h2]
end L2
set_option maxRecDepth 100000
set_option maxHeartbeats 1000000
namespace L2
open PySem PySem.Spec PyProof.Rows
abbrev Bg:=Option (Addr×Addr)
def NB(B:Bg)(a:Addr):Prop:=∀b l,B=some (b,l)->a≠b
def iC(B:Bg)(H:Hp):Prop:=∀b l,B=some (b,l)->cG H b l
inductive HD where
 |d (x:PyData)|fz (o:Obj) (ps:List (Key×V))
def dZ(S:Addr->Prop)(H:Hp):HD->V->Prop
 | .d x,v=>ah S H x v
 | .fz o ps,v=>∃a,v= .ref a/\¬S a/\H a=some (.fB o (.dK ps))
theorem dZ.keep{S:Addr->Prop}{H H':Hp}{x:HD}{v:V}(h:dZ S H x v)(b:aP S H H'):dZ S H' x v:=by
 cases x with
 |d x=>exact ah.keep b h
 |fz o ps=>obtain⟨a,e,n,q⟩:=h;exact⟨a,e,n,b _ _ n q⟩
theorem dZ.av{S S':Addr->Prop}{H:Hp}{x:HD}{v:V}(h:dZ S H x v)(b:∀a,S' a->S a):dZ S' H x v:=by
 cases x with
 |d x=>exact ah.av b h
 |fz o ps=>obtain⟨a,e,n,q⟩:=h;exact⟨a,e,fun z=>n (b a z),q⟩
theorem dZ.fresh{S:Addr->Prop}{H:Hp}{x:HD}{v:V}{p:Addr}(h:dZ S H x v)(hp:H p=none):dZ (fun a=>S a\/a=p) H x v:=by
 cases x with
 |d x=>exact ah.fresh hp h
 |fz o ps=>obtain⟨a,e,n,q⟩:=h;exact⟨a,e,fun z=>z.elim n (fO q hp),q⟩
structure Gx where
 B:Bg
 H0:Hp
 A:Addr->Prop
 hold:List (Bool×HD×V):=[]
def jd(nb:Addr->Prop)(H:Hp):Prop:=∀a,nb a->H a≠none
structure Kp(S:Addr->Prop)(F:List Addr)(H H':Hp):Prop where
 own:∀a∈F,∀o,H a=some o->H' a=some o
 lst:∀a xs,¬S a->H a=some (.lst xs)->H' a=some (.lst xs)
 tup:∀a xs,¬S a->H a=some (.tup xs)->H' a=some (.tup xs)
 aX:∀a ps,¬S a->Rd H a (.dK ps)->Rd H' a (.dK ps)
theorem Kp.of{S:Addr->Prop}{F:List Addr}{H H':Hp}(h:∀a o,(¬S a\/a∈F)->H a=some o->H' a=some o):Kp S F H H':=
 ⟨fun a ha o e=>h a o (.inr ha) e,fun a xs n e=>h a _ (.inl n) e,fun a xs n e=>h a _ (.inl n) e,fun a ps n e=>e.elim (fun e=> .inl (h a _ (.inl n) e)) fun⟨o,e⟩=> .inr ⟨o,h a _ (.inl n) e⟩⟩
mutual
theorem ah.kp{S:Addr->Prop}{F:List Addr}{H H':Hp}(m:Kp S F H H'):∀{d:PyData} {v:V},ah S H d v->ah S H' d v
 | .none,_,h=>by unfold ah at h⊢;exact h
 | .bool _,_,h=>by unfold ah at h⊢;exact h
 | .int _,_,h=>by unfold ah at h⊢;exact h
 | .str _,_,h=>by unfold ah at h⊢;exact h
 | .list ds,_,h=>by unfold ah at h⊢;obtain⟨a,xs,e,n,s,r⟩:=h;exact⟨a,xs,e,n,m.lst _ _ n s,af.kp m r⟩
 | .tuple ds,_,h=>by unfold ah at h⊢;obtain⟨a,xs,e,n,s,r⟩:=h;exact⟨a,xs,e,n,m.tup _ _ n s,af.kp m r⟩
 | .dict kvs,_,h=>by unfold ah at h⊢;obtain⟨a,xs,e,n,s,r⟩:=h;exact⟨a,xs,e,n,m.aX _ _ n s,au.kp m r⟩
theorem af.kp{S:Addr->Prop}{F:List Addr}{H H':Hp}(m:Kp S F H H'):∀{ds:List PyData} {vs:List V},af S H ds vs->af S H' ds vs
 |[],_,h=>by unfold af at h⊢;exact h
 |d::ds,_,h=>by unfold af at h⊢;obtain⟨y,ys,e,h1,h2⟩:=h;exact⟨y,ys,e,ah.kp m h1,af.kp m h2⟩
theorem au.kp{S:Addr->Prop}{F:List Addr}{H H':Hp}(m:Kp S F H H'):∀{ds:List (PyData×PyData)} {vs:List (Key×V)},au S H ds vs->au S H' ds vs
 |[],_,h=>by unfold au at h⊢;exact h
 |d::ds,_,h=>by unfold au at h⊢;obtain⟨y,ys,e,h1,h2⟩:=h;exact⟨y,ys,e,cC.kp m h1,au.kp m h2⟩
theorem cC.kp{S:Addr->Prop}{F:List Addr}{H H':Hp}(m:Kp S F H H'):∀{d:PyData×PyData} {v:Key×V},cC S H d v->cC S H' d v
 |(k,d),_,h=>by unfold cC at h⊢;exact⟨h.1,ah.kp m h.2⟩
end
structure Cu where
 v:V
 F:List Addr
 f:Bool
 P:(Addr->Prop)->Hp->Prop
 keep:∀{S:Addr->Prop} {H H':Hp},Kp S F H H'->P S H->P S H'
 av:∀{S S':Addr->Prop} {H:Hp},(∀a,S' a->S a)->P S H->P S' H
 fresh:∀{S:Addr->Prop} {H:Hp} {p:Addr},H p=none->P S H->P (fun a=>S a\/a=p) H
inductive Sl where
 |no|d (f:Bool) (d:PyData)|own (a:Addr) (f:Bool) (ds:List PyData)|aA|raw (v:V)|aX (a:Addr) (f:Bool) (ks:List (Int×PyData))|cu (c:Cu)
def Sl.adr:Sl->List Addr
 | .own a _ _=>[a]
 | .aX a _ _=>[a]
 | .cu c=>c.F
 |_=>[]
@[reducible] def bY(p:Int×PyData):PyData×PyData:=(.int p.1,p.2)
abbrev Rh:=List Sl
def Gx.S(G:Gx)(nb:Addr->Prop)(f:Bool):Addr->Prop:=fun a=>nb a\/G.A a\/¬NB G.B a\/(f=true/\G.H0 a≠none)
def kJ(G:Gx)(nb:Addr->Prop)(H:Hp)(x:Option V):Sl->Prop
 | .no=>True
 | .d f d=>∃v,x=some v/\ah (G.S nb f) H d v
 | .own a f ds=>x=some (.ref a)/\nb a/\NB G.B a/\∃xs,H a=some (.lst xs)/\af (G.S nb f) H ds xs
 | .aA=>∃b l,G.B=some (b,l)/\x=some (.ref b)
 | .raw v=>x=some v
 | .aX a f ks=>x=some (.ref a)/\nb a/\NB G.B a/\∃ps,H a=some (.dK ps)/\au (G.S nb f) H (ks.map bY) ps
 | .cu c=>x=some c.v/\(∀a∈c.F,nb a/\NB G.B a)/\c.P (G.S nb c.f) H
structure Wd(G:Gx)(nb:Addr->Prop)(ρ:Rh)(σ:St)(H:Hp):Prop where
 aA:iC G.B H
 live:jd nb H
 old:∀a o,NB G.B a->G.H0 a=some o->H a=some o
 cR:∀a,nb a->NB G.B a->G.H0 a=none
 gA:jd G.A G.H0
 len:σ.length=ρ.length
 gB:iC G.B G.H0
 eW:∀h∈G.hold,dZ (G.S nb h.1) H h.2.1 h.2.2
 ok:∀(i:Nat) (s:Sl),ρ[i]?=some s->∃x,σ[i]?=some x/\kJ G nb H x s
 apart:∀(i j:Nat) a f as c g cs,i≠j->ρ[i]?=some (.own a f as)->ρ[j]?=some (.own c g cs)->a≠c
 dY:∀(i j:Nat) a f as c g cs,i≠j->ρ[i]?=some (.aX a f as)->ρ[j]?=some (.aX c g cs)->a≠c
 dh:∀(i j:Nat) c s,i≠j->ρ[i]?=some (.cu c)->ρ[j]?=some s->∀a∈c.F,a∉s.adr
def Step(B:Bg)(H H':Hp):Prop:=(∀a o,NB B a->H a=some o->H' a=some o)/\iC B H'
section
variable{G:Gx}{B:Bg}{nb:Addr->Prop}{ρ:Rh}{σ:St}{H H1 H2 H':Hp}{f g:Bool}{d:PyData}{ds:List PyData}{v:V}{xs:List V}{a p:Addr}
theorem Step.refl(h:iC B H):Step B H H:=⟨fun _ _ _ e=>e,h⟩
theorem Step.trans(x:Step B H H1)(y:Step B H1 H2):Step B H H2:=⟨fun a o n e=>y.1 a o n (x.1 a o n e),y.2⟩
theorem iC.same(h:iC B H)(s:bx H H'):iC B H':=fun b l e=>(h b l e).same s
theorem Step.same(h:iC B H)(s:bx H H'):Step B H H':=⟨fun a o _ e=>s a o e,h.same s⟩
theorem Step.but{aM:Addr->Prop}(s:Step B H H')(h:∀a,¬NB B a->aM a):aP aM H H':=fun a o n e=>s.1 a o (Classical.byContradiction fun z=>n (h a z)) e
theorem Step.cH(s:Step G.B H H'):aP (G.S nb f) H H':=s.but fun a h=> .inr (.inr (.inl h))
theorem bU(h:g=true->f=true){aM:Addr->Prop}(hn:∀a,nb a->aM a):∀a,G.S nb g a->G.S aM f a:=by
 intro a z
 rcases z with z|z|z|⟨z,q⟩
 ·exact .inl (hn a z)
 ·exact .inr (.inl z)
 ·exact .inr (.inr (.inl z))
 ·exact .inr (.inr (.inr ⟨h z,q⟩))
theorem NB.j8(h:iC B H)(n:¬NB B a):H a≠none:=by
 intro e
 apply n
 intro b l hb z
 subst z
 obtain⟨_,_,_,_,_,h1,_⟩:=h _ _ hb
 rw[h1] at e;cases e
theorem Wd.fJ(W:Wd G nb ρ σ H):jd (G.S nb f) H:=by
 intro a z
 rcases z with z|z|z|⟨_,z⟩
 ·exact W.live a z
 ·by_cases n:NB G.B a
  ·cases e:G.H0 a with
   |none=>exact absurd e (W.gA a z)
   |some o=>rw[W.old a o n e];exact Option.some_ne_none _
  ·exact NB.j8 W.aA n
 ·exact NB.j8 W.aA z
 ·by_cases n:NB G.B a
  ·cases e:G.H0 a with
   |none=>exact absurd e z
   |some o=>rw[W.old a o n e];exact Option.some_ne_none _
  ·exact NB.j8 W.aA n
theorem Wd.fresh(W:Wd G nb ρ σ H)(hp:H p=none):¬G.S nb f p:=fun z=>W.fJ p z hp
theorem kJ.step{x:Option V}{s:Sl}(st:Step G.B H H')(h:kJ G nb H x s):kJ G nb H' x s:=by
  cases s with
  |no=>trivial
  |d f d=>obtain⟨v,e,h⟩:=h;exact⟨v,e,h.keep st.cH⟩
  |own a f ds=>obtain⟨e,n,q,xs,hx,hd⟩:=h;exact⟨e,n,q,xs,st.1 _ _ q hx,hd.keep st.cH⟩
  |aA=>exact h
  |raw v=>exact h
  |aX a f ks=>obtain⟨e,n,q,xs,hx,hd⟩:=h;exact⟨e,n,q,xs,st.1 _ _ q hx,hd.keep st.cH⟩
  | cu c =>
    obtain⟨e,n,p⟩:=h
    refine⟨e,n,c.keep (.of fun a o ha e=>st.1 a o ?_ e) p⟩
    rcases ha with ha|ha
    · exact Classical.byContradiction fun z=>ha (.inr (.inr (.inl z)))
    · exact(n a ha).2
theorem Rb(n:NB B a)(st:Step B H H')(h:H a≠none):H' a≠none:=by
 cases e:H a with
 |none=>exact absurd e h
 |some o=>rw[st.1 a o n e];exact Option.some_ne_none _
theorem Wd.step(W:Wd G nb ρ σ H)(st:Step G.B H H'):Wd G nb ρ σ H' where
 aA:=st.2
 live:=fun a n=>by
  by_cases q:NB G.B a
  ·exact Rb q st (W.live a n)
  ·exact NB.j8 st.2 q
 old:=fun a o n e=>st.1 a o n (W.old a o n e)
 cR:=W.cR
 gA:=W.gA
 len:=W.len
 gB:=W.gB
 eW:=fun h m=>(W.eW h m).keep st.cH
 ok:=fun i s e=>by
  obtain⟨x,e1,h⟩:=W.ok i s e
  exact⟨x,e1,h.step st⟩
 apart:=W.apart
 dY:=W.dY
 dh:=W.dh
theorem Wd.set{i:Nat}{s:Sl}{x:Option V}(W:Wd G nb ρ σ H)(h:kJ G nb H x s)(hs:∀a f ds,s= .own a f ds->∀j c g cs,j≠i->ρ[j]?=some (.own c g cs)->a≠c)(hd:∀a f ds,s= .aX a f ds->∀j c g cs,j≠i->ρ[j]?=some (.aX c g cs)->a≠c:=by intro _ _ _ z;cases z)(hcu:∀a∈s.adr,∀j t,j≠i->ρ[j]?=some t->(∃c,s= .cu c)\/(∃c,t= .cu c)->a∉t.adr:=by intro _ z;cases z):Wd G nb (ρ.set i s) (σ.set i x) H where
 aA:=W.aA
 live:=W.live
 old:=W.old
 cR:=W.cR
 gA:=W.gA
 len:=by rw[List.length_set,List.length_set];exact W.len
 gB:=W.gB
 eW:=W.eW
 ok:=fun j t e=>by
  by_cases hij:i=j
  ·subst hij
   have hl:i<ρ.length:=by have:=(List.getElem?_eq_some_iff.mp e).1;rwa[List.length_set] at this
   rw[List.getElem?_set_self hl] at e
   cases e
   exact⟨x,List.getElem?_set_self (by rw[W.len];exact hl),h⟩
  ·rw[List.getElem?_set_ne hij] at e⊢
   exact W.ok j t e
 apart:=fun j k a f as c g cs hjk e1 e2=>by
  by_cases hj:i=j
  ·subst hj
   have hl:i<ρ.length:=by have:=(List.getElem?_eq_some_iff.mp e1).1;rwa[List.length_set] at this
   rw[List.getElem?_set_self hl] at e1
   cases e1
   rw[List.getElem?_set_ne hjk] at e2
   exact hs a f as rfl k c g cs (Ne.symm hjk) e2
  ·by_cases hk:i=k
   ·subst hk
    have hl:i<ρ.length:=by have:=(List.getElem?_eq_some_iff.mp e2).1;rwa[List.length_set] at this
    rw[List.getElem?_set_self hl] at e2
    cases e2
    rw[List.getElem?_set_ne hj] at e1
    exact(hs c g cs rfl j a f as hjk e1).symm
   ·rw[List.getElem?_set_ne hj] at e1
    rw[List.getElem?_set_ne hk] at e2
    exact W.apart j k a f as c g cs hjk e1 e2
 dY:=fun j k a f as c g cs hjk e1 e2=>by
  by_cases hj:i=j
  ·subst hj
   have hl:i<ρ.length:=by have:=(List.getElem?_eq_some_iff.mp e1).1;rwa[List.length_set] at this
   rw[List.getElem?_set_self hl] at e1
   cases e1
   rw[List.getElem?_set_ne hjk] at e2
   exact hd a f as rfl k c g cs (Ne.symm hjk) e2
  ·by_cases hk:i=k
   ·subst hk
    have hl:i<ρ.length:=by have:=(List.getElem?_eq_some_iff.mp e2).1;rwa[List.length_set] at this
    rw[List.getElem?_set_self hl] at e2
    cases e2
    rw[List.getElem?_set_ne hj] at e1
    exact(hd c g cs rfl j a f as hjk e1).symm
   ·rw[List.getElem?_set_ne hj] at e1
    rw[List.getElem?_set_ne hk] at e2
    exact W.dY j k a f as c g cs hjk e1 e2
 dh:=fun j k c t hjk e1 e2 a ha=>by
  by_cases hj:i=j
  ·subst hj
   have hl:i<ρ.length:=by have:=(List.getElem?_eq_some_iff.mp e1).1;rwa[List.length_set] at this
   rw[List.getElem?_set_self hl] at e1
   cases e1
   rw[List.getElem?_set_ne hjk] at e2
   exact hcu a ha k t (Ne.symm hjk) e2 (.inl ⟨c,rfl⟩)
  ·by_cases hk:i=k
   ·subst hk
    have hl:i<ρ.length:=by have:=(List.getElem?_eq_some_iff.mp e2).1;rwa[List.length_set] at this
    rw[List.getElem?_set_self hl] at e2
    cases e2
    rw[List.getElem?_set_ne hj] at e1
    exact fun z=>hcu a z j (.cu c) hjk e1 (.inr ⟨c,rfl⟩) ha
   ·rw[List.getElem?_set_ne hj] at e1
    rw[List.getElem?_set_ne hk] at e2
    exact W.dh j k c t hjk e1 e2 a ha
theorem Wd.lu{i:Nat}(W:Wd G nb ρ σ H)(h:ah (G.S nb f) H d v):Wd G nb (ρ.set i (.d f d)) (σ.set i (some v)) H:=W.set ⟨v,rfl,h⟩ fun _ _ _ e=>by cases e
inductive Wk:Rh->Rh->Prop
 |nil:Wk [] []
 |no {s:Sl} {r r':Rh} (h:Wk r r'):Wk (.no::r) (s::r')
 |eq {s:Sl} {r r':Rh} (h:Wk r r'):Wk (s::r) (s::r')
theorem Wk.at:∀{r r':Rh} {i:Nat} {s:Sl},Wk r r'->r[i]?=some s->s= .no/\(∃t,r'[i]?=some t)\/r'[i]?=some s
 |_,_,_,_, .nil,e=>by simp at e
 |_,_,0,_, .no h,e=>by simp at e;subst e;exact .inl ⟨rfl,_,rfl⟩
 |_,_,0,_, .eq h,e=>by simp at e;subst e;exact .inr rfl
 |_,_,i+1,_, .no h,e=>by simpa using Wk.at (i:=i) h (by simpa using e)
 |_,_,i+1,_, .eq h,e=>by simpa using Wk.at (i:=i) h (by simpa using e)
theorem Wk.len{r r':Rh}(h:Wk r r'):r.length=r'.length:=by
 induction h with
 |nil=>rfl
 |no _ ih=>simp[ih]
 |eq _ ih=>simp[ih]
theorem Wd.wk{ρ':Rh}(W:Wd G nb ρ' σ H)(h:Wk ρ ρ'):Wd G nb ρ σ H where
 aA:=W.aA
 live:=W.live
 old:=W.old
 cR:=W.cR
 gA:=W.gA
 len:=by rw[h.len];exact W.len
 gB:=W.gB
 eW:=W.eW
 ok:=fun i s e=>by
  rcases h.at e with ⟨rfl,t,e'⟩|e'
  ·obtain⟨x,e1,_⟩:=W.ok i t e';exact⟨x,e1,trivial⟩
  ·exact W.ok i s e'
 apart:=fun i j a f as c g cs hij e1 e2=>by
  rcases h.at e1 with ⟨z,_⟩|jJ
  ·cases z
  rcases h.at e2 with ⟨z,_⟩|e2'
  ·cases z
  exact W.apart i j a f as c g cs hij jJ e2'
 dY:=fun i j a f as c g cs hij e1 e2=>by
  rcases h.at e1 with ⟨z,_⟩|jJ
  ·cases z
  rcases h.at e2 with ⟨z,_⟩|e2'
  ·cases z
  exact W.dY i j a f as c g cs hij jJ e2'
 dh:=fun i j c s hij e1 e2 a ha=>by
  rcases h.at e1 with ⟨z,_⟩|jJ
  ·cases z
  rcases h.at e2 with ⟨z,_⟩|e2'
  ·subst z;exact fun z=>by cases z
  exact W.dh i j c s hij jJ e2' a ha
theorem Wd.more(W:Wd G nb ρ σ H)(hp:H p=none){o:HO}:Wd G (fun a=>nb a\/a=p) ρ σ (upd H p o):=by
 have hS:bx H (upd H p o):=bW hp
 have hN:NB G.B p:=fun b l e z=>by
  subst z
  obtain⟨_,_,_,_,_,h1,_⟩:=W.aA _ _ e
  rw[h1] at hp;cases hp
 have W':=W.step (Step.same W.aA hS)
 have hA:∀f a,G.S (fun a=>nb a\/a=p) f a->(G.S nb f a\/a=p):=fun f a z=>by
  rcases z with (z|z)|z|z|z
  ·exact .inl (.inl z)
  ·exact .inr z
  ·exact .inl (.inr (.inl z))
  ·exact .inl (.inr (.inr (.inl z)))
  ·exact .inl (.inr (.inr (.inr z)))
 refine⟨W'.aA,fun a n=>?_,W'.old,fun a n q=>?_,W.gA,W.len,W.gB,fun h m=>(((W.eW h m).fresh hp).av (hA h.1)).keep (aP.of hS),fun i s e=>?_,W.apart,W.dY,W.dh⟩
 ·rcases n with n|n
  ·exact W'.live a n
  ·subst n;rw[aU];exact Option.some_ne_none _
 ·rcases n with n|n
  ·exact W.cR a n q
  ·subst n
   cases e:G.H0 a with
   |none=>rfl
   |some o=>rw[W.old a o q e] at hp;cases hp
 ·obtain⟨x,e1,h⟩:=W.ok i s e
  refine⟨x,e1,?_⟩
  cases s with
  |no=>trivial
  |d f d=>obtain⟨v,e,h⟩:=h;exact⟨v,e,((h.fresh hp).av (hA f)).keep (aP.of hS)⟩
  |own a f ds=>obtain⟨e,n,q,xs,hx,hd⟩:=h;exact⟨e, .inl n,q,xs,hS _ _ hx,((hd.fresh hp).av (hA f)).keep (aP.of hS)⟩
  |aA=>exact h
  |raw v=>exact h
  |aX a f ds=>obtain⟨e,n,q,xs,hx,hd⟩:=h;exact⟨e, .inl n,q,xs,hS _ _ hx,((hd.fresh hp).av (hA f)).keep (aP.of hS)⟩
  |cu c=>obtain⟨e,n,q⟩:=h;exact⟨e,fun a ha=>⟨.inl (n a ha).1,(n a ha).2⟩,c.keep (.of fun a o _ e=>hS a o e) (c.av (hA c.f) (c.fresh hp q))⟩
theorem Wd.write(W:Wd G nb ρ σ H){o:HO}(hp:nb p)(hN:NB G.B p)(ho:∀(i:Nat) a f ds,ρ[i]?=some (.own a f ds)->a≠p)(hod:∀(i:Nat) a f ds,ρ[i]?=some (.aX a f ds)->a≠p)(hoc:∀(i:Nat) c,ρ[i]?=some (.cu c)->p∉c.F):Wd G nb ρ σ (upd H p o):=by
  have hl:∀b l,G.B=some (b,l)->p≠l:=fun b l e z=>by
    obtain⟨_,_,_,_,_,_,h2,_⟩:=W.gB b l e
    rw[<-z,W.cR p hp hN] at h2;cases h2
  have hB:iC G.B (upd H p o):=fun b l e=>(W.aA b l e).put2 ⟨hN b l e,hl b l e⟩
  have bt:∀f,aP (G.S nb f) H (upd H p o):=fun f=>aP.set (.inl hp)
  refine⟨hB,fun a n=>?_,fun a o' n e=>?_,W.cR,W.gA,W.len,W.gB,fun h m=>(W.eW h m).keep (bt h.1),fun i s e=>?_,W.apart,W.dY,W.dh⟩
  · by_cases z:a=p
    · subst z;rw[aU];exact Option.some_ne_none _
    · rw[aN z];exact W.live a n
  · have z:a≠p:=fun z=>by subst z;rw[W.cR a hp n] at e;cases e
    rw[aN z];exact W.old a o' n e
  · obtain⟨x,e1,h⟩:=W.ok i s e
    refine⟨x,e1,?_⟩
    cases s with
    |no=>trivial
    |d f d=>obtain⟨v,e,h⟩:=h;exact⟨v,e,h.keep (bt f)⟩
    |own a f ds=>obtain⟨e',n,q,xs,hx,hd⟩:=h;exact⟨e',n,q,xs,by rw[aN (ho i a f ds e)];exact hx,hd.keep (bt f)⟩
    |aA=>exact h
    |raw v=>exact h
    |aX a f ds=>obtain⟨e',n,q,xs,hx,hd⟩:=h;exact⟨e',n,q,xs,by rw[aN (hod i a f ds e)];exact hx,hd.keep (bt f)⟩
    | cu c =>
      obtain⟨e',n,q⟩:=h
      refine⟨e',n,c.keep (.of fun a o' ha e''=>?_) q⟩
      rw[aN]
      · exact e''
      · rintro rfl
        rcases ha with ha|ha
        · exact ha (.inl hp)
        · exact hoc i c e ha
end
end L2
set_option maxRecDepth 100000
set_option maxHeartbeats 1000000
namespace L2
open PySem PySem.Spec PyProof.Rows
abbrev Pd:=Bool->PyData->Prop
def Ev(G:Gx)(ρ:Rh)(te:TE)(Φ:Pd):Prop:=∀nb σ H (Q:VK),Wd G nb ρ σ H->(∀f v H' d,Φ f d->Step G.B H H'->ah (G.S nb f) H' d v->Q v H')->te σ H Q
def ay(G:Gx)(ρ:Rh)(te:TE)(Φ:Bool->List PyData->Prop):Prop:=∀nb σ H (Q:VK),Wd G nb ρ σ H->
 (∀f a xs H' ds,Φ f ds->Step G.B H H'->H a=none->H' a=some (.lst xs)->af (fun x=>G.S nb f x\/x=a) H' ds xs->Q (.ref a) H')->te σ H Q
def Tv(G:Gx)(ρ:Rh)(tt:TT)(Φ:Bool->Prop):Prop:=∀nb σ H (Q:Bool->Hp->Prop),Wd G nb ρ σ H->(∀b H',Φ b->Step G.B H H'->Q b H')->tt σ H Q
def Ov(G:Gx)(ρ:Rh)(to:TO)(Φ:Option Int->Prop):Prop:=∀nb σ H (Q:Option Int->Hp->Prop),Wd G nb ρ σ H->(∀o H',Φ o->Step G.B H H'->Q o H')->to σ H Q
abbrev Fd:=Bool×PyData
def iw(G:Gx)(nb:Addr->Prop)(H:Hp):List Fd->List V->Prop
 |[],vs=>vs=[]
 |e::es,vs=>∃v ws,vs=v::ws/\ah (G.S nb e.1) H e.2 v/\iw G nb H es ws
def Av(G:Gx)(ρ:Rh)(ta:TA)(Φ:List Fd->Prop):Prop:=∀nb σ H (Q:List V->Hp->Prop),Wd G nb ρ σ H->(∀es vs H',Φ es->Step G.B H H'->iw G nb H' es vs->Q vs H')->ta σ H Q
def Gv(G:Gx)(ρ:Rh)(g:TG)(f:Bool)(d:PyData)(Φ:Rh->Prop):Prop:=∀nb σ H v (Q:St->Hp->Prop),Wd G nb ρ σ H->ah (G.S nb f) H d v->(∀σ' ρ',Φ ρ'->Wd G nb ρ' σ' H->Q σ' H)->g v σ H Q
def jO(G:Gx)(ρ:Rh)(g:fN)(f:Bool)(ds:List PyData)(Φ:Rh->Prop):Prop:=∀nb σ H vs (Q:St->Hp->Prop),Wd G nb ρ σ H->af (G.S nb f) H ds vs->(∀σ' ρ',Φ ρ'->Wd G nb ρ' σ' H->Q σ' H)->g vs σ H Q
structure DE where
 nx:Rh->Prop
 rt:Pd
 bk:Rh->Prop:=fun _=>False
 ct:Rh->Prop:=fun _=>False
 rw:(Addr->Prop)->Rh->V->Hp->Prop:=fun _ _ _ _=>False
structure ze(G:Gx)(E:DE)(D:Ends):Prop where
 nx:∀nb ρ σ H,E.nx ρ->Wd G nb ρ σ H->D.nx σ H
 bk:∀nb ρ σ H,E.bk ρ->Wd G nb ρ σ H->D.bk σ H
 ct:∀nb ρ σ H,E.ct ρ->Wd G nb ρ σ H->D.ct σ H
 rt:∀nb ρ σ f v H d,E.rt f d->Wd G nb ρ σ H->ah (G.S (fun _=>False) f) H d v->D.rt v H
 rw:∀nb ρ σ v H,E.rw nb ρ v H->Wd G nb ρ σ H->D.rt v H
def Sv(G:Gx)(ρ:Rh)(ts:TS)(E:DE):Prop:=∀nb σ H D,Wd G nb ρ σ H->ze G E D->ts D σ H
def gQ:PyData->Bool
 | .none=>true| .bool _=>true| .int _=>true| .str _=>true|_=>false
def toV:PyData->V
 | .bool b=> .bl b| .int i=> .int i| .str x=> .str x|_=> .aE
section
variable{nb aM:Addr->Prop}{H H':Hp}{d e:PyData}{v:V}
theorem ah.sc(h:gQ d=true):ah nb H d (toV d):=by
 cases d<;>first|(cases h;done)|(unfold ah;rfl)
theorem ah.Zt(h:gQ d=true)(q:ah nb H d v):v=toV d:=by
 cases d<;>first|(cases h;done)|(unfold ah at q;exact q)
theorem ah.i9(h:gQ d=true)(q:ah nb H d v):ah aM H' d v:=by
 rw[q.Zt h];exact .sc h
theorem af.i9:∀{ds:List PyData} {xs:List V},ds.all gQ=true->af nb H ds xs->af aM H' ds xs
  |[],_,_,q=>by unfold af at q⊢;exact q
  | d :: ds, _, h, q => by
    rw[List.all_cons,Bool.and_eq_true] at h
    unfold af at q⊢
    obtain⟨y,ys,e,h1,h2⟩:=q
    exact⟨y,ys,e,h1.i9 h.1,af.i9 h.2 h2⟩
end
section
variable{G:Gx}{ρ:Rh}{Φ Ψ:Pd}{ta tb te:TE}{t:TA}{i:Nat}{f g:Bool}{d e:PyData}{ds es:List PyData}{K:PySem.W.Frag}
theorem Ev.mono(h:Ev G ρ te Ψ)(q:∀f d,Ψ f d->Φ f d):Ev G ρ te Φ:=fun nb σ H Q W z=>h nb σ H Q W fun f v H' d p=>z f v H' d (q f d p)
theorem ay.ev(h:ay G ρ te fun f ds=>Φ f (.list ds)):Ev G ρ te Φ:=fun nb σ H Q W z=>h nb σ H Q W fun f a xs H' ds p st n e hd=>
 z f _ H' _ p st (.lst (W.fresh n) e (hd.av fun _ x=> .inl x))
namespace Ev
theorem var(e:ρ[i]?=some (.d f d))(h:Φ f d):Ev G ρ (bq i) Φ:=fun nb σ H Q W z=>by
 obtain⟨x,e1,v,rfl,hd⟩:=W.ok i _ e
 exact⟨v,e1,z f v H d h (.refl W.aA) hd⟩
theorem int{n:Int}(h:Φ true (.int n)):Ev G ρ (tC (.int n)) Φ:=fun nb σ H Q W z=>z true _ H _ h (.refl W.aA) (.int n)
theorem bl{b:Bool}(h:Φ true (.bool b)):Ev G ρ (tC (.bl b)) Φ:=fun nb σ H Q W z=>z true _ H _ h (.refl W.aA) (.bl b)
theorem aE(h:Φ true .none):Ev G ρ (tC .aE) Φ:=fun nb σ H Q W z=>z true _ H _ h (.refl W.aA) .aE
theorem iD{r:R2}(h:Ev G ρ ta fun f x=>Ev G ρ tb fun g y=>∀nb σ H u v (Q:VK),Wd G nb ρ σ H->ah (G.S nb f) H x u->ah (G.S nb g) H y v->(∀f w H' d,Φ f d->Step G.B H H'->ah (G.S nb f) H' d w->Q w H')->r u v H Q):Ev G ρ (bX r ta tb) Φ:=fun nb σ H Q W z=>
 h nb σ H _ W fun f v1 H1 d1 p1 s1 q1=>p1 nb σ H1 _ (W.step s1) fun g v2 H2 d2 p2 s2 q2=>p2 nb σ H2 _ _ _ ((W.step s1).step s2) (q1.keep s2.cH) q2 fun f w H' d p st q=>z f w H' d p (s1.trans (s2.trans st)) q
theorem rI{C:Int->Int->Prop}{k:Int->Int->Int}(h:Ev G ρ ta fun _ x=>∃i,x= .int i/\Ev G ρ tb fun _ y=>∃j,y= .int j/\C i j/\Φ true (.int (k i j))):Ev G ρ (bX (L2.rI C fun i j=> .int (k i j)) ta tb) Φ:=
 iD (h.mono fun f x ⟨i,ex,q⟩=>q.mono fun g y ⟨j,ey,hc,p⟩ nb σ H u v Q W hu hv z=>by
  subst ex ey;exact⟨i,j,hu.bD,hv.bD,hc,z true _ H _ p (.refl W.aA) (.int _)⟩)
theorem fX{k:Int->Int->Int}(h:Ev G ρ ta fun _ x=>∃i,x= .int i/\Ev G ρ tb fun _ y=>∃j,y= .int j/\Φ true (.int (k i j))):Ev G ρ (bX (L2.fX fun i j=> .int (k i j)) ta tb) Φ:=
 iD (h.mono fun f x ⟨i,ex,q⟩=>q.mono fun g y ⟨j,ey,p⟩ nb σ H u v Q W hu hv z=>by
  subst ex ey;exact⟨i,j,hu.bD,hv.bD,z true _ H _ p (.refl W.aA) (.int _)⟩)
theorem EH{k:Int->Int->Bool}(h:Ev G ρ ta fun _ x=>∃i,x= .int i/\Ev G ρ tb fun _ y=>∃j,y= .int j/\Φ true (.bool (k i j))):Ev G ρ (bX (L2.fX fun i j=> .bl (k i j)) ta tb) Φ:=
 iD (h.mono fun f x ⟨i,ex,q⟩=>q.mono fun g y ⟨j,ey,p⟩ nb σ H u v Q W hu hv z=>by
  subst ex ey;exact⟨i,j,hu.bD,hv.bD,z true _ H _ p (.refl W.aA) (.bl _)⟩)
theorem un{r:V->Hp->VK->Prop}(h:Ev G ρ ta fun f x=>∀nb σ H u (Q:VK),Wd G nb ρ σ H->ah (G.S nb f) H x u->(∀f w H' d,Φ f d->Step G.B H H'->ah (G.S nb f) H' d w->Q w H')->r u H Q):Ev G ρ (yR r ta) Φ:=fun nb σ H Q W z=>
 h nb σ H _ W fun f v1 H1 d1 p1 s1 q1=>p1 nb σ H1 _ _ (W.step s1) q1 fun f w H' d p st q=>z f w H' d p (s1.trans st) q
theorem rU{k:Int->Int}(h:Ev G ρ ta fun _ x=>∃i,x= .int i/\Φ true (.int (k i))):Ev G ρ (yR (L2.rU fun i=> .int (k i)) ta) Φ:=
 un (h.mono fun f x ⟨i,ex,p⟩ nb σ H u Q W hu z=>by subst ex;exact⟨i,hu.bD,z true _ H _ p (.refl W.aA) (.int _)⟩)
end Ev
inductive fF:PyData->PyData->Bool->Prop
 |ii (i j:Int):fF (.int i) (.int j) (decide (i=j))
 |ni (i:Int):fF .none (.int i) false
 |i_n (i:Int):fF (.int i) .none false
 |nn:fF .none .none true
 |bb (a b:Bool):fF (.bool a) (.bool b) (a==b)
 |ss (x:Str):fF (.str x) (.str x) true
 |sd (x y:Str):fF (.str x) (.str y) (decide (x=y))
theorem fF.v{nb aM:Addr->Prop}{H:Hp}{x y:PyData}{b:Bool}{u v:V}(h:fF x y b)(hu:ah nb H x u)(hv:ah aM H y v):zy u v=true/\decide (u=v)=b:=by
 cases h<;>(unfold ah at hu hv;subst hu hv;refine⟨rfl,?_⟩)
 ·exact R.wW
 ·rfl
 ·rfl
 ·rfl
 ·rename_i a b;cases a<;>cases b<;>rfl
 ·exact decide_eq_true rfl
 ·rename_i x y
  by_cases c:x=y
  ·subst c;rw[decide_eq_true rfl,decide_eq_true rfl]
  ·rw[decide_eq_false c,decide_eq_false (fun z=>c (V.str.inj z))]
theorem fF.self{d:PyData}(h:gQ d=true):fF d d true:=by
 cases d<;>first|(cases h;done)|skip
 ·exact .nn
 ·rename_i b;have:=fF.bb b b;rwa[beq_self_eq_true] at this
 ·rename_i i;have:=fF.ii i i;rwa[decide_eq_true rfl] at this
 ·exact .ss _
namespace Ev
theorem eq(h:Ev G ρ ta fun _ x=>Ev G ρ tb fun _ y=>∃b,fF x y b/\Φ true (.bool b)):Ev G ρ (bX Aa ta tb) Φ:=
 iD (h.mono fun f x q=>q.mono fun g y ⟨b,e,p⟩ nb σ H u v Q W hu hv z=>by
  obtain⟨h1,h2⟩:=e.v hu hv
  exact⟨h1,by rw[h2];exact z true _ H _ p (.refl W.aA) (.bl _)⟩)
theorem ne(h:Ev G ρ ta fun _ x=>Ev G ρ tb fun _ y=>∃b,fF x y b/\Φ true (.bool !b)):Ev G ρ (bX BC ta tb) Φ:=
 iD (h.mono fun f x q=>q.mono fun g y ⟨b,e,p⟩ nb σ H u v Q W hu hv z=>by
  obtain⟨h1,h2⟩:=e.v hu hv
  exact⟨h1,by rw[h2];exact z true _ H _ p (.refl W.aA) (.bl _)⟩)
theorem VS{ng:Bool}(h:Ev G ρ ta fun _ x=>Ev G ρ tb fun _ y=>SeqAt.shaped x=true/\SeqAt.shaped y=true/\Φ true (.bool (PyData.eqv x y !=ng))):Ev G ρ (bX (A9 ng) ta tb) Φ:=
 iD (h.mono fun f x q=>q.mono fun g y ⟨h1,h2,p⟩ nb σ H u v Q W hu hv z=>
  ⟨G.S nb false,x,y,hu.av (bU (fun z=>by cases z) fun _ z=>z),hv.av (bU (fun z=>by cases z) fun _ z=>z),h1,h2,z true _ H _ p (.refl W.aA) (.bl _)⟩)
end Ev
def rZ:PyData->Bool
 | .none=>true
 |_=>false
theorem BR{nb:Addr->Prop}{H:Hp}{d:PyData}{v:V}(h:ah nb H d v):decide (v= .aE)=rZ d:=by
 cases d<;>unfold ah at h
 all_goals first
  |(subst h;rfl)
  |(obtain⟨a,xs,rfl,_⟩:=h;rfl)
  |exact h.elim
namespace Ev
theorem is(h:Ev G ρ ta fun _ x=>Φ true (.bool (rZ x))):Ev G ρ (bX Dq ta (tC .aE)) Φ:=
 iD (h.mono fun f x p=>Ev.aE fun nb σ H u v Q W hu hv z=>⟨hv.qL,by rw[BR hu];exact z true _ H _ p (.refl W.aA) (.bl _)⟩)
theorem Np(h:Ev G ρ ta fun _ x=>Φ true (.bool !rZ x)):Ev G ρ (bX rX ta (tC .aE)) Φ:=
 iD (h.mono fun f x p=>Ev.aE fun nb σ H u v Q W hu hv z=>⟨hv.qL,by rw[BR hu];exact z true _ H _ p (.refl W.aA) (.bl _)⟩)
end Ev
theorem af.bB{nb:Addr->Prop}{H:Hp}{ds:List PyData}{xs:List V}{k:Int}{e:PyData}(h:af nb H ds xs)(q:L2.bB ds k=some e):∃v,L2.bB xs k=some v/\ah nb H e v:=by
 unfold L2.bB at q⊢
 rw[h.length]
 cases z:fG ds.length k with
 |none=>rw[z] at q;cases q
 |some j=>rw[z] at q;exact h.get q
namespace Ev
theorem Iz(h:Ev G ρ ta fun f x=>∃ds,x= .list ds/\Ev G ρ tb fun _ y=>∃k,y= .int k/\∃e,bB ds k=some e/\Φ f e):Ev G ρ (bX (bI K) ta tb) Φ:=
 iD (h.mono fun f x ⟨ds,ex,q⟩=>q.mono fun g y ⟨k,ey,e,he,p⟩ nb σ H u v Q W hu hv z=>by
  subst ex ey
  obtain⟨a,xs,rfl,n,hx,hd⟩:=hu.cU
  obtain⟨w,hw,hD⟩:=hd.bB he
  exact⟨a,xs,k,w,rfl,hv.bD, .of hx,hw,z f _ H _ p (.refl W.aA) hD⟩)
theorem Ex(h:Ev G ρ ta fun f x=>∃ds,x= .tuple ds/\Ev G ρ tb fun _ y=>∃k,y= .int k/\∃e,bB ds k=some e/\Φ f e):Ev G ρ (bX (cO K) ta tb) Φ:=
 iD (h.mono fun f x ⟨ds,ex,q⟩=>q.mono fun g y ⟨k,ey,e,he,p⟩ nb σ H u v Q W hu hv z=>by
  subst ex ey
  obtain⟨a,xs,rfl,n,hx,hd⟩:=hu.ofT
  obtain⟨w,hw,hD⟩:=hd.bB he
  exact⟨a,xs,k,w,rfl,hv.bD, .of hx,hw,z f _ H _ p (.refl W.aA) hD⟩)
theorem D4{a:Addr}(e:ρ[i]?=some (.own a f ds))(h:Ev G ρ tb fun _ y=>∃k,y= .int k/\∃e,bB ds k=some e/\Φ f e):Ev G ρ (bX (bI K) (bq i) tb) Φ:=fun nb σ H Q W z=>by
 obtain⟨x,e1,h1,h2,h3,xs,hx,hd⟩:=W.ok i _ e
 subst h1
 refine⟨.ref a,e1,h nb σ H _ W fun g w H1 y ⟨k,ey,e',he,p⟩ s1 hv=>?_⟩
 subst ey
 obtain⟨u,hu,hD⟩:=(hd.keep s1.cH).bB he
 exact⟨a,xs,k,u,rfl,hv.bD, .of (s1.1 _ _ h3 hx),hu,z f _ H1 _ p s1 hD⟩
theorem Uc(h:Ev G ρ ta fun _ x=>∃b,x= .bool b/\if b=true then Ev G ρ tb Φ else Φ true (.bool false)):Ev G ρ (G2 ta tb) Φ:=fun nb σ H Q W z=>
 h nb σ H _ W fun f v H1 d ⟨b,e,q⟩ s1 hv=>by
  subst e
  refine⟨b,by unfold ah at hv;exact hv,?_⟩
  cases b with
  |true=>rw[if_pos rfl] at q⊢;exact q nb σ H1 _ (W.step s1) fun f v H' d p st=>z f v H' d p (s1.trans st)
  |false=>rw[if_neg Bool.false_ne_true] at q⊢;exact z true _ H1 _ q s1 (.bl false)
theorem Bm{c:TT}(h:Tv G ρ c fun b=>if b=true then Ev G ρ ta Φ else Ev G ρ tb Φ):Ev G ρ (Gz c ta tb) Φ:=fun nb σ H Q W z=>
 h nb σ H _ W fun b H1 q s1=>by
  cases b with
  |true=>rw[if_pos rfl] at q⊢;exact q nb σ H1 _ (W.step s1) fun f v H' d p st=>z f v H' d p (s1.trans st)
  |false=>rw[if_neg Bool.false_ne_true] at q⊢;exact q nb σ H1 _ (W.step s1) fun f v H' d p st=>z f v H' d p (s1.trans st)
end Ev
namespace Tv
variable{Θ:Bool->Prop}{t u:TT}
theorem test(h:Ev G ρ te fun _ x=>∃b,x= .bool b/\Θ b):Tv G ρ (yk te) Θ:=fun nb σ H Q W z=>
 h nb σ H _ W fun f v H1 d ⟨b,e,q⟩ s1 hv=>by subst e;exact⟨b,by unfold ah at hv;exact hv,z b H1 q s1⟩
theorem and(h:Tv G ρ t fun b=>if b=true then Tv G ρ u Θ else Θ false):Tv G ρ (vI t u) Θ:=fun nb σ H Q W z=>
 h nb σ H _ W fun b H1 q s1=>by
  cases b with
  |true=>rw[if_pos rfl] at q⊢;exact q nb σ H1 _ (W.step s1) fun b H' p st=>z b H' p (s1.trans st)
  |false=>rw[if_neg Bool.false_ne_true] at q⊢;exact z false H1 q s1
theorem or(h:Tv G ρ t fun b=>if b=true then Θ true else Tv G ρ u Θ):Tv G ρ (C6 t u) Θ:=fun nb σ H Q W z=>
 h nb σ H _ W fun b H1 q s1=>by
  cases b with
  |false=>rw[if_neg Bool.false_ne_true] at q⊢;exact q nb σ H1 _ (W.step s1) fun b H' p st=>z b H' p (s1.trans st)
  |true=>rw[if_pos rfl] at q⊢;exact z true H1 q s1
theorem not(h:Tv G ρ t fun b=>Θ (!b)):Tv G ρ (Fx t) Θ:=fun nb σ H Q W z=>h nb σ H _ W fun b H1 q s1=>z _ H1 q s1
theorem ko(h:Θ true):Tv G ρ kX Θ:=fun nb σ H Q W z=>z true H h (.refl W.aA)
end Tv
def rP(K:PySem.W.Frag)(ta:TE):TT:=fun σ H Q=>ta σ H fun x H1=>∃k,u5 K x H1 k/\Q k H1
theorem Tv.YB{Θ:Bool->Prop}(h:Ev G ρ te fun _ x=>∃b,x= .bool b/\Θ b):Tv G ρ (rP K te) Θ:=fun nb σ H Q W z=>
 h nb σ H _ W fun f v H1 d ⟨b,e,q⟩ s1 hv=>by subst e;exact⟨b,by unfold ah at hv;subst hv;rfl,z b H1 q s1⟩
namespace Av
variable{Θ:List Fd->Prop}
theorem nil(h:Θ []):Av G ρ bh Θ:=fun nb σ H Q W z=>z [] [] H h (.refl W.aA) rfl
theorem cons(h:Ev G ρ te fun f d=>Av G ρ t fun es=>Θ ((f,d)::es)):Av G ρ (aS te t) Θ:=fun nb σ H Q W z=>
 h nb σ H _ W fun f v H1 d p1 s1 q1=>p1 nb σ H1 _ (W.step s1) fun es vs H2 p2 s2 q2=>z _ _ H2 p2 (s1.trans s2) ⟨v,vs,rfl,q1.keep s2.cH,q2⟩
theorem NW{is:List Int}(h:Θ (is.map fun i=>(true, .int i))):Av G ρ (sN is) Θ:=fun nb σ H Q W z=>z _ _ H h (.refl W.aA) (by
 clear h
 induction is with
 |nil=>rfl
 |cons i r ih=>exact⟨_,_,rfl, .int i,ih⟩)
end Av
def gP(es:List Fd):Bool:=es.all (·.1)
theorem iw.all{nb:Addr->Prop}{H:Hp}:∀{es:List Fd} {vs:List V} {f:Bool},iw G nb H es vs->(f=true->gP es=true)->af (G.S nb f) H (es.map (·.2)) vs
  |[],_,_,h,_=>by unfold iw at h;subst h;exact .nil
  | e :: es, _, f, h, hf => by
    obtain⟨v,ws,rfl,h1,h2⟩:=h
    refine .cons (h1.av (bU (fun z=>?_) fun _ z=>z)) (h2.all fun z=>?_)
    · have:=hf z;simp only[gP,List.all_cons,Bool.and_eq_true] at this;exact this.1
    · have:=hf z;simp only[gP,List.all_cons,Bool.and_eq_true] at this;exact this.2
theorem iw.len{nb:Addr->Prop}{H:Hp}{es:List Fd}{vs:List V}(h:iw G nb H es vs):vs.length=es.length:=by
 have:=(h.all (f:=false) (fun z=>by cases z)).length
 simpa using this
theorem ay.lst{Φ:Bool->List PyData->Prop}(h:Av G ρ t fun es=>es.length<=10000/\Φ (gP es) (es.map (·.2))):ay G ρ (kQ t) Φ:=fun nb σ H Q W z=>
  h nb σ H _ W fun es vs H1 ⟨hl,p⟩ s1 q1=>⟨Nat.le_trans (by rw[q1.len];exact hl) (by decide),fun a ha=>by
    have W1:=W.step s1
    refine z _ a vs _ _ p (s1.trans (.same W1.aA (bW ha))) ?_ aU (((q1.all fun z=>z).fresh ha).keep (aP.of (bW ha)))
    cases e:H a with
    |none=>rfl
    | some o =>
      by_cases n:NB G.B a
      · rw[s1.1 a o n e] at ha;cases ha
      · exact absurd ha (NB.j8 s1.2 n)⟩
theorem Ev.lst(h:Av G ρ t fun es=>es.length<=10000/\Φ (gP es) (.list (es.map (·.2)))):Ev G ρ (kQ t) Φ:=(ay.lst (Φ:=fun f ds=>Φ f (.list ds)) h).ev
end
end L2
set_option maxRecDepth 100000
set_option maxHeartbeats 1000000
namespace L2
open PySem PySem.Spec PyProof.Rows
def gk(K:PySem.W.Frag):List V->Hp->VK->Prop:=fun xs H Q=>∃p ys,xs=[.ref p]/\(aQ K H p ys\/eE K H p ys)/\Q (.int ys.length) H
theorem ia{X:Cx}:dB X (.builtin "len") (gk X.K):=Gg
def CD:List V->Hp->VK->Prop:=fun xs H Q=>∃i j,xs=[.int i, .int j]/\Q (.int (if j<i then j else i)) H
def CY:List V->Hp->VK->Prop:=fun xs H Q=>(∃i,xs=[.int i]/\Q (.int i) H)\/∃k,xs=[.bl k]/\Q (.int (if k then 1 else 0)) H
theorem Zo{X:Cx}(hc:X.calm=true):dB X (.builtin "min") CD:=VF hc
theorem YJ{X:Cx}:dB X (.type "int") CY:=SH
def iA{α:Type}(xs:List α)(lo hi:Option Int):List α:=(xs.drop (HT.cY xs.length 0 lo)).take (HT.cY xs.length xs.length hi-HT.cY xs.length 0 lo)
theorem af.cut{nb:Addr->Prop}{H:Hp}{ds:List PyData}{xs:List V}{lo hi:Option Int}(h:af nb H ds xs):af nb H (iA ds lo hi) (jI xs lo hi):=by
 unfold iA jI
 rw[h.length]
 exact(h.drop _).take _
def dP(ds:List PyData):Bool:=ds.all gQ
section
variable{G:Gx}{ρ:Rh}{Φ Ψ:Pd}{ta tb te:TE}{t:TA}{i:Nat}{f g:Bool}{d e:PyData}{ds es:List PyData}{K:PySem.W.Frag}
theorem Wd.none_of{nb:Addr->Prop}{σ:St}{H H1:Hp}{a:Addr}(W:Wd G nb ρ σ H)(s1:Step G.B H H1)(ha:H1 a=none):H a=none:=by
  cases e:H a with
  |none=>rfl
  | some o =>
    by_cases n:NB G.B a
    · rw[s1.1 a o n e] at ha;cases ha
    · exact absurd ha (NB.j8 s1.2 n)
theorem ay.fin{nb:Addr->Prop}{σ:St}{H H1:Hp}{Q:VK}{Φ:Bool->List PyData->Prop}{a:Addr}{xs:List V}(W:Wd G nb ρ σ H)(s1:Step G.B H H1)(ha:H1 a=none)(hd:af (G.S nb f) H1 ds xs)(p:Φ (f||dP ds) ds)
  (z:∀f a xs H' ds,Φ f ds->Step G.B H H'->H a=none->H' a=some (.lst xs)->af (fun x=>G.S nb f x\/x=a) H' ds xs->Q (.ref a) H'):Q (.ref a) (upd H1 a (.lst xs)):=by
 refine z _ a xs _ ds p (s1.trans (.same s1.2 (bW ha))) (W.none_of s1 ha) aU ?_
 cases hs:dP ds with
 |true=>exact af.i9 hs hd
 |false=>rw[Bool.or_false];exact(hd.fresh ha).keep (aP.of (bW ha))
namespace Ov
variable{Θ:Option Int->Prop}
theorem none(h:Θ none):Ov G ρ yf Θ:=fun nb σ H Q W z=>z _ H h (.refl W.aA)
theorem some(h:Ev G ρ te fun _ x=>∃k,x= .int k/\Θ (some k)):Ov G ρ (Bo te) Θ:=fun nb σ H Q W z=>
 h nb σ H _ W fun f v H1 d ⟨k,e,q⟩ s1 hv=>by subst e;exact⟨k,hv.bD,z _ H1 q s1⟩
end Ov
namespace ay
variable{Θ:Bool->List PyData->Prop}
theorem sl{tl th:TO}(h:Ev G ρ te fun f x=>∃ds,x= .list ds/\Ov G ρ tl fun lo=>Ov G ρ th fun hi=>Θ (f||dP (iA ds lo hi)) (iA ds lo hi)):ay G ρ (pC (nJ K) te tl th) Θ:=fun nb σ H Q W z=>
 h nb σ H _ W fun f v H1 d ⟨ds,e,q⟩ s1 hv=>q nb σ H1 _ (W.step s1) fun lo H2 q2 s2=>q2 nb σ H2 _ ((W.step s1).step s2) fun hi H3 q3 s3=>by
  subst e
  obtain⟨a,xs,rfl,n,hx,hd⟩:=((hv.keep s2.cH).keep s3.cH).cU
  exact⟨a,xs,rfl, .of hx,fun p hp=>ay.fin W (s1.trans (s2.trans s3)) hp hd.cut q3 z⟩
theorem listOf(h:Ev G ρ te fun f x=>∃ds,(x= .list ds\/x= .tuple ds)/\Θ (f||dP ds) ds):ay G ρ (dw (iz K) (aS te bh)) Θ:=fun nb σ H Q W z=>
 h nb σ H _ W fun f v H1 d ⟨ds,e,q⟩ s1 hv=>by
  rcases e with e|e
  ·subst e
   obtain⟨a,xs,rfl,n,hx,hd⟩:=hv.cU
   exact⟨a,xs,rfl, .inl (.of hx),fun p hp=>ay.fin W s1 hp hd q z⟩
  ·subst e
   obtain⟨a,xs,rfl,n,hx,hd⟩:=hv.ofT
   exact⟨a,xs,rfl, .inr (.of hx),fun p hp=>ay.fin W s1 hp hd q z⟩
theorem cat(h:Ev G ρ ta fun f x=>∃ds,x= .list ds/\Ev G ρ tb fun g y=>∃es,y= .list es/\ds.length+es.length<=10000/\Θ ((f && g)||dP (ds++es)) (ds++es)):ay G ρ (bX Bq ta tb) Θ:=fun nb σ H Q W z=>
 h nb σ H _ W fun f v H1 d ⟨ds,e,q⟩ s1 hv=>q nb σ H1 _ (W.step s1) fun g u H2 d2 ⟨es,e2,hl,p⟩ s2 hu=>by
  subst e e2
  obtain⟨a,xs,rfl,n,hx,hd⟩:=(hv.keep s2.cH).cU
  obtain⟨c,ys,rfl,m,hy,hc⟩:=hu.cU
  refine⟨a,c,xs,ys,rfl,rfl,hx,hy,Nat.le_trans (by rw[hd.length,hc.length];exact hl) (by decide),fun p' hp=>ay.fin (f:=f && g) W (s1.trans s2) hp ?_ p z⟩
  exact af.append (hd.av (bU (fun z=>(Bool.and_eq_true _ _▸z).1) fun _ z=>z)) (hc.av (bU (fun z=>(Bool.and_eq_true _ _▸z).2) fun _ z=>z))
end ay
namespace Ev
theorem sl{tl th:TO}(h:Ev G ρ te fun f x=>∃ds,x= .list ds/\Ov G ρ tl fun lo=>Ov G ρ th fun hi=>Φ (f||dP (iA ds lo hi)) (.list (iA ds lo hi))):Ev G ρ (pC (nJ K) te tl th) Φ:=(ay.sl (Θ:=fun f ds=>Φ f (.list ds)) h).ev
theorem listOf(h:Ev G ρ te fun f x=>∃ds,(x= .list ds\/x= .tuple ds)/\Φ (f||dP ds) (.list ds)):Ev G ρ (dw (iz K) (aS te bh)) Φ:=(ay.listOf (Θ:=fun f ds=>Φ f (.list ds)) h).ev
theorem cat(h:Ev G ρ ta fun f x=>∃ds,x= .list ds/\Ev G ρ tb fun g y=>∃es,y= .list es/\ds.length+es.length<=10000/\Φ ((f && g)||dP (ds++es)) (.list (ds++es))):Ev G ρ (bX Bq ta tb) Φ:=(ay.cat (Θ:=fun f ds=>Φ f (.list ds)) h).ev
theorem min2(h:Ev G ρ ta fun _ x=>∃i,x= .int i/\Ev G ρ tb fun _ y=>∃j,y= .int j/\Φ true (.int (if j<i then j else i))):Ev G ρ (dw CD (aS ta (aS tb bh))) Φ:=fun nb σ H Q W z=>
 h nb σ H _ W fun f v H1 d ⟨i,e,q⟩ s1 hv=>q nb σ H1 _ (W.step s1) fun g u H2 d2 ⟨j,e2,p⟩ s2 hu=>by
  subst e e2
  exact⟨i,j,by rw[hv.bD,hu.bD],z true _ H2 _ p (s1.trans s2) (.int _)⟩
theorem Zq(h:Ev G ρ ta fun _ x=>∃b,x= .bool b/\Φ true (.int (if b then 1 else 0))):Ev G ρ (dw CY (aS ta bh)) Φ:=fun nb σ H Q W z=>
 h nb σ H _ W fun f v H1 d ⟨b,e,q⟩ s1 hv=>by subst e;unfold ah at hv;subst hv;exact .inr ⟨b,rfl,z true _ H1 _ q s1 (.int _)⟩
end Ev
abbrev DF:=List PyData->Pd->Prop
def bJ(n:Nat)(F:DF):Sp:=fun vs H Q _=>vs.length=n/\∃(nb:Addr->Prop) (ds:List PyData),jd nb H/\af nb H ds vs/\F ds fun f d=>∀v H',bx H H'->ah (fun a=>nb a\/(f=true/\H a≠none)) H' d v->Q v H'
def eB(n:Nat)(F:DF):Sp:=fun vs H Q _=>vs.length=n/\∃(b l:Addr) (ws:List V) (nb:Addr->Prop) (ds:List PyData),vs= .ref b::ws/\cG H b l/\jd nb H/\nb b/\af nb H ds ws/\
 F ds fun f d=>∀v H',aP (Nb b) H H'->cG H' b l->ah (fun a=>nb a\/(f=true/\H a≠none)) H' d v->Q v H'
def cJ(F:DF):Prop:=∀ds (Φ Ψ:Pd),F ds Φ->(∀f d,Φ f d->Ψ f d)->F ds Ψ
theorem Ev.cZ{n:Nat}{F:DF}(hm:cJ F)(h:Av G ρ t fun es=>es.length=n/\F (es.map (·.2)) fun f d=>Φ (f||gP es) d):Ev G ρ (eS (bJ n F) [] E0 t) Φ:=fun nb σ H Q W z=>
 h nb σ H _ W fun es vs H1 ⟨hl,p⟩ s1 q1=>by
  have W1:=W.step s1
  rw[List.append_nil]
  refine⟨by rw[q1.len,hl],G.S nb (gP es),es.map (·.2),W1.fJ,q1.all fun z=>z,hm _ _ _ p fun f d hp v H' sm hd=>z _ v H' d hp (s1.trans (.same W1.aA sm)) (hd.av fun a q=>?_)⟩
  cases f with
  |false=>rw[Bool.false_or] at q;exact .inl q
  |true=>exact .inr ⟨rfl,W1.fJ a q⟩
theorem Step.qI{b l:Addr}{H H':Hp}(hB:G.B=some (b,l))(bt:aP (Nb b) H H')(B':cG H' b l):Step G.B H H':=
 ⟨fun a o n e=>bt a o (n b l hB) e,fun b' l' e=>by rw[hB] at e;cases e;exact B'⟩
theorem Wd.qH{nb:Addr->Prop}{σ:St}{H:Hp}(W:Wd G nb ρ σ H)(e:ρ[i]?=some .aA):∃b l,G.B=some (b,l)/\σ[i]?=some (some (.ref b))/\cG H b l:=by
 obtain⟨x,e1,b,l,hB,rfl⟩:=W.ok i _ e
 exact⟨b,l,hB,e1,W.aA b l hB⟩
theorem Ev.gZ{n:Nat}{F:DF}(hm:cJ F)(e:ρ[i]?=some .aA)(h:Av G ρ t fun es=>es.length+1=n/\F (es.map (·.2)) fun f d=>Φ (f||gP es) d):Ev G ρ (eS (eB n F) [] E0 (aS (bq i) t)) Φ:=fun nb σ H Q W z=>by
 obtain⟨b,l,hB,e1,B⟩:=W.qH e
 refine⟨.ref b,e1,h nb σ H _ W fun es vs H1 ⟨hl,p⟩ s1 q1=>?_⟩
 have W1:=W.step s1
 show eB n F ((V.ref b::vs)++[]) H1 Q E0
 rw[List.append_nil]
 have hb:∀f,G.S nb f b:=fun f=> .inr (.inr (.inl fun n=>n b l hB rfl))
 refine⟨by rw[List.length_cons,q1.len,hl],b,l,vs,G.S nb (gP es),es.map (·.2),rfl,W1.aA b l hB,W1.fJ,hb _,q1.all fun z=>z,hm _ _ _ p fun f d hp v H' bt B' hd=>z _ v H' d hp (s1.trans (.qI hB bt B')) (hd.av fun a q=>?_)⟩
 cases f with
 |false=>rw[Bool.false_or] at q;exact .inl q
 |true=>exact .inr ⟨rfl,W1.fJ a q⟩
theorem Ev.draw(e:ρ[i]?=some .aA)(h:Ev G ρ te fun _ x=>∃m:Int,x= .int m/\0<m/\Sm m/\∀r:Int,0<=r->r<m->Φ true (.int r)):Ev G ρ (eS jg [] E0 (aS (bq i) (aS te bh))) Φ:=fun nb σ H Q W z=>by
 obtain⟨b,l,hB,e1,B⟩:=W.qH e
 refine⟨.ref b,e1,h nb σ H _ W fun f v H1 d ⟨m,ed,h1,h2,p⟩ s1 hv=>?_⟩
 subst ed
 exact⟨b,l,m,by rw[hv.bD];rfl,s1.2 b l hB,h1,h2,fun r H' r1 r2 bt B'=>z true _ H' _ (p r r1 r2) (s1.trans (.qI hB bt B')) (.int r)⟩
theorem Ev.prime(e:ρ[i]?=some .aA)(h:∀p:Int,DX p->Φ true (.int p)):Ev G ρ (eS QB [] E0 (aS (bq i) bh)) Φ:=fun nb σ H Q W z=>by
 obtain⟨b,l,hB,e1,B⟩:=W.qH e
 exact⟨.ref b,e1,b,l,rfl,B,fun p H' hp bt B'=>z true _ H' _ (h p hp) (.qI hB bt B') (.int p)⟩
theorem Ev.total(h:Av G ρ t fun es=>∃(p:Int) (prs:List (Int×Int)) (wd:List (Option Int)),es.map (·.2)=[.int p, .list (prs.map pairD), .list (wd.map cM)]/\0<p/\(∀pr∈prs,0<=pr.1/\pr.1<wd.length/\Sm pr.2)/\(∀x,some x∈wd->Sm x)/\Φ true (.int (aG prs wd%p))):
  Ev G ρ (eS ua [] E0 t) Φ:=fun nb σ H Q W z=>
 h nb σ H _ W fun es vs H1 ⟨p,prs,wd,e,h1,h2,h3,q⟩ s1 q1=>by
  have hd:=q1.all (f:=false) (fun z=>by cases z)
  rw[e] at hd
  unfold af at hd
  obtain⟨y,ys,rfl,d1,hd⟩:=hd
  unfold af at hd
  obtain⟨y2,ys,rfl,d2,hd⟩:=hd
  unfold af at hd
  obtain⟨y3,ys,rfl,d3,hd⟩:=hd
  unfold af at hd
  subst hd
  exact⟨G.S nb false,p,y2,y3,prs,wd,by rw[d1.bD];rfl,d2,d3,h1,h2,h3,z true _ H1 _ q s1 (.int _)⟩
theorem Ev.whole(h:Ev G ρ te fun _ x=>∃n,x= .int n/\Φ true (.bool true)):Ev G ρ (eS Zz [] E0 (aS te bh)) Φ:=fun nb σ H Q W z=>
 h nb σ H _ W fun f v H1 d ⟨n,e,q⟩ s1 hv=>by subst e;exact⟨n,by rw[hv.bD];rfl,z true _ H1 _ q s1 (.bl _)⟩
namespace Gv
variable{Θ:Rh->Prop}
theorem name(h:Θ (ρ.set i (.d f d))):Gv G ρ (dW i) f d Θ:=fun nb σ H v Q W hv z=>z _ _ h (W.lu hv)
theorem C2(h:Θ (ρ.set i (.d true d))):Gv G ρ (dW i) true d Θ:=name h
theorem kP(h:Θ (ρ.set i (.d false d))):Gv G ρ (dW i) f d Θ:=fun nb σ H v Q W hv z=>z _ _ h (W.lu (hv.av (bU (fun z=>by cases z) fun _ z=>z)))
theorem GO(hs:gQ d=true)(h:Θ (ρ.set i (.d true d))):Gv G ρ (dW i) f d Θ:=fun nb σ H v Q W hv z=>z _ _ h (W.lu (hv.i9 hs))
theorem je{n:Int}(h:Θ (ρ.set i (.d true (.int n)))):Gv G ρ (dW i) f (.int n) Θ:=GO rfl h
theorem KQ(h:Θ (ρ.set i (.d true .none))):Gv G ρ (dW i) f .none Θ:=GO rfl h
theorem tup{n:Nat}{u:fN}(hl:ds.length=n)(h:jO G ρ u f ds Θ):Gv G ρ (mw K n u) f (.tuple ds) Θ:=fun nb σ H v Q W hv z=>by
 obtain⟨a,xs,rfl,m,hx,hd⟩:=hv.ofT
 exact⟨a,xs,rfl, .of hx,by rw[hd.length];exact hl,h nb σ H xs Q W hd z⟩
theorem R3(h:Θ ρ):jO G ρ oR f [] Θ:=fun nb σ H vs Q W hv z=>by unfold af at hv;exact⟨hv,z _ _ h W⟩
theorem Ld{u:TG}{us:fN}(h:Gv G ρ u f d fun eN=>jO G eN us f ds Θ):jO G ρ (lU u us) f (d::ds) Θ:=fun nb σ H vs Q W hv z=>by
 unfold af at hv
 obtain⟨y,ys,rfl,h1,h2⟩:=hv
 exact⟨y,ys,rfl,h nb σ H y _ W h1 fun σ' ρ' q W'=>q nb σ' H ys Q W' h2 z⟩
end Gv
namespace Sv
variable{E:DE}{s u:TS}
theorem seq(h:Sv G ρ s {E with nx:=fun eN=>Sv G eN u E}):Sv G ρ (pK s u) E:=fun nb σ H D W K=>h nb σ H _ W ⟨fun aM ρ' σ' H' q W'=>q aM σ' H' D W' K,K.bk,K.ct,K.rt,K.rw⟩
theorem next(h:E.nx ρ):Sv G ρ xN E:=fun nb σ H D W K=>K.nx nb ρ σ H h W
theorem brk(h:E.bk ρ):Sv G ρ NR E:=fun nb σ H D W K=>K.bk nb ρ σ H h W
theorem cont(h:E.ct ρ):Sv G ρ M5 E:=fun nb σ H D W K=>K.ct nb ρ σ H h W
theorem asg{g:TG}(h:Ev G ρ te fun f d=>Gv G ρ g f d E.nx):Sv G ρ (fW te g) E:=fun nb σ H D W K=>h nb σ H _ W fun f v H1 d q s1 hv=>q nb σ H1 v _ (W.step s1) hv fun σ' ρ' p W'=>K.nx nb ρ' σ' H1 p W'
theorem rq(h:Ev G ρ te fun _ d=>E.nx (ρ.set i (.d false d))):Sv G ρ (rM i te) E:=fun nb σ H D W K=>h nb σ H _ W fun f v H1 d q s1 hv=>K.nx nb _ _ H1 q ((W.step s1).lu (hv.av (bU (fun z=>by cases z) fun _ z=>z)))
theorem ret(h:Ev G ρ te E.rt):Sv G ρ (mz te) E:=fun nb σ H D W K=>h nb σ H _ W fun f v H1 d q s1 hv=>K.rt nb ρ σ f v H1 d q (W.step s1) (hv.av (bU (fun z=>z) fun _ z=>z.elim))
theorem jx{c:TT}(h:Tv G ρ c fun b=>if b=true then Sv G ρ s E else Sv G ρ u E):Sv G ρ (xJ c s u) E:=fun nb σ H D W K=>h nb σ H _ W fun b H1 q s1=>by
 cases b with
 |true=>rw[if_pos rfl] at q⊢;exact q nb σ H1 D (W.step s1) K
 |false=>rw[if_neg Bool.false_ne_true] at q⊢;exact q nb σ H1 D (W.step s1) K
theorem GW{nb:Addr->Prop}{σ:St}{H H1:Hp}{a:Addr}{xs:List V}(W:Wd G nb ρ σ H)(s1:Step G.B H H1)(ha:H a=none)(e:H1 a=some (.lst xs))(hd:af (fun x=>G.S nb f x\/x=a) H1 ds xs):
    Wd G (fun x=>nb x\/x=a) (ρ.set i (.own a f ds)) (σ.set i (some (.ref a))) H1:=by
  have hN:NB G.B a:=fun b l e z=>by
    subst z
    obtain⟨_,_,_,_,_,h1,_⟩:=W.aA _ _ e
    rw[h1] at ha;cases ha
  have hA:∀f x,G.S (fun x=>nb x\/x=a) f x->(G.S nb f x\/x=a):=fun f x z=>by
    rcases z with (z|z)|z|z|z
    · exact .inl (.inl z)
    · exact .inr z
    · exact .inl (.inr (.inl z))
    · exact .inl (.inr (.inr (.inl z)))
    · exact .inl (.inr (.inr (.inr z)))
  have W1:=W.step s1
  have W2:Wd G (fun x=>nb x\/x=a) ρ σ H1:=by
    refine⟨W1.aA,fun x n=>?_,W1.old,fun x n q=>?_,W.gA,W.len,W.gB,fun h m=>(((W.eW h m).fresh ha).keep (s1.but fun x z=> .inl (.inr (.inr (.inl z))))).av (hA h.1),fun j s e'=>?_,W.apart,W.dY,W.dh⟩
    · rcases n with n|n
      · exact W1.live x n
      · subst n;rw[e];exact Option.some_ne_none _
    · rcases n with n|n
      · exact W.cR x n q
      · subst n
        cases z:G.H0 x with
        |none=>rfl
        |some o=>rw[W.old x o q z] at ha;cases ha
    · obtain⟨x,e1,h⟩:=W.ok j s e'
      refine⟨x,e1,?_⟩
      cases s with
      |no=>trivial
      |d f d=>obtain⟨v,e,h⟩:=h;exact⟨v,e,((h.fresh ha).keep (s1.but fun x z=> .inl (.inr (.inr (.inl z))))).av (hA f)⟩
      |own c f es=>obtain⟨e,n,q,xs,hx,hd⟩:=h;exact⟨e, .inl n,q,xs,s1.1 _ _ q hx,((hd.fresh ha).keep (s1.but fun x z=> .inl (.inr (.inr (.inl z))))).av (hA f)⟩
      |aA=>exact h
      |raw v=>exact h
      |aX c f es=>obtain⟨e,n,q,xs,hx,hd⟩:=h;exact⟨e, .inl n,q,xs,s1.1 _ _ q hx,((hd.fresh ha).keep (s1.but fun x z=> .inl (.inr (.inr (.inl z))))).av (hA f)⟩
      | cu c =>
        obtain⟨e,n,q⟩:=h
        refine⟨e,fun a ha=>⟨.inl (n a ha).1,(n a ha).2⟩,c.av (hA c.f) (c.keep (.of fun x o hx e=>s1.1 x o ?_ e) (c.fresh ha q))⟩
        rcases hx with hx|hx
        · exact Classical.byContradiction fun z=>hx (.inl (.inr (.inr (.inl z))))
        · exact(n x hx).2
  refine W2.set ⟨rfl, .inr rfl,hN,xs,e,hd.av (hA f)⟩ ?_ (fun _ _ _ z=>by cases z) (fun x hx j t hj ht hc=>?_)
  rotate_left
  · have hx:x=a:=List.mem_singleton.mp hx
    subst hx
    rcases hc with ⟨c,z⟩|⟨c,rfl⟩
    · cases z
    · exact fun z=>W.live x ((W.ok j _ ht).choose_spec.2.2.1 x z).1 ha
  rintro a' f' ds' ⟨rfl,rfl,rfl⟩ j c g cs hj hc z
  subst z
  obtain⟨x,e1,h1,h2,h3,ys,hy,_⟩:=W.ok j _ hc
  rw[hy] at ha;cases ha
theorem aab(h:ay G ρ te fun f ds=>∀a,E.nx (ρ.set i (.own a f ds))):Sv G ρ (fW te (dW i)) E:=fun nb σ H D W K=>h nb σ H _ W fun f a xs H1 ds q s1 ha e hd=>K.nx _ _ _ H1 (q a) (GW W s1 ha e hd)
theorem zP(h:ay G ρ te fun f ds=>∀a,E.nx (ρ.set i (.own a f ds))):Sv G ρ (rM i te) E:=fun nb σ H D W K=>h nb σ H _ W fun f a xs H1 ds q s1 ha e hd=>K.nx _ _ _ H1 (q a) (GW W s1 ha e hd)
theorem vH{nb:Addr->Prop}{σ:St}{H:Hp}{a:Addr}{xs:List V}(W:Wd G nb ρ σ H)(e:ρ[i]?=some (.own a f ds))(hd:af (G.S nb g) H es xs):Wd G nb (ρ.set i (.own a g es)) σ (upd H a (.lst xs)):=by
  obtain⟨x,e1,h1,h2,h3,ys,hy,_⟩:=W.ok i _ e
  subst h1
  have hil:i<ρ.length:=(List.getElem?_eq_some_iff.mp e).1
  have W0:Wd G nb (ρ.set i .no) (σ.set i (some (.ref a))) H:=W.set trivial fun _ _ _ z=>by cases z
  have W1:Wd G nb (ρ.set i .no) (σ.set i (some (.ref a))) (upd H a (.lst xs)):=W0.write h2 h3 (fun j c f' cs hc=>by
    by_cases hij:i=j
    · subst hij;rw[List.getElem?_set_self hil] at hc;cases hc
    · rw[List.getElem?_set_ne hij] at hc
      exact(W.apart i j _ _ _ _ _ _ hij e hc).symm
   ) (fun j c f' cs hc z => by
      subst z
      have hij:i≠j:=fun z=>by subst z;rw[List.getElem?_set_self hil] at hc;cases hc
      rw[List.getElem?_set_ne hij] at hc
      obtain⟨_,_,_,_,_,ps,hp,_⟩:=W.ok j _ hc
      rw[hy] at hp;cases hp) (fun j c hc z=>by
      have hij:i≠j:=fun z=>by subst z;rw[List.getElem?_set_self hil] at hc;cases hc
      rw[List.getElem?_set_ne hij] at hc
      exact W.dh j i c _ (Ne.symm hij) hc e a z (List.mem_singleton.mpr rfl))
  have W2:=W1.set (i:=i) (s:= .own a g es) (x:=some (.ref a)) ⟨rfl,h2,h3,xs,aU,hd.keep (aP.set (.inl h2))⟩ (by
    rintro a' f' ds' ⟨rfl,rfl,rfl⟩ j c g' cs hj hc
    rw[List.getElem?_set_ne (Ne.symm hj)] at hc
    exact W.apart i j _ _ _ _ _ _ (Ne.symm hj) e hc) (fun _ _ _ z=>by cases z) (fun x hx j t hj ht hc z=>by
    rw[List.getElem?_set_ne (Ne.symm hj)] at ht
    have hx:x=a:=List.mem_singleton.mp hx
    subst hx
    rcases hc with ⟨c,q⟩|⟨c,rfl⟩
    · cases q
    · exact W.dh j i c _ hj ht e x z (List.mem_singleton.mpr rfl))
  rw[List.set_set,List.set_set] at W2
  have:σ.set i (some (.ref a))=σ:=by
    apply List.ext_getElem?
    intro j
    by_cases hij:i=j
    · subst hij;rw[List.getElem?_set_self (by rw[W.len];exact hil),e1]
    · rw[List.getElem?_set_ne hij]
  rwa[this] at W2
theorem append{a:Addr}(e:ρ[i]?=some (.own a f ds))(h:Ev G ρ te fun g d=>ds.length<10000/\E.nx (ρ.set i (.own a (f && g) (ds++[d])))):Sv G ρ (qN (lN K "list" uY (bq i) (aS te bh))) E:=fun nb σ H D W KK=>by
 obtain⟨x,e1,h1,h2,h3,xs,hx,hd⟩:=W.ok i _ e
 subst h1
 refine⟨.ref a,e1, .inl ⟨rfl,_,aQ.of hx⟩,h nb σ H _ W fun g v H1 d ⟨hl,q⟩ s1 hv=>?_⟩
 have W1:=W.step s1
 have vV:=s1.1 _ _ h3 hx
 refine⟨a,xs,v,rfl,rfl,vV,Nat.lt_of_lt_of_le (by rw[hd.length];exact hl) (by decide),KK.nx nb _ _ _ q (vH W1 e ?_)⟩
 exact af.snoc (hv.av (bU (fun z=>(Bool.and_eq_true _ _▸z).2) fun _ z=>z)) ((hd.keep s1.cH).av (bU (fun z=>(Bool.and_eq_true _ _▸z).1) fun _ z=>z))
theorem af.set'{nb:Addr->Prop}{H:Hp}{x:V}(hd:ah nb H d x):∀{ds:List PyData} {xs:List V} (j:Nat),af nb H ds xs->af nb H (ds.set j d) (xs.set j x)
 |[],_,j,h=>by unfold af at h;subst h;exact .nil
 |e::ds,_,0,h=>by unfold af at h;obtain⟨y,ys,rfl,h1,h2⟩:=h;exact .cons hd h2
 |e::ds,_,j+1,h=>by unfold af at h;obtain⟨y,ys,rfl,h1,h2⟩:=h;exact .cons h1 (af.set' hd j h2)
theorem share{nb:Addr->Prop}{σ:St}{H:Hp}{a:Addr}(W:Wd G nb ρ σ H)(e:ρ[i]?=some (.own a f ds)):Wd G (fun x=>nb x/\x≠a) (ρ.set i (.d f (.list ds))) σ H:=by
  obtain⟨x,e1,h1,h2,h3,xs,hx,hd⟩:=W.ok i _ e
  subst h1
  have hil:i<ρ.length:=(List.getElem?_eq_some_iff.mp e).1
  have W0:Wd G nb (ρ.set i .no) (σ.set i (some (.ref a))) H:=W.set trivial fun _ _ _ z=>by cases z
  have W1:Wd G (fun x=>nb x/\x≠a) (ρ.set i .no) (σ.set i (some (.ref a))) H:=by
    refine⟨W0.aA,fun x n=>W0.live x n.1,W0.old,fun x n=>W0.cR x n.1,W0.gA,W0.len,W0.gB,fun h m=>(W0.eW h m).av (bU (fun z=>z) fun _ z=>z.1),fun j s e'=>?_,W0.apart,W0.dY,W0.dh⟩
    obtain⟨x,jJ,h⟩:=W0.ok j s e'
    refine⟨x,jJ,?_⟩
    have hij:s≠ .no->i≠j:=fun n z=>by subst z;rw[List.getElem?_set_self hil] at e';cases e';exact n rfl
    cases s with
    |no=>trivial
    |d f d=>obtain⟨v,e,h⟩:=h;exact⟨v,e,h.av (bU (fun z=>z) fun _ z=>z.1)⟩
    | own c f es =>
      obtain⟨e2,n,q,xs,hx,hd⟩:=h
      have hij:=hij (by intro z;cases z)
      rw[List.getElem?_set_ne hij] at e'
      exact⟨e2,⟨n,(W.apart i j _ _ _ _ _ _ hij e e').symm⟩,q,xs,hx,hd.av (bU (fun z=>z) fun _ z=>z.1)⟩
    |aA=>exact h
    |raw v=>exact h
    | aX c f es =>
      obtain⟨e2,n,q,ps,hp,hd⟩:=h
      have hca:c≠a:=fun z=>by subst z;rw[hx] at hp;cases hp
      exact⟨e2,⟨n,hca⟩,q,ps,hp,hd.av (bU (fun z=>z) fun _ z=>z.1)⟩
    | cu c =>
      obtain⟨e2,n,q⟩:=h
      have hij:=hij (by intro z;cases z)
      rw[List.getElem?_set_ne hij] at e'
      exact⟨e2,fun x hx=>⟨⟨(n x hx).1,fun z=>W.dh j i c _ (Ne.symm hij) e' e x hx (by rw[z];exact List.mem_singleton.mpr rfl)⟩,(n x hx).2⟩,c.av (bU (fun z=>z) fun _ z=>z.1) q⟩
  have W2:=W1.lu (i:=i) (f:=f) (d:= .list ds) (v:= .ref a) (.lst (fun z=>by
    rcases z with z|z|z|z
    · exact z.2 rfl
    · exact W.gA a z (W.cR a h2 h3)
    · exact z h3
    · exact z.2 (W.cR a h2 h3)) hx (hd.av (bU (fun z=>z) fun _ z=>z.1)))
  rw[List.set_set,List.set_set] at W2
  have:σ.set i (some (.ref a))=σ:=by
    apply List.ext_getElem?
    intro j
    by_cases hij:i=j
    · subst hij;rw[List.getElem?_set_self (by rw[W.len];exact hil),e1]
    · rw[List.getElem?_set_ne hij]
  rwa[this] at W2
theorem GF{a:Addr}(i:Nat)(e:ρ[i]?=some (.own a f ds))(h:Sv G (ρ.set i (.d f (.list ds))) s E):Sv G ρ s E:=fun nb σ H D W K=>h _ σ H D (share W e) K
theorem wk{ρ':Rh}(w:Wk ρ' ρ)(h:Sv G ρ' s E):Sv G ρ s E:=fun nb σ H D W K=>h nb σ H D (W.wk w) K
end Sv
end
end L2
set_option maxRecDepth 100000
set_option maxHeartbeats 1000000
namespace L2
open PySem PySem.Spec PyProof.Rows
abbrev Gx.hd(G:Gx)(f:Bool)(d:PyData)(v:V):Gx:={G with hold:=(f, .d d,v)::G.hold}
section
variable{G:Gx}{ρ cg:Rh}{Φ Ψ:Pd}{ta tb te:TE}{t:TA}{i:Nat}{f g:Bool}{d e:PyData}{ds es:List PyData}{K:PySem.W.Frag}
theorem Wd.hd{nb:Addr->Prop}{σ:St}{H:Hp}{v:V}(W:Wd G nb ρ σ H)(h:ah (G.S nb f) H d v):Wd (G.hd f d v) nb ρ σ H:=
 ⟨W.aA,W.live,W.old,W.cR,W.gA,W.len,W.gB,fun x m=>by
  rcases List.mem_cons.mp m with e|m
  ·subst e;exact h
  ·exact W.eW x m,fun i s e=>by
   obtain⟨x,e1,h⟩:=W.ok i s e
   refine⟨x,e1,?_⟩
   cases s<;>exact h,W.apart,W.dY,W.dh⟩
theorem Wd.lz{nb:Addr->Prop}{σ:St}{H:Hp}{v:V}(W:Wd (G.hd f d v) nb ρ σ H):Wd G nb ρ σ H/\ah (G.S nb f) H d v:=
 ⟨⟨W.aA,W.live,W.old,W.cR,W.gA,W.len,W.gB,fun x m=>W.eW x (List.mem_cons_of_mem _ m),fun i s e=>by
   obtain⟨x,e1,h⟩:=W.ok i s e
   refine⟨x,e1,?_⟩
   cases s<;>exact h,W.apart,W.dY,W.dh⟩,W.eW _ (List.mem_cons_self ..)⟩
namespace Sv
variable{E:DE}{s:TS}{gt:TG}
def yS(G:Gx)(ρ:Rh)(n:Nat)(it:Nat->PyData->Prop)(fi:Bool)(gt:TG)(s:TS)(E:DE):Prop:=
 ∃I:Nat->Rh->Prop,I 0 ρ/\(∀i d ρ',it i d->I i ρ'->Gv G ρ' gt fi d fun fS=>Sv G fS s {nx:=I (i+1),rt:=E.rt,bk:=E.nx,ct:=I (i+1),rw:=E.rw})/\∀ρ',I n ρ'->E.nx ρ'
theorem ZF{lo:Int}{n:Nat}{nb:Addr->Prop}{σ:St}{H:Hp}{D:Ends}(W:Wd G nb ρ σ H)(KK:ze G E D)(h:yS G ρ n (fun i d=>i<n/\d= .int (lo+i)) true gt s E):
  ∃W:Nat->Nat->St->Hp->Prop,(∃m,W 0 m σ H)/\∀i m σ H,W i m σ H->
   ((gK lo n).stop i H/\D.nx σ H)\/((gK lo n).go i H/\∃N:St->Hp->Prop,(∀σ' H',N σ' H'->∃m',m'<m/\W (i+1) m' σ' H')/\∀x H',(gK lo n).ki i H x H'->gt x σ H' fun σ2 H2=>s {D with nx:=N,ct:=N,bk:=D.nx} σ2 H2):=by
 obtain⟨I,h0,ht,he⟩:=h
 refine Cc (fun i σ H=>∃nb ρ',I i ρ'/\Wd G nb ρ' σ H) ⟨nb,ρ,h0,W⟩ ?_ ?_
 ·rintro i σ H hi ⟨nb,ρ',hI,W⟩
  refine ht i _ ρ' ⟨hi,rfl⟩ hI nb σ H _ _ W (.int _) fun σ2 fS q W2=>q nb σ2 H _ W2 ?_
  exact⟨fun nb ρ σ H q W=>⟨nb,ρ,q,W⟩,KK.nx,fun nb ρ σ H q W=>⟨nb,ρ,q,W⟩,KK.rt,KK.rw⟩
 ·rintro σ H ⟨nb,ρ',hI,W⟩
  exact KK.nx nb ρ' σ H (he ρ' hI) W
theorem HH(h:Ev G ρ te fun _ x=>∃n:Int,x= .int n/\ -(2^62)<=n/\n<2^62/\yS G ρ n.toNat (fun i d=>i<n.toNat/\d= .int (0+i)) true gt s E):Sv G ρ (m9 (o5 (aS te bh)) gt s) E:=fun nb σ H D W KK=>
 h nb σ H _ W fun f v H1 x ⟨n,ex,h1,h2,q⟩ s1 hv=>by
  subst ex
  rw[hv.bD]
  exact⟨n,rfl,h1,h2,ZF (W.step s1) KK q⟩
theorem forL(h:Ev G ρ te fun f x=>∃ds,x= .list ds/\∀v,yS (G.hd f (.list ds) v) ρ ds.length (fun i d=>ds[i]?=some d) f gt s E):Sv G ρ (m9 (nh K te) gt s) E:=fun nb σ H D W KK=>
 h nb σ H _ W fun f v H1 x ⟨ds,ex,q⟩ s1 hv=>by
  subst ex
  obtain⟨I,h0,ht,he⟩:=q v
  have W1:=(W.step s1).hd hv
  obtain⟨a,xs,rfl,n,hx,hd⟩:=hv.cU
  have key:∀{nb ρ' σ H},Wd (G.hd f (.list ds) (.ref a)) nb ρ' σ H->∃xs,H a=some (.lst xs)/\af (G.S nb f) H ds xs:=fun W=>by
   obtain⟨a',xs',e',_,h',d'⟩:=W.lz.2.cU
   cases e'
   exact⟨xs',h',d'⟩
  refine⟨a,rfl,⟨xs, .of hx⟩,?_⟩
  refine⟨fun i m σ H=>m=ds.length-i/\i<=ds.length/\∃nb ρ',I i ρ'/\Wd (G.hd f (.list ds) (.ref a)) nb ρ' σ H,⟨ds.length,by simp,Nat.zero_le _,nb,ρ,h0,W1⟩,?_⟩
  rintro i m σ H ⟨rfl,hi,nb,ρ',hI,W⟩
  obtain⟨ys,hy,hD⟩:=key W
  have hl:=hD.length
  by_cases hlt:i<ds.length
  ·refine .inr ⟨⟨ys,ys[i]'(by omega), .of hy,List.getElem?_eq_getElem _⟩,fun σ H=>∃nb ρ',I (i+1) ρ'/\Wd (G.hd f (.list ds) (.ref a)) nb ρ' σ H,fun σ' H' q=>⟨ds.length-(i+1),by omega,rfl,hlt,q⟩,fun x H' y=>?_⟩
   obtain⟨e,y⟩:=y
   subst e
   have hx:=y ys (.of hy)
   obtain⟨x',hx',dx⟩:=hD.get (List.getElem?_eq_getElem hlt)
   rw[hx] at hx';cases hx'
   refine ht i _ ρ' (List.getElem?_eq_getElem hlt) hI nb σ _ _ _ W dx fun σ2 fS q W2=>q nb σ2 _ _ W2 ?_
   exact⟨fun nb ρ σ H q W=>⟨nb,ρ,q,W⟩,fun nb ρ σ H q W=>KK.nx nb ρ σ H q W.lz.1,fun nb ρ σ H q W=>⟨nb,ρ,q,W⟩,fun nb ρ σ f v H d q W hv=>KK.rt nb ρ σ f v H d q W.lz.1 hv,fun nb ρ σ v H q W=>KK.rw nb ρ σ v H q W.lz.1⟩
  ·have e:i=ds.length:=by omega
   subst e
   exact .inl ⟨⟨ys, .of hy,by omega⟩,KK.nx nb ρ' σ H (he ρ' hI) W.lz.1⟩
theorem uJ{c:TT}(I:Rh->Prop)(μ:Rh->Nat)(h0:I ρ)(h:∀ρ',I ρ'->Tv G ρ' c fun b=>if b=true then Sv G ρ' s {nx:=fun fS=>I fS/\μ fS<μ ρ',rt:=E.rt,bk:=E.nx,ct:=fun fS=>I fS/\μ fS<μ ρ',rw:=E.rw} else E.nx ρ'):Sv G ρ (xT c s) E:=fun nb σ H D W KK=>by
  refine⟨fun m σ H=>∃nb ρ',I ρ'/\Wd G nb ρ' σ H/\m=μ ρ',⟨_,nb,ρ,h0,W,rfl⟩,?_⟩
  rintro m σ H ⟨nb,ρ',hI,W,rfl⟩
  refine h ρ' hI nb σ H _ W fun b H1 q s1=>?_
  cases b with
  | true =>
    rw[if_pos rfl] at q⊢
    refine⟨fun σ' H'=>∃nb fS,(I fS/\μ fS<μ ρ')/\Wd G nb fS σ' H',fun σ' H' ⟨nb,fS,⟨q1,q2⟩,W2⟩=>⟨μ fS,q2,nb,fS,q1,W2,rfl⟩,q nb σ H1 _ (W.step s1) ?_⟩
    exact⟨fun nb ρ σ H q W=>⟨nb,ρ,q,W⟩,KK.nx,fun nb ρ σ H q W=>⟨nb,ρ,q,W⟩,KK.rt,KK.rw⟩
  |false=>rw[if_neg Bool.false_ne_true] at q⊢;exact KK.nx nb ρ' σ H1 q (W.step s1)
end Sv
def jK(mp:List (Option Nat))(ρ:Rh):Rh:=mp.map fun o=>match o with|none=> .no|some j=>match ρ[j]? with|some s=>s|none=> .no
theorem yh{mp:List (Option Nat)}(h:(mp.filterMap id).Nodup):∀{i j k:Nat},mp[i]?=some (some k)->mp[j]?=some (some k)->i=j:=by
  induction mp with
  |nil=>intro i j k e;simp at e
  | cons o r ih =>
    intro i j k e1 e2
    have hr:(r.filterMap id).Nodup:=by
      cases o with
      |none=>simpa using h
      |some x=>rw[List.filterMap_cons_some (by rfl)] at h;exact(List.nodup_cons.mp h).2
    have hn:∀{m:Nat},r[m]?=some (some k)->o≠some k:=fun{m} hm e=>by
      subst e
      rw[List.filterMap_cons_some (by rfl)] at h
      exact(List.nodup_cons.mp h).1 (List.mem_filterMap.mpr ⟨some k,List.mem_of_getElem? hm,rfl⟩)
    cases i with
    | zero =>
      cases j with
      |zero=>rfl
      |succ j=>simp at e1 e2;exact absurd e1 (hn e2)
    | succ i =>
      cases j with
      |zero=>simp at e1 e2;exact absurd e2 (hn e1)
      |succ j=>simp at e1 e2;rw[ih hr e1 e2]
theorem Wd.eH{nb:Addr->Prop}{σ:St}{H:Hp}{mp:List (Option Nat)}(W:Wd G nb ρ σ H)(hm:(mp.filterMap id).Nodup):Wd G nb (jK mp ρ) (eH mp σ) H:=by
  have hat:∀{i:Nat} {s:Sl},(jK mp ρ)[i]?=some s->s= .no\/∃k,mp[i]?=some (some k)/\ρ[k]?=some s:=fun{i s} e=>by
    unfold jK at e
    rw[List.getElem?_map] at e
    obtain⟨o,ho,e⟩:=Option.map_eq_some_iff.mp e
    cases o with
    |none=>exact .inl e.symm
    | some k =>
      cases hk:ρ[k]? with
      |none=>simp only[hk] at e;exact .inl e.symm
      |some s'=>simp only[hk] at e;subst e;exact .inr ⟨k,ho,hk⟩
  refine⟨W.aA,W.live,W.old,W.cR,W.gA,by unfold L2.eH jK;rw[List.length_map,List.length_map],W.gB,W.eW,fun i s e=>?_,fun i j a f as c g cs hij e1 e2=>?_,fun i j a f as c g cs hij e1 e2=>?_,fun i j c t hij e1 e2 a ha=>?_⟩
  · have hi:i<mp.length:=by have:=(List.getElem?_eq_some_iff.mp e).1;unfold jK at this;rwa[List.length_map] at this
    rcases hat e with rfl|⟨k,hk,hs⟩
    · exact⟨_,by unfold L2.eH;rw[List.getElem?_map,List.getElem?_eq_getElem hi];rfl,trivial⟩
    · obtain⟨x,e1,h⟩:=W.ok k s hs
      refine⟨x,?_,h⟩
      unfold L2.eH
      rw[List.getElem?_map,hk]
      simp only[Option.map_some,e1]
  · rcases hat e1 with z|⟨k,hk,hs⟩
    · cases z
    rcases hat e2 with z|⟨k',hk',hs'⟩
    · cases z
    exact W.apart k k' a f as c g cs (fun z=>by subst z;exact hij (yh hm hk hk')) hs hs'
  · rcases hat e1 with z|⟨k,hk,hs⟩
    · cases z
    rcases hat e2 with z|⟨k',hk',hs'⟩
    · cases z
    exact W.dY k k' a f as c g cs (fun z=>by subst z;exact hij (yh hm hk hk')) hs hs'
  · rcases hat e1 with z|⟨k,hk,hs⟩
    · cases z
    rcases hat e2 with z|⟨k',hk',hs'⟩
    · subst z;exact fun z=>by cases z
    exact W.dh k k' c t (fun z=>by subst z;exact hij (yh hm hk hk')) hs hs' a ha
def Fc(ρ:Rh)(acc:Addr):Prop:=(∀(j:Nat) a f ds,ρ[j]?=some (.own a f ds)->a≠acc)/\∀(j:Nat) c,ρ[j]?=some (.cu c)->acc∉c.F
def fY(G:Gx)(cg:Rh)(n:Nat)(it:Nat->PyData->Prop)(fi:Bool)(gt:TG)(tc:TT)(te:TE)(Θ:Bool->List PyData->Prop):Prop:=
 ∃(fl:Bool) (I:Nat->List PyData->Prop),I 0 []/\(∀i d ds,it i d->ds.length<=i->I i ds->Gv G cg gt fi d fun eN=>Wk cg eN/\Tv G eN tc fun b=>if b=true then Ev G eN te fun f e=>(fl=true->f=true)/\I (i+1) (ds++[e]) else I (i+1) ds)/\
  ∀ds,ds.length<=n->I n ds->Θ (fl||dP ds) ds
theorem AZ{gt:TG}{tc:TT}{nb:Addr->Prop}{acc:Addr}{σ:St}{H H1:Hp}{x:V}{fi fl:Bool}{I:Nat->List PyData->Prop}{xs:List V}{N:St->Hp->Prop}{ds:List PyData}{n:Nat}(hn:n<=10000)(hi:i<n)
    (W:Wd G nb cg σ H) (ha:nb acc) (hN:NB G.B acc) (hno:Fc cg acc) (st:Step G.B H1 H) (hacc:H1 acc=none) (hx:H acc=some (.lst xs)) (hd:af (G.S nb fl) H ds xs) (hl:ds.length<=i) (hxd:ah (G.S nb fi) H d x)
    (h:Gv G cg gt fi d fun eN=>Wk cg eN/\Tv G eN tc fun b=>if b=true then Ev G eN te fun f e=>(fl=true->f=true)/\I (i+1) (ds++[e]) else I (i+1) ds)
    (z:∀σ' H' ds' xs',Wd G nb cg σ' H'->Step G.B H1 H'->H' acc=some (.lst xs')->af (G.S nb fl) H' ds' xs'->ds'.length<=i+1->I (i+1) ds'->N σ' H'):
    gt x σ H fun σ2 H2=>tc σ2 H2 fun b H3=>if b=true then te σ2 H3 fun v H4=>∃ys,H4 acc=some (.lst ys)/\ys.length<sizeLine/\N σ2 (upd H4 acc (.lst (ys++[v]))) else N σ2 H3:=by
  refine h nb σ H x _ W hxd fun σ2 eN ⟨wk,q⟩ W2=>q nb σ2 H _ W2 fun b H3 q3 s3=>?_
  have E7:=s3.1 _ _ hN hx
  have HG:=hd.keep (s3.cH (nb:=nb) (f:=fl))
  cases b with
  | false =>
    rw[if_neg Bool.false_ne_true] at q3⊢
    exact z σ2 H3 ds xs ((W2.step s3).wk wk) (st.trans s3) E7 HG (by omega) q3
  | true =>
    rw[if_pos rfl] at q3⊢
    refine q3 nb σ2 H3 _ (W2.step s3) fun f v H4 e ⟨hf,hI⟩ s4 hv=>?_
    have EK:=s4.1 _ _ hN E7
    have L1:=HG.keep (s4.cH (nb:=nb) (f:=fl))
    have hlen:=hd.length
    refine⟨xs,EK,Nat.lt_of_lt_of_le (show xs.length<10001 by omega) (by decide),?_⟩
    have W4:Wd G nb cg σ2 H4:=((W2.step s3).step s4).wk wk
    have bt:aP (G.S nb fl) H4 (upd H4 acc (.lst (xs++[v]))):=aP.set (.inl ha)
    have W5:Wd G nb cg σ2 (upd H4 acc (.lst (xs++[v]))):=W4.write ha hN hno.1 (fun j a f ds e z=>by
      subst z
      obtain⟨_,_,_,_,_,ps,hp,_⟩:=W4.ok j _ e
      rw[EK] at hp;cases hp) hno.2
    refine z σ2 _ (ds++[e]) (xs++[v]) W5 ⟨fun a o n q=>?_,W5.aA⟩ aU (af.snoc ((hv.av (bU hf fun _ z=>z)).keep bt) (L1.keep bt)) (by rw[List.length_append,List.length_singleton];omega) hI
    have hne:a≠acc:=fun z=>by subst z;rw[hacc] at q;cases q
    rw[aN hne]
    exact(st.trans (s3.trans s4)).1 a o n q
theorem xA{nb:Addr->Prop}{σ:St}{H:Hp}{a:Addr}(W:Wd G nb ρ σ H)(ha:H a=none):Fc ρ a:=by
 refine⟨fun j c f ds e z=>?_,fun j c e z=>?_⟩
 ·subst z
  obtain⟨x,e1,h1,h2,h3,ys,hy,_⟩:=W.ok j _ e
  rw[hy] at ha;cases ha
 ·obtain⟨x,e1,h1,h2,h3⟩:=W.ok j _ e
  exact W.live a (h2 a z).1 ha
theorem Tn{nb:Addr->Prop}{a:Addr}{f:Bool}:∀x,(G.S nb f x\/x=a)->G.S (fun x=>nb x\/x=a) f x:=fun x z=>by
 rcases z with (z|z|z|z)|z
 ·exact .inl (.inl z)
 ·exact .inr (.inl z)
 ·exact .inr (.inr (.inl z))
 ·exact .inr (.inr (.inr z))
 ·exact .inl (.inr z)
theorem BH{nb:Addr->Prop}{acc:Addr}{H H1 H':Hp}{σ:St}{Q:VK}{Θ:Bool->List PyData->Prop}{xs:List V}{ds:List PyData}{fl:Bool}(W:Wd G nb ρ σ H)(s1:Step G.B H H1)(hacc:H1 acc=none)(s2:Step G.B H1 H')(hx:H' acc=some (.lst xs))(hd:af (G.S (fun x=>nb x\/x=acc) fl) H' ds xs)(p:Θ (fl||dP ds) ds)
  (z:∀f a xs H' ds,Θ f ds->Step G.B H H'->H a=none->H' a=some (.lst xs)->af (fun x=>G.S nb f x\/x=a) H' ds xs->Q (.ref a) H'):Q (.ref acc) H':=by
 refine z _ acc xs H' ds p (s1.trans s2) (W.none_of s1 hacc) hx ?_
 cases hs:dP ds with
 |true=>exact af.i9 hs hd
 |false=>rw[Bool.or_false];exact hd.av Tn
theorem NB.new{B:Bg}{H:Hp}{a:Addr}(h:iC B H)(ha:H a=none):NB B a:=Classical.byContradiction fun z=>NB.j8 h z ha
namespace ay
variable{Θ:Bool->List PyData->Prop}{gt:TG}{tc:TT}{mp:List (Option Nat)}
theorem O5{lo:Int}{n:Nat}{nb:Addr->Prop}{σ:St}{H H1:Hp}{Q:VK}(W:Wd G nb ρ σ H)(s1:Step G.B H H1)(hm:(mp.filterMap id).Nodup)(dG:jK mp ρ=cg)(hn:n<=10000)(h:fY G cg n (fun i d=>i<n/\d= .int (lo+i)) true gt tc te Θ)
  (z:∀f a xs H' ds,Θ f ds->Step G.B H H'->H a=none->H' a=some (.lst xs)->af (fun x=>G.S nb f x\/x=a) H' ds xs->Q (.ref a) H') (acc:Addr) (hacc:H1 acc=none):nU (gK lo n) gt tc te acc (fun H'=>Q (.ref acc) H') (eH mp σ) (upd H1 acc (.lst [])):=by
 obtain⟨fl,I,h0,ht,he⟩:=h
 have W0:Wd G nb cg (L2.eH mp σ) H1:=by rw[<-dG];exact(W.step s1).eH hm
 have W1:=W0.more hacc (o:= .lst [])
 have hN:=NB.new s1.2 hacc
 have hno:=xA W0 hacc
 have ny:Step G.B H1 (upd H1 acc (.lst [])):= .same s1.2 (bW hacc)
 refine R.wV (fun i σ H=>∃ds xs,Wd G (fun x=>nb x\/x=acc) cg σ H/\Step G.B H1 H/\H acc=some (.lst xs)/\af (G.S (fun x=>nb x\/x=acc) fl) H ds xs/\ds.length<=i/\I i ds) ⟨[],[],W1,ny,aU, .nil,Nat.le_refl _,h0⟩ ?_ ?_
 ·rintro i σ H hi ⟨ds,xs,W,st,hx,hd,hl,hI⟩
  exact AZ hn hi W (.inr rfl) hN hno st hacc hx hd hl (.int _) (ht i _ ds ⟨hi,rfl⟩ hl hI) fun σ' H' ds' xs' W' st' hx' hd' hl' hI'=>⟨ds',xs',W',st',hx',hd',hl',hI'⟩
 ·rintro σ H' ⟨ds,xs,W',st,hx,hd,hl,hI⟩
  exact BH W s1 hacc st hx hd (he ds hl hI) z
theorem ig{t0:TE}(hm:(mp.filterMap id).Nodup)(dG:jK mp ρ=cg)(h:Ev G ρ t0 fun _ x=>∃n:Int,x= .int n/\ -10000<=n/\n<=10000/\fY G cg n.toNat (fun i d=>i<n.toNat/\d= .int (0+i)) true gt tc te Θ):ay G ρ (jE (o5 (aS t0 bh)) gt tc te mp) Θ:=fun nb σ H Q W z=>
 h nb σ H _ W fun f v H1 x ⟨n,ex,h1,h2,q⟩ s1 hv=>by
  subst ex
  rw[hv.bD]
  exact⟨n,rfl,by omega,by omega,O5 W s1 hm dG (by omega) q z⟩
theorem fT{t0:TE}(hm:(mp.filterMap id).Nodup)(dG:jK mp ρ=cg)(h:Ev G ρ t0 fun fi x=>∃es,x= .list es/\es.length<=10000/\∀v,fY (G.hd fi (.list es) v) cg es.length (fun i d=>es[i]?=some d) fi gt tc te Θ):ay G ρ (jE (nh K t0) gt tc te mp) Θ:=fun nb σ H Q W z=>
 h nb σ H _ W fun fi v H1 x ⟨es,ex,hn,q⟩ s1 hv=>by
  subst ex
  obtain⟨fl,I,h0,ht,he⟩:=q v
  have W0:=(W.step s1).hd hv
  obtain⟨a,xs,rfl,n,hx,hd⟩:=hv.cU
  refine⟨a,rfl,⟨xs, .of hx⟩,fun acc hacc=>?_⟩
  have qc:Wd (G.hd fi (.list es) (.ref a)) nb cg (L2.eH mp σ) H1:=by rw[<-dG];exact W0.eH hm
  have W1:=qc.more hacc (o:= .lst [])
  have hN:=NB.new s1.2 hacc
  have hno:=xA qc hacc
  have ny:Step G.B H1 (upd H1 acc (.lst [])):= .same s1.2 (bW hacc)
  have pN:NB G.B a:=Classical.byContradiction fun z=>n (.inr (.inr (.inl z)))
  refine R.D5 (xs:=xs) (fun i σ H=>∃ds ys,Wd (G.hd fi (.list es) (.ref a)) (fun x=>nb x\/x=acc) cg σ H/\Step G.B H1 H/\H acc=some (.lst ys)/\af (G.S (fun x=>nb x\/x=acc) fl) H ds ys/\ds.length<=i/\I i ds) ⟨[],[],W1,ny,aU, .nil,Nat.le_refl _,h0⟩ ?_ ?_ ?_
  ·rintro i σ H hi ⟨ds,ys,W,st,_⟩
   exact .of (st.1 _ _ pN hx)
  ·rintro i x σ H hi ⟨ds,ys,W,st,hy,hd',hl,hI⟩
   obtain⟨a',xs',e',_,h',d'⟩:=W.lz.2.cU
   cases e'
   rw[st.1 _ _ pN hx] at h';cases h'
   have hil:i<es.length:=by have:=(List.getElem?_eq_some_iff.mp hi).1;have:=d'.length;omega
   obtain⟨x',hx',dx⟩:=d'.get (List.getElem?_eq_getElem hil)
   rw[hi] at hx';cases hx'
   exact AZ (G:=G.hd fi (.list es) (.ref a)) hn hil W (.inr rfl) hN hno st hacc hy hd' hl dx (ht i _ ds (List.getElem?_eq_getElem hil) hl hI) fun σ' H' ds' xs' W' st' hx' hd' hl' hI'=>⟨ds',xs',W',st',hx',hd',hl',hI'⟩
  ·rintro σ H' ⟨ds,ys,W',st,hy,hd',hl,hI⟩
   rw[hd.length] at hl hI
   exact BH W s1 hacc st hy hd' (he ds hl hI) z
end ay
end
end L2
set_option maxRecDepth 100000
set_option maxHeartbeats 1000000
namespace L2
open PySem PySem.Spec PyProof.Rows
section
variable{ρ:Rh}{t:TS}{N:List Str}{vs:List V}{ds:List PyData}{nb:Addr->Prop}{H:Hp}{Q:VK}{Φ:Pd}{b l:Addr}
theorem iU{xs:List V}(h:af nb H ds xs){i:Nat}{s:Sl}(e:(ds.map (Sl.d false))[i]?=some s):∃v d,xs[i]?=some v/\s= .d false d/\ah nb H d v:=by
 rw[List.getElem?_map] at e
 obtain⟨d,hd,e⟩:=Option.map_eq_some_iff.mp e
 obtain⟨v,hv,q⟩:=h.get hd
 exact⟨v,d,hv,e.symm,q⟩
theorem Sv.fk(hl:jd nb H)(hd:af nb H ds vs)(aC:∀f d v H',Φ f d->bx H H'->ah (fun a=>nb a\/(f=true/\H a≠none)) H' d v->Q v H')
  (dG:ρ=ds.map (Sl.d false)++List.replicate (N.length-ds.length) .no) (h:Sv ⟨none,H,nb,[]⟩ ρ t {nx:=fun _=>Φ true .none,rt:=Φ}):t {nx:=fun _ H'=>Q .aE H',rt:=Q} (start N vs) H:=by
 have hlen:=hd.length
 have sm:∀{aM ρ' σ' H'},Wd ⟨none,H,nb,[]⟩ aM ρ' σ' H'->bx H H':=fun W a o e=>W.old a o (fun _ _ z=>(by cases z)) e
 refine h (fun _=>False) _ H _ ⟨fun _ _ z=>(by cases z),fun _ z=>z.elim,fun _ _ _ e=>e,fun _ z=>z.elim,hl,?_,fun _ _ z=>(by cases z),fun _ m=>(by cases m),fun i s e=>?_,?_,?_,?_⟩ ⟨fun aM ρ' σ' H' q W=>aC _ _ _ _ q (sm W) .aE,fun _ _ _ _ q _=>q.elim,fun _ _ _ _ q _=>q.elim,fun aM ρ' σ' f v H' d q W hv=>aC f d v H' q (sm W) (hv.av fun a z=>?_),fun _ _ _ _ _ q _=>q.elim⟩
 ·rw[dG];unfold start;simp[hlen]
 ·rw[dG] at e
  unfold start
  by_cases hi:i<ds.length
  ·rw[List.getElem?_append_left (by rw[List.length_map];exact hi)] at e
   obtain⟨v,d,hv,rfl,q⟩:=iU hd e
   refine⟨some v,?_,v,rfl,q.av fun a z=>?_⟩
   ·rw[List.getElem?_append_left (by rw[List.length_map,hlen];exact hi),List.getElem?_map,hv];rfl
   ·rcases z with z|z|z|z
    ·exact z.elim
    ·exact z
    ·exact absurd (fun _ _ z=>(by cases z)) z
    ·cases z.1
  ·rw[List.getElem?_append_right (by rw[List.length_map];omega),List.getElem?_replicate] at e
   split at e
   ·rename_i h'
    cases e
    refine⟨none,?_,trivial⟩
    rw[List.length_map] at h'
    rw[List.getElem?_append_right (by rw[List.length_map];omega),List.getElem?_replicate,if_pos (by rw[List.length_map,hlen];exact h')]
   ·cases e
 ·intro i j a f as c g cs hij e1
  rw[dG] at e1
  by_cases hi:i<ds.length
  ·rw[List.getElem?_append_left (by rw[List.length_map];exact hi)] at e1
   obtain⟨_,_,_,z,_⟩:=iU hd e1
   cases z
  ·rw[List.getElem?_append_right (by rw[List.length_map];omega),List.getElem?_replicate] at e1
   split at e1<;>cases e1
 ·intro i j a f as c g cs hij e1
  rw[dG] at e1
  by_cases hi:i<ds.length
  ·rw[List.getElem?_append_left (by rw[List.length_map];exact hi)] at e1
   obtain⟨_,_,_,z,_⟩:=iU hd e1
   cases z
  ·rw[List.getElem?_append_right (by rw[List.length_map];omega),List.getElem?_replicate] at e1
   split at e1<;>cases e1
 ·intro i j c t hij e1
  rw[dG] at e1
  by_cases hi:i<ds.length
  ·rw[List.getElem?_append_left (by rw[List.length_map];exact hi)] at e1
   obtain⟨_,_,_,z,_⟩:=iU hd e1
   cases z
  ·rw[List.getElem?_append_right (by rw[List.length_map];omega),List.getElem?_replicate] at e1
   split at e1<;>cases e1
 ·rcases z with z|z
  ·exact .inr (.inl z)
  ·exact .inr (.inr (.inr z))
theorem Sv.kR(hB:cG H b l)(hl:jd nb H)(hb:nb b)(hd:af nb H ds vs)(aC:∀f d v H',Φ f d->aP (Nb b) H H'->cG H' b l->ah (fun a=>nb a\/(f=true/\H a≠none)) H' d v->Q v H')
    (dG:ρ= .aA::ds.map (Sl.d false)++List.replicate (N.length-(ds.length+1)) .no) (h:Sv ⟨some (b,l),H,nb,[]⟩ ρ t {nx:=fun _=>Φ true .none,rt:=Φ}):t {nx:=fun _ H'=>Q .aE H',rt:=Q} (start N (.ref b::vs)) H:=by
  have hlen:=hd.length
  have kr:∀a,a≠b->NB (some (b,l)) a:=fun a n b' l' e=>by cases e;exact n
  have JQ:∀a,¬NB (some (b,l)) a->a=b:=fun a n=>Classical.byContradiction fun z=>n (kr a z)
  have bt:∀{aM ρ' σ' H'},Wd ⟨some (b,l),H,nb,[]⟩ aM ρ' σ' H'->aP (Nb b) H H':=fun W a o n e=>W.old a o (kr a n) e
  have bg:∀{aM ρ' σ' H'},Wd ⟨some (b,l),H,nb,[]⟩ aM ρ' σ' H'->cG H' b l:=fun W=>W.aA b l rfl
  refine h (fun _=>False) _ H _ ⟨fun b' l' e=>(by cases e;exact hB),fun _ z=>z.elim,fun _ _ _ e=>e,fun _ z=>z.elim,hl,?_,fun b' l' e=>(by cases e;exact hB),fun _ m=>(by cases m),fun i s e=>?_,?_,?_,?_⟩ ⟨fun aM ρ' σ' H' q W=>aC _ _ _ _ q (bt W) (bg W) .aE,fun _ _ _ _ q _=>q.elim,fun _ _ _ _ q _=>q.elim,fun aM ρ' σ' f v H' d q W hv=>aC f d v H' q (bt W) (bg W) (hv.av fun a z=>?_),fun _ _ _ _ _ q _=>q.elim⟩
  · rw[dG];unfold start;simp[hlen]
  · rw[dG] at e
    unfold start
    cases i with
    |zero=>simp at e;subst e;exact⟨some (.ref b),by simp,b,l,rfl,rfl⟩
    | succ i =>
      simp only[List.cons_append,List.getElem?_cons_succ,List.map_cons,List.length_cons] at e⊢
      by_cases hi:i<ds.length
      · rw[List.getElem?_append_left (by rw[List.length_map];exact hi)] at e
        obtain⟨v,d,hv,rfl,q⟩:=iU hd e
        refine⟨some v,?_,v,rfl,q.av fun a z=>?_⟩
        · rw[List.getElem?_append_left (by rw[List.length_map,hlen];exact hi),List.getElem?_map,hv];rfl
        · rcases z with z|z|z|z
          · exact z.elim
          · exact z
          · rw[JQ a z];exact hb
          · cases z.1
      · rw[List.getElem?_append_right (by rw[List.length_map];omega),List.getElem?_replicate] at e
        split at e
        · rename_i h'
          cases e
          refine⟨none,?_,trivial⟩
          rw[List.length_map] at h'
          rw[List.getElem?_append_right (by rw[List.length_map];omega),List.getElem?_replicate,if_pos (by rw[List.length_map,hlen];exact h')]
        · cases e
  · intro i j a f as c g cs hij e1
    rw[dG] at e1
    cases i with
    |zero=>simp at e1
    | succ i =>
      simp only[List.cons_append,List.getElem?_cons_succ] at e1
      by_cases hi:i<ds.length
      · rw[List.getElem?_append_left (by rw[List.length_map];exact hi)] at e1
        obtain⟨_,_,_,z,_⟩:=iU hd e1
        cases z
      · rw[List.getElem?_append_right (by rw[List.length_map];omega),List.getElem?_replicate] at e1
        split at e1<;>cases e1
  · intro i j a f as c g cs hij e1
    rw[dG] at e1
    cases i with
    |zero=>simp at e1
    | succ i =>
      simp only[List.cons_append,List.getElem?_cons_succ] at e1
      by_cases hi:i<ds.length
      · rw[List.getElem?_append_left (by rw[List.length_map];exact hi)] at e1
        obtain⟨_,_,_,z,_⟩:=iU hd e1
        cases z
      · rw[List.getElem?_append_right (by rw[List.length_map];omega),List.getElem?_replicate] at e1
        split at e1<;>cases e1
  · intro i j c t hij e1
    rw[dG] at e1
    cases i with
    |zero=>simp at e1
    | succ i =>
      simp only[List.cons_append,List.getElem?_cons_succ] at e1
      by_cases hi:i<ds.length
      · rw[List.getElem?_append_left (by rw[List.length_map];exact hi)] at e1
        obtain⟨_,_,_,z,_⟩:=iU hd e1
        cases z
      · rw[List.getElem?_append_right (by rw[List.length_map];omega),List.getElem?_replicate] at e1
        split at e1<;>cases e1
  · rcases z with z|z
    · exact .inr (.inl z)
    · exact .inr (.inr (.inr z))
def vq(b l:Addr)(H:Hp):Gx:=⟨some (b,l),H,fun _=>False,[]⟩
theorem Sy{a:Addr}{m:Nat}(hB:cG H b l):Wd (vq b l H) (fun _=>False) (.raw (.ref a):: .aA::List.replicate m .no) (some (.ref a)::some (.ref b)::List.replicate m none) H:=by
  refine⟨fun b' l' e=>(by cases e;exact hB),fun _ z=>z.elim,fun _ _ _ e=>e,fun _ z=>z.elim,fun _ z=>z.elim,by simp,fun b' l' e=>(by cases e;exact hB),fun _ m=>(by cases m),fun i s e=>?_,?_,?_,?_⟩
  · match i with
    |0=>simp at e;subst e;exact⟨_,rfl,rfl⟩
    |1=>simp at e;subst e;exact⟨some (.ref b),rfl,b,l,rfl,rfl⟩
    | i + 2 =>
      simp only[List.getElem?_cons_succ,List.getElem?_replicate] at e⊢
      split at e
      · rename_i h;cases e;exact⟨none,if_pos h,trivial⟩
      · cases e
  · intro i j a f as c g cs hij e1
    match i with
    |0=>simp at e1
    |1=>simp at e1
    | i + 2 =>
      simp only[List.getElem?_cons_succ,List.getElem?_replicate] at e1
      split at e1<;>cases e1
  · intro i j a f as c g cs hij e1
    match i with
    |0=>simp at e1
    |1=>simp at e1
    | i + 2 =>
      simp only[List.getElem?_cons_succ,List.getElem?_replicate] at e1
      split at e1<;>cases e1
  · intro i j c t hij e1
    match i with
    |0=>simp at e1
    |1=>simp at e1
    | i + 2 =>
      simp only[List.getElem?_cons_succ,List.getElem?_replicate] at e1
      split at e1<;>cases e1
theorem Ev.aaE{G:Gx}{i:Nat}{a:Addr}{ns:List Int}{K:PySem.W.Frag}(e:ρ[i]?=some (.raw (.ref a)))(hS:aQ K G.H0 a (ns.map V.int))(h:Φ true (.int ns.length)):Ev G ρ (dw (gk K) (aS (bq i) bh)) Φ:=fun nb σ H Q W z=>by
 obtain⟨x,e1,h1⟩:=W.ok i _ e
 have h1:x=some (.ref a):=h1
 subst h1
 have hS':aQ K H a (ns.map V.int):=by
  rcases hS with hr|hk
  ·have hn:NB G.B a:=fun b l hb z=>by
    subst z
    obtain⟨_,_,_,_,_,g1,_⟩:=W.gB _ _ hb
    rcases hr with hr|⟨o,hr⟩
    ·rw[g1] at hr
     have:=HO.lst.inj (Option.some.inj hr)
     cases ns with
     |nil=>cases this
     |cons n r=>rw[List.map_cons] at this;cases (List.cons.inj this).1
    ·rw[g1] at hr;cases hr
   rcases hr with hr|⟨o,hr⟩
   ·exact .inl (.inl (W.old _ _ hn hr))
   ·exact .inl (.inr ⟨o,W.old _ _ hn hr⟩)
  ·exact .inr hk
 refine⟨.ref a,e1,a,_,rfl, .inl hS',?_⟩
 rw[List.length_map]
 exact z true _ H _ h (.refl W.aA) (.int _)
theorem Lx{D:Ends}(h2:∀H,D.rt (.bl true) H):ze (vq b l H) {nx:=fun _=>False,rt:=fun _ d=>d= .bool true} D:=
 ⟨fun _ _ _ _ q _=>q.elim,fun _ _ _ _ q _=>q.elim,fun _ _ _ _ q _=>q.elim,fun _ _ _ f v H d q _ hv=>by subst q;unfold ah at hv;subst hv;exact h2 H,fun _ _ _ _ _ q _=>q.elim⟩
end
namespace R
theorem di{P:Int->Prop}{i:Int}(h:P i):∃j,PyData.int i= .int j/\P j:=⟨i,rfl,h⟩
theorem db{P:Bool->Prop}{i:Bool}(h:P i):∃j,PyData.bool i= .bool j/\P j:=⟨i,rfl,h⟩
theorem dl{P:List PyData->Prop}{i:List PyData}(h:P i):∃j,PyData.list i= .list j/\P j:=⟨i,rfl,h⟩
theorem dt{P:List PyData->Prop}{i:List PyData}(h:P i):∃j,PyData.tuple i= .tuple j/\P j:=⟨i,rfl,h⟩
theorem Wc{P:List PyData->Prop}{i:List PyData}(h:P i):∃j,(PyData.list i= .list j\/PyData.list i= .tuple j)/\P j:=⟨i, .inl rfl,h⟩
theorem T9{P:List PyData->Prop}{i:List PyData}(h:P i):∃j,(PyData.tuple i= .list j\/PyData.tuple i= .tuple j)/\P j:=⟨i, .inr rfl,h⟩
theorem Tc{P:Bool->Prop}{i j:Int}(h:P (decide (i=j))):∃b,fF (.int i) (.int j) b/\P b:=⟨_, .ii i j,h⟩
theorem LP{P:Bool->Prop}{x y:Bool}(h:P (x==y)):∃b,fF (.bool x) (.bool y) b/\P b:=⟨_, .bb x y,h⟩
theorem at_{ds:List PyData}{k:Int}{e:PyData}{P:PyData->Prop}(h:bB ds k=some e)(q:P e):∃e,bB ds k=some e/\P e:=⟨e,h,q⟩
theorem XD{A:Prop}(q:A):([]:List Fd).length<=10000/\A:=⟨by decide,q⟩
theorem OV{C A:Prop}(c:C)(q:A):C/\A:=⟨c,q⟩
end R
end L2
set_option maxRecDepth 100000
set_option maxHeartbeats 1000000
namespace L2
open PySem PySem.Spec PyProof.Rows
abbrev ak:=List (Int×Int)
abbrev Wo:=List (Option Int)
abbrev dg(prs:ak):PyData:= .list (prs.map pairD)
abbrev eZ(wd:Wo):PyData:= .list (wd.map cM)
abbrev cS(p n:Int)(cs:List ak):PyData:= .tuple [.int p, .int n, .list (cs.map dg)]
def sJ(prs:ak)(wd:Wo):Prop:=∃pr∈prs,wd[pr.1.toNat]?=some none
instance{prs:ak}{wd:Wo}:Decidable (sJ prs wd):=by unfold sJ;infer_instance
def ou(p:Int)(prs:ak)(wd:Wo):Option Int:=if sJ prs wd then none else some (aG prs wd%p)
def jt(prs:ak)(m:Nat):Prop:=∀pr∈prs,0<=pr.1/\pr.1<m/\Sm pr.2
def fE(wd:Wo):Prop:=∀x,some x∈wd->Sm x
theorem nO{α β:Type}{xs:List α}(φ:α->β){k:Int}{m:Nat}(h0:0<=k)(h1:k<m)(hm:m=xs.length):∃x,xs[k.toNat]?=some x/\bB (xs.map φ) k=some (φ x):=by
 have hk:k.toNat<xs.length:=by omega
 exact⟨xs[k.toNat],List.getElem?_eq_getElem hk,gC h0 (by rw[List.getElem?_map,List.getElem?_eq_getElem hk];rfl)⟩
theorem cW{α β:Type}{xs:List α}{φ:α->β}{i:Nat}{d:β}(h:(xs.map φ)[i]?=some d):∃x,xs[i]?=some x/\d=φ x:=by
 rw[List.getElem?_map] at h
 obtain⟨x,hx,e⟩:=Option.map_eq_some_iff.mp h
 exact⟨x,hx,e.symm⟩
theorem take_snoc{α:Type}{xs:List α}{i:Nat}{x:α}(h:xs[i]?=some x):xs.take (i+1)=xs.take i++[x]:=by
 rw[List.take_add_one,h];rfl
theorem wz(o:Option Int):rZ (cM o)=o.isNone:=by cases o<;>rfl
end L2
set_option maxRecDepth 100000
set_option maxHeartbeats 4000000
namespace L2
open PySem PySem.Spec PyProof.Rows
structure Eu(p b L lt r t:Int):Prop where
 l0:0<L
 r0:0<=r
 lp:L<=p
 rp:r<=p
 lc:∃k,L=lt*b+p*k
 rc:∃k,r=t*b+p*k
 dv:∀d,d∣L->d∣r->d∣p/\d∣b%p
 sz:(t.natAbs:Int)*L+(lt.natAbs:Int)*r<=p
theorem Eu.start{p b:Int}(hp:2<=p):Eu p b p 0 (b%p) 1:=by
 have m1:=Int.emod_nonneg b (show p≠0 by omega)
 have m2:=Int.emod_lt_of_pos b (show 0<p by omega)
 refine⟨by omega,m1,Int.le_refl _,by omega,⟨1,by rw[Int.zero_mul,Int.zero_add,Int.mul_one]⟩,⟨-(b/p),?_⟩,fun d h1 h2=>⟨h1,h2⟩,?_⟩
 ·have:=Int.mul_ediv_add_emod b p
  rw[Int.one_mul,Int.mul_neg]
  omega
 ·show(1:Int)*p+0*(b%p)<=p
  rw[Int.one_mul,Int.zero_mul]
  omega
theorem Eu.tb{p b L lt r t:Int}(h:Eu p b L lt r t): -p<=t/\t<=p:=by
 have h1:(t.natAbs:Int)*1<=(t.natAbs:Int)*L:=Int.mul_le_mul_of_nonneg_left (by have:=h.l0;omega) (by omega)
 have h2:0<=(lt.natAbs:Int)*r:=Int.mul_nonneg (by omega) h.r0
 have:=h.sz
 omega
theorem Eu.next{p b L lt r t:Int}(h:Eu p b L lt r t)(hr:0<r):Eu p b r t (L-L/r*r) (lt-L/r*t)/\L-L/r*r<r:=by
 have e:=Int.mul_ediv_add_emod L r
 have m1:=Int.emod_nonneg L (show r≠0 by omega)
 have m2:=Int.emod_lt_of_pos L hr
 have e':L-L/r*r=L%r:=by rw[Int.mul_comm (L/r) r];omega
 have q0:0<=L/r:=Int.ediv_nonneg (by have:=h.l0;omega) (by omega)
 obtain⟨k1,c1⟩:=h.lc
 obtain⟨k2,c2⟩:=h.rc
 refine⟨⟨hr,by omega,h.rp,by have:=h.rp;omega,h.rc,⟨k1-L/r*k2,?_⟩,fun d d1 d2=>?_,?_⟩,by omega⟩
 ·rw[Int.sub_mul,Int.mul_sub]
  generalize L/r=q at*
  have z:q*r=q*(t*b)+q*(p*k2):=by rw[<-Int.mul_add,<-c2]
  have z1:q*(t*b)=q*t*b:=(Int.mul_assoc q t b).symm
  have z2:q*(p*k2)=p*(q*k2):=by rw[<-Int.mul_assoc,Int.mul_comm q p,Int.mul_assoc]
  omega
 ·have dL:d∣L:=by
   have z:d∣(L-L/r*r)+L/r*r:=Int.dvd_add d2 (Int.dvd_mul_of_dvd_right d1)
   have z2:(L-L/r*r)+L/r*r=L:=by omega
   rwa[z2] at z
  exact h.dv d dL d1
 ·generalize L/r=q at*
  have a1:((lt-q*t).natAbs:Int)<=(lt.natAbs:Int)+q*(t.natAbs:Int):=by
   have b1:(lt-q*t).natAbs<=lt.natAbs+(q*t).natAbs:=by omega
   have b2:((q*t).natAbs:Int)=q*(t.natAbs:Int):=by
    rw[Int.natAbs_mul]
    have:(q.natAbs:Int)=q:=by omega
    rw[Int.natCast_mul,this]
   omega
  have a2:((lt-q*t).natAbs:Int)*r<=((lt.natAbs:Int)+q*(t.natAbs:Int))*r:=Int.mul_le_mul_of_nonneg_right a1 (by omega)
  have a3:((lt.natAbs:Int)+q*(t.natAbs:Int))*r=(lt.natAbs:Int)*r+q*(t.natAbs:Int)*r:=Int.add_mul _ _ _
  have a4:(t.natAbs:Int)*(L-q*r)=(t.natAbs:Int)*L-q*(t.natAbs:Int)*r:=by
   rw[Int.mul_sub,<-Int.mul_assoc,Int.mul_comm (t.natAbs:Int) q]
  have:=h.sz
  omega
theorem i6{α:Type}{us:List α}(h:us.length=1):∃a,us=[a]:=by
  cases us with
  |nil=>cases h
  | cons a us =>
    cases us with
    |nil=>exact⟨a,rfl⟩
    |cons _ _=>cases h
theorem ln2{α:Type}{us:List α}(h:us.length=2):∃a b,us=[a,b]:=by
  cases us with
  |nil=>cases h
  | cons a us =>
    obtain⟨b,rfl⟩:=i6 (us:=us) (Nat.succ.inj h)
    exact⟨a,b,rfl⟩
theorem i8{α:Type}{us:List α}(h:us.length=3):∃a b c,us=[a,b,c]:=by
  cases us with
  |nil=>cases h
  | cons a us =>
    obtain⟨b,c,rfl⟩:=ln2 (us:=us) (Nat.succ.inj h)
    exact⟨a,b,c,rfl⟩
theorem z5{α:Type}{us:List α}(h:us.length=4):∃a b c d,us=[a,b,c,d]:=by
  cases us with
  |nil=>cases h
  | cons a us =>
    obtain⟨b,c,d,rfl⟩:=i8 (us:=us) (Nat.succ.inj h)
    exact⟨a,b,c,d,rfl⟩
theorem Yb{α:Type}{us:List α}(h:us.length=5):∃a b c d e,us=[a,b,c,d,e]:=by
  cases us with
  |nil=>cases h
  | cons a us =>
    obtain⟨b,c,d,e,rfl⟩:=z5 (us:=us) (Nat.succ.inj h)
    exact⟨a,b,c,d,e,rfl⟩
end L2
set_option maxRecDepth 100000
set_option maxHeartbeats 1000000
namespace L2
open PySem PySem.Spec PyProof.Rows
def iM(xs:Array Nat):Prop:=∀(i j x y:Nat),i<j->xs[i]?=some x->xs[j]?=some y->x<y
theorem QG{xs:Array Nat}{q:Nat}(hr:iM xs):∀(f lo hi:Nat),hi<=xs.size->lo<=hi->hi-lo<=f->(∀i x,i<lo->xs[i]?=some x->x<q)->(∀i x,hi<=i->xs[i]?=some x->q<=x)->
    lo<=SetTable.below.go xs q f lo hi/\SetTable.below.go xs q f lo hi<=hi/\(∀i x,i<SetTable.below.go xs q f lo hi->xs[i]?=some x->x<q)/\(∀i x,SetTable.below.go xs q f lo hi<=i->xs[i]?=some x->q<=x):=by
  intro f
  induction f with
  | zero =>
    intro lo hi h1 h2 h3 h4 h5
    have e:lo=hi:=by omega
    subst e
    exact⟨Nat.le_refl _,Nat.le_refl _,h4,h5⟩
  | succ f ih =>
    intro lo hi h1 h2 h3 h4 h5
    unfold SetTable.below.go
    by_cases hlt:lo<hi
    · rw[if_pos hlt]
      have hm:(lo+hi)/2<xs.size:=by omega
      have hg:xs[(lo+hi)/2]?=some xs[(lo+hi)/2]:=Array.getElem?_eq_getElem hm
      have hgd:xs.getD ((lo+hi)/2) q=xs[(lo+hi)/2]:=by rw[Array.getD_eq_getD_getElem?,hg];rfl
      dsimp only
      rw[hgd]
      by_cases hc:xs[(lo+hi)/2]<q
      · rw[if_pos hc]
        obtain⟨a1,a2,a3,a4⟩:=ih ((lo+hi)/2+1) hi h1 (by omega) (by omega) (fun i x hi' e=>by
          rcases Nat.lt_or_ge i ((lo+hi)/2) with z|z
          · exact Nat.lt_trans (hr i _ x _ z e hg) hc
          · have:i=(lo+hi)/2:=by omega
            subst this;rw[hg] at e;cases e;exact hc) h5
        exact⟨by omega,a2,a3,a4⟩
      · rw[if_neg hc]
        obtain⟨a1,a2,a3,a4⟩:=ih lo ((lo+hi)/2) (by omega) (by omega) (by omega) h4 (fun i x hi' e=>by
          rcases Nat.lt_or_ge ((lo+hi)/2) i with z|z
          · exact Nat.le_of_lt (Nat.lt_of_le_of_lt (Nat.le_of_not_lt hc) (hr _ i _ x z hg e))
          · have:i=(lo+hi)/2:=by omega
            subst this;rw[hg] at e;cases e;exact Nat.le_of_not_lt hc)
        exact⟨a1,by omega,a3,a4⟩
    · rw[if_neg hlt]
      have e:lo=hi:=by omega
      subst e
      exact⟨Nat.le_refl _,Nat.le_refl _,h4,h5⟩
theorem below_at{xs:Array Nat}{q:Nat}(hr:iM xs):SetTable.below xs q<=xs.size/\(∀i x,i<SetTable.below xs q->xs[i]?=some x->x<q)/\(∀i x,SetTable.below xs q<=i->xs[i]?=some x->q<=x):=by
 obtain⟨_,h2,h3,h4⟩:=QG (q:=q) hr xs.size 0 xs.size (Nat.le_refl _) (Nat.zero_le _) (by omega) (fun i x h=>absurd h (Nat.not_lt_zero _)) (fun i x h e=>by
  have:=(Array.getElem?_eq_some_iff.mp e).1;omega)
 exact⟨h2,h3,h4⟩
theorem Q7{α:Type}{xs:Array α}{p:Nat}{x:α}(hp:p<=xs.size)(i:Nat):(SetTable.insertAt xs p x)[i]?=if i<p then xs[i]? else if i=p then some x else xs[i-1]?:=by
 unfold SetTable.insertAt
 rw[Array.getElem?_append]
 have e1:((xs.extract 0 p).push x).size=p+1:=by rw[Array.size_push,Array.size_extract];omega
 rw[e1]
 by_cases h1:i<p
 ·rw[if_pos (show i<p+1 by omega),if_pos h1,Array.getElem?_push,if_neg (by rw[Array.size_extract];omega),Array.getElem?_extract_of_lt (by omega)]
  simp
 ·rw[if_neg h1]
  by_cases h2:i=p
  ·rw[if_pos (show i<p+1 by omega),if_pos h2,Array.getElem?_push,if_pos (by rw[Array.size_extract];omega)]
  ·rw[if_neg (show¬i<p+1 by omega),if_neg h2]
   by_cases h3:i-(p+1)<xs.size-p
   ·rw[Array.getElem?_extract_of_lt (by omega),<-Array.getElem?_eq_getElem,show p+(i-(p+1))=i-1 by omega]
   ·rw[Array.getElem?_eq_none (by rw[Array.size_extract];omega),Array.getElem?_eq_none (by omega)]
theorem iM.insert{xs:Array Nat}{q:Nat}(hr:iM xs)(hq:xs[SetTable.below xs q]?≠some q):iM (SetTable.insertAt xs (SetTable.below xs q) q):=by
 obtain⟨h1,h2,h3⟩:=below_at (q:=q) hr
 have h3':∀i x,SetTable.below xs q<=i->xs[i]?=some x->q<x:=fun i x hi e=>by
  rcases Nat.lt_or_eq_of_le (h3 i x hi e) with z|z
  ·exact z
  ·subst z
   rcases Nat.lt_or_eq_of_le hi with z|z
   ·have hb:SetTable.below xs q<xs.size:=Nat.lt_of_lt_of_le z (Nat.le_of_lt (Array.getElem?_eq_some_iff.mp e).1)
    have hg:xs[SetTable.below xs q]?=some xs[SetTable.below xs q]:=Array.getElem?_eq_getElem hb
    have:=hr _ i _ q z hg e
    have:=h3 _ _ (Nat.le_refl _) hg
    omega
   ·rw[<-z] at e;exact absurd e hq
 intro i j x y hij ex ey
 rw[Q7 h1] at ex ey
 by_cases a:i<SetTable.below xs q
 ·rw[if_pos a] at ex
  by_cases b:j<SetTable.below xs q
  ·rw[if_pos b] at ey;exact hr i j x y hij ex ey
  ·rw[if_neg b] at ey
   by_cases c:j=SetTable.below xs q
   ·rw[if_pos c] at ey;cases ey;exact h2 i x a ex
   ·rw[if_neg c] at ey;exact hr i (j-1) x y (by omega) ex ey
 ·rw[if_neg a] at ex
  by_cases c:i=SetTable.below xs q
  ·rw[if_pos c] at ex;cases ex
   rw[if_neg (by omega),if_neg (by omega)] at ey
   exact h3' (j-1) y (by omega) ey
  ·rw[if_neg c] at ex
   rw[if_neg (by omega),if_neg (by omega)] at ey
   exact hr (i-1) (j-1) x y (by omega) ex ey
theorem Xd{t:SetTable}{ha:Nat->Int}{h:Int}:∀(f:Nat) (p:SetTable.Probe) (j:Nat) (dm:Option Nat),(∀d,p.dummy=some d->t.slot d= .dummy)->SetTable.probe.go t ha h f p=some (.empty j dm)->t.slot j= .empty/\∀d,dm=some d->t.slot d= .dummy:=by
  intro f
  induction f with
  |zero=>intro p j dm _ e;unfold SetTable.probe.go at e;cases e
  | succ f ih =>
    intro p j dm hd e
    have Ef:∀p:SetTable.Probe,(t.advance p).dummy=p.dummy:=fun p=>by unfold SetTable.advance;split<;>rfl
    unfold SetTable.probe.go at e
    cases hs:t.slot p.j with
    |empty=>rw[hs] at e;cases e;exact⟨hs,hd⟩
    |dummy=>rw[hs] at e;exact ih _ j dm (fun d h'=>by rw[Ef] at h';cases h';exact hs) e
    | live i =>
      rw[hs] at e
      dsimp only at e
      split at e
      · cases e
      · exact ih _ j dm (fun d h'=>by rw[Ef] at h';exact hd d h') e
theorem DJ{t:SetTable}{h:Int}{j:Nat}{wd:Bool}(e:t.freeSlot h=some (j,wd)):∀i,t.slot j≠ .live i:=by
 unfold SetTable.freeSlot SetTable.probe at e
 intro i z
 split at e
 ·rename_i j0 dm he
  obtain⟨h1,h2⟩:=Xd (10*SetTable.turns t.mask) (t.probeStart h) j0 dm (fun d h'=>by unfold SetTable.probeStart at h';cases h') he
  cases dm with
  |none=>cases e;simp at z;rw[h1] at z;cases z
  |some d=>cases e;simp at z;rw[h2 d rfl] at z;cases z
 ·cases e
structure dj(bt:Bool)(t:SetTable):Prop where
 led:bt=false->t.led=true
 xY:t.plain=true->iM t.place
theorem dj.standIn{bt:Bool}{t:SetTable}(h:dj bt t)(n:Nat):dj bt (t.standIn n):=⟨h.led,fun z=>by cases z⟩
theorem dj.off{bt:Bool}{t:SetTable}(h:dj bt t):dj bt {t with plain:=false}:=⟨h.led,fun z=>by cases z⟩
theorem dj.put{bt:Bool}{t:SetTable}{j:Nat}(h:dj bt t)(hj:∀i,t.slot j≠ .live i):dj bt (t.put j).1:=by
 refine⟨h.led,fun z=>?_⟩
 refine iM.insert (h.xY z) fun e=>hj (SetTable.below t.place j) ?_
 unfold SetTable.slot
 dsimp only
 rw[if_pos (by rw[e];exact beq_self_eq_true _)]
theorem dj.layNew{bt:Bool}{t:SetTable}{es:Array (Int×Value)}{h:Int}{x:Value}(ok:dj bt t):dj bt (layNew t es h x).2.1:=by
 unfold PySem.layNew
 split
 ·rename_i slot wd e
  dsimp only
  unfold SetTable.orStandIn
  split
  ·exact ok.put (DJ e)
  ·exact(ok.put (DJ e)).standIn _
 ·exact ok.standIn _
theorem Od(n:Nat)(φ:Nat->Option Nat):iM (((List.range n).filterMap fun j=>(φ j).map (j,·)).map (·.1)).toArray:=by
  have hp:(((List.range n).filterMap fun j=>(φ j).map (j,·)).map (·.1)).Pairwise (· < ·):=by
    have hs:List.Sublist (((List.range n).filterMap fun j=>(φ j).map (j,·)).map (·.1)) (List.range n):=by
      induction List.range n with
      |nil=>simp
      | cons a r ih =>
        rw[List.filterMap_cons]
        cases φ a with
        |none=>exact ih.cons a
        |some y=>exact ih.cons₂ a
    exact List.pairwise_lt_range.sublist hs
  intro i j x y hij ex ey
  rw[List.getElem?_toArray] at ex ey
  obtain⟨hi,rfl⟩:=List.getElem?_eq_some_iff.mp ex
  obtain⟨hj,rfl⟩:=List.getElem?_eq_some_iff.mp ey
  exact List.pairwise_iff_getElem.mp hp i j hi hj hij
theorem dj.TR{bt:Bool}{t:SetTable}{es:Array (Int×Value)}{n:Nat}(ok:dj bt t):dj bt (relayAll t es n).2.1:=by
  unfold relayAll
  split
  · rename_i t' order e
    dsimp only
    split
    · unfold SetTable.relaid SetTable.laid at e
      cases hl:SetTable.layClean (SetTable.sizeAbove n-1) (es.map (·.1)) with
      |none=>rw[hl] at e;cases e
      | some owner =>
        rw[hl] at e
        cases e
        exact⟨ok.led,fun _=>Od _ _⟩
    · exact ok.standIn _
  · exact ok.standIn _
theorem dj.fresh{bt:Bool}:dj bt (.fresh 0 0 (!bt)):=⟨fun h=>by rw[h];rfl,fun _ i j x y _ e=>by simp[SetTable.fresh] at e⟩
end L2
set_option maxRecDepth 100000
set_option maxHeartbeats 4000000
namespace L2
open PySem PySem.Spec PyProof.Rows
def eT(bt:Bool)(h:Heap)(a:Addr):Prop:=∀o es ep t,h.get? a=some o->o.data= .set es ep t->dj bt t
theorem eT.of{bt:Bool}{h:Heap}{a:Addr}{o:Obj}{es:Array (Int×Value)}{ep:Nat}{t:SetTable}(e:h.get? a=some o)(d:o.data= .set es ep t)(k:dj bt t):eT bt h a:=fun o' es' rN t' e' d'=>by
 rw[e] at e';cases e';rw[d] at d';cases d';exact k
theorem eT.keep{bt:Bool}{h h':Heap}{a:Addr}{o:Obj}(k:eT bt h a)(e:h.get? a=some o)(e':h'.get? a=some o):eT bt h' a:=fun o1 es ep t x d=>by
 rw[e'] at x;cases x;exact k o es ep t e d
section
variable{prog:Program}{w:World}{A:Around}{E:Value->Shared->Prop}{s:Shared}{a:Addr}{bt:Bool}
abbrev IK(prog:Program)(w:World):=intKind prog w
theorem B6{o:Obj}{es es':Array (Int×Value)}{ep:Nat}{t t':SetTable}{T:Int->Bool}{h:Heap}(g1:h.get? a=some o)(g2:o.ExactSet)(g3:o.data= .set es ep t)(l1:ElemsOf (IK prog w) es'.toList)
  (l2:∀k,T k=true↔∃e∈es'.toList,(IK prog w).is k e.2=true) (l3:es'.size<scanBound) (l4:t'.fits es'.size=true) (tk:dj bt t'):
  (∃o',(h.update a (Obj.putSet es' t')).get? a=some o'/\o'.ExactSet/\o'.data= .set es' (ep+1) t')/\(h.update a (Obj.putSet es' t')).SetOf (IK prog w) a T es'.size/\eT bt (h.update a (Obj.putSet es' t')) a:=by
 obtain⟨q1,q2⟩:=SetOf_store (knd:=IK prog w) (es':=es') (t':=t') (S':=T) g1 g2 g3 l1 l2 l3 l4
 exact⟨⟨_,q1,g2,rfl⟩,q2, .of q1 rfl tk⟩
theorem Im{gg:Bool->Sem Unit}(Pr:∀(b:Bool) (s₁:Shared) (Q₁:Unit->Shared->Prop),Q₁ () s₁->wpAny (model prog w) A (gg b) Q₁ E s₁){o:Obj}{es:Array (Int×Value)}{ep:Nat}{t:SetTable}
    (g1:s.heap.get? a=some o) (g2:o.ExactSet) (g3:o.data= .set es ep t) {es1:Array (Int×Value)} {t2:SetTable} {T:Int->Bool} (l1:ElemsOf (IK prog w) es1.toList) (l2:∀k,T k=true↔∃e∈es1.toList,(IK prog w).is k e.2=true)
    (l3:es1.size<scanBound) (l4:t2.fits es1.size=true) (tk:dj bt t2) {wd:Bool} {R:Option Bool->Shared->Prop}
    (fin:∀h',Heap.SameBut a s.heap h'->h'.SetOf (IK prog w) a T es1.size->eT bt h' a->R (some true) {s with heap:=h'}):
    wpAny (model prog w) A (do storeSet a es1 t2
                               if(!wd && t2.tooFull)=true then do
                                 gg (relayAll t2 es1 (SetTable.grown es1.size)).2.2
                                 storeSet a (relayAll t2 es1 (SetTable.grown es1.size)).1 (relayAll t2 es1 (SetTable.grown es1.size)).2.1
                                 pure (some true)
                               else pure (some true)) R E s:=by
  obtain⟨⟨o1,k1,k2,k3⟩,q1,q2⟩:=B6 (T:=T) g1 g2 g3 l1 l2 l3 l4 tk
  have sb:=Heap.SameBut.update s.heap a (Obj.putSet es1 t2)
  refine wpAny_bind (wpAny_storeSet_of g1 g3 ?_ (fits_of_scanBound l3))
  by_cases c:(!wd && t2.tooFull)=true
  · rw[if_pos c]
    have pp:=relayAll_perm t2 es1 (SetTable.grown es1.size)
    have pf:=relayAll_fits t2 es1 (SetTable.grown es1.size)
    have pt:=tk.TR (es:=es1) (n:=SetTable.grown es1.size)
    generalize relayAll t2 es1 (SetTable.grown es1.size)=Z at pp pf pt⊢
    obtain⟨Fi,t3,LM⟩:=Z
    dsimp only at pp pf pt⊢
    have sz:Fi.size=es1.size:=by have:=pp.length_eq;rwa[Array.length_toList,Array.length_toList] at this
    have R4:∀k,T k=true↔∃e∈Fi.toList,(IK prog w).is k e.2=true:=fun k=>(l2 k).trans ⟨fun⟨e,m,z⟩=>⟨e,pp.mem_iff.mpr m,z⟩,fun⟨e,m,z⟩=>⟨e,pp.mem_iff.mp m,z⟩⟩
    obtain⟨_,r1,r2⟩:=B6 (T:=T) k1 k2 k3 (l1.perm pp) R4 (by rw[sz];exact l3) pf pt
    refine wpAny_bind (Pr _ _ _ (wpAny_bind (wpAny_storeSet_of k1 k3 ?_ (fits_of_scanBound (by rw[sz];exact l3)))))
    rw[sz] at r1
    exact wpAny_pure (fin _ (sb.trans (Heap.SameBut.update _ a _)) r1 r2)
  · rw[if_neg c]
    exact wpAny_pure (fin _ sb q1 q2)
theorem QL{S:Int->Bool}{n:Nat}{k:Int}{x:Value}{Q:Bool->Shared->Prop}(hx:(IK prog w).is k x=true)(sc:x.scannable=true)(hS:s.heap.SetOf (IK prog w) a S n)(hT:eT bt s.heap a)(room:n+1<scanBound)
    (fin:∀h',Heap.SameBut a s.heap h'->h'.SetOf (IK prog w) a (fun j=>S j||decide (j=k)) (if S k then n else n+1)->eT bt h' a->Q (!S k) {s with heap:=h'}):
    wpAny (model prog w) A (setAddHashed a x ((IK prog w).hash k)) Q E s:=by
  obtain⟨o,es,ep,t,g1,g2,g3,l1,l2,l3,l4,sz⟩:=hS
  have tk:=hT o es ep t g1 g3
  unfold setAddHashed setAddHashedIn
  refine wpAny_holding (wpAny_bind (wpAny_setState_of g1 g3 l4 ?_))
  dsimp only
  rw[if_pos (byScan_of sc l3 l1)]
  unfold setAddByScan
  refine wpAny_bind (wpAny_bind (wpAny_rule (wpAny_bind (wpAny_setScan_of hx g1 g3 l4 l1 ?_))))
  cases fr:List.findIdx? (fun e=>(IK prog w).is k e.2) es.toList with
  | some j =>
    obtain⟨hj,pj,_⟩:=List.findIdx?_eq_some_iff_getElem.mp fr
    have yes:S k=true:=(l2 k).mpr ⟨_,List.getElem_mem hj,pj⟩
    have z:=fin s.heap (.refl a s.heap) ⟨o,es,ep,t,g1,g2,g3,l1,fun j=>by
      rw[Bool.or_eq_true,decide_eq_true_eq,<-l2 j]
      exact⟨fun q=>q.elim id fun e=>e▸yes, .inl⟩,l3,l4,by rw[if_pos yes];exact sz⟩ hT
    rw[yes] at z
    exact wpAny_pure (wpAny_pure z)
  | none =>
    have no:S k=false:=by
      cases q:S k with
      |false=>rfl
      | true =>
        obtain⟨e,m,p⟩:=(l2 k).mp q
        rw[List.findIdx?_eq_none_iff.mp fr e m] at p;cases p
    have pp:=layNew_perm t es ((IK prog w).hash k) x
    have pf:=layNew_fits t es ((IK prog w).hash k) x
    have pt:=tk.layNew (es:=es) (h:=(IK prog w).hash k) (x:=x)
    dsimp only
    generalize layNew t es ((IK prog w).hash k) x=Z at pp pf pt⊢
    obtain⟨es1,t1,wd,LM⟩:=Z
    dsimp only at pp pf pt⊢
    rw[Array.toList_push] at pp
    have jB:es1.size=n+1:=by have:=pp.length_eq;rw[List.length_append,Array.length_toList,Array.length_toList,sz] at this;exact this
    have fin':∀h',Heap.SameBut a s.heap h'->h'.SetOf (IK prog w) a (fun j=>S j||decide (j=k)) es1.size->eT bt h' a->Q true {s with heap:=h'}:=fun h' x1 x2 x3=>by
      have:=fin h' x1;rw[no,if_neg Bool.false_ne_true] at this;rw[jB] at x2;exact this x2 x3
    have gw:∀(b:Bool) (s₁:Shared) (Q₁:Unit->Shared->Prop),Q₁ () s₁->wpAny (model prog w) A (match b with|true=>rule "set.scan.the-table-gave-way" |false=>pure ()) Q₁ E s₁:=fun b s₁ Q₁ q=>by
      cases b
      · exact wpAny_pure q
      · exact wpAny_rule q
    refine wpAny_bind (gw _ _ _ ?_)
    have e1:=(l1.push hx sc).perm pp
    have e2:=mem_push_iff hx l2 pp
    have e3:es1.size<scanBound:=by rw[jB];exact room
    by_cases pl:t1.plain=true
    · rw[if_pos pl,hashByValue_scannable 8 sc]
      refine wpAny_bind (wpAny_pure ?_)
      refine Im gw g1 g2 g3 e1 e2 e3 ?_ ?_ fun h' x1 x2 x3=>wpAny_pure (fin' h' x1 x2 x3)
      · split
        · exact pf
        · exact SetTable.fits_plain_off pf
      · split
        · exact pt
        · exact pt.off
    · rw[if_neg pl]
      refine wpAny_bind (wpAny_pure ?_)
      rw[if_pos rfl]
      exact Im gw g1 g2 g3 e1 e2 e3 pf pt fun h' x1 x2 x3=>wpAny_pure (fin' h' x1 x2 x3)
end
end L2
set_option maxRecDepth 100000
set_option maxHeartbeats 4000000
namespace L2
open PySem PySem.Spec PyProof.Rows
section
variable{prog:Program}{w:World}{A:Around}{R:Result->Shared->Prop}{I:Addr}{fp wr:List Addr}{G:Array GenState->Array GenState->Prop}{n:Nat}{P:Nat->Value->Prop}{St:Nat->Shared->Prop}{bt:Bool}
abbrev met(val:Nat->Int)(i:Nat):Int->Bool:=fun k=>(firstMet val i).any (· ==k)
theorem Wv(W:WalksS prog w A.in1 I fp wr G n P St)(C:Addr)(nC:C∉fp)(val:Nat->Int)(hv:∀i v,P i v->∃t,v= .int (val i) t)(room:n+1<scanBound)(fuel:Nat):
    ∀(i:Nat) (s:Shared),n-i=fuel->i<=n->St i s->s.heap.SetOf (IK prog w) C (met val i) (firstMet val i).length->eT bt s.heap C->
      (∀s',Moved (C::wr) G s s'->s'.heap.SetOf (IK prog w) C (met val n) (firstMet val n).length->eT bt s'.heap C->R (.ok (.ret .none)) s')->
      codeAny (model prog w) A (.builtin "set.update.loop" ⟨[.ref C, .ref I],[]⟩) R s:=by
  have nw:C∉wr:=fun z=>nC (W.sub _ z)
  have up:∀b∈wr,b∈C::wr:=fun b z=>List.mem_cons_of_mem _ z
  have mv:∀{s s':Shared} {T:Int->Bool} {m:Nat},Moved wr G s s'->s.heap.SetOf (IK prog w) C T m->eT bt s.heap C->s'.heap.SetOf (IK prog w) C T m/\eT bt s'.heap C:=fun mo q tt=>by
    obtain⟨o,es,ep,t,ho,r⟩:=q
    exact⟨⟨o,es,ep,t,mo.heap C _ nw ho,r⟩,tt.keep ho (mo.heap C _ nw ho)⟩
  induction fuel with
  | zero =>
    intro i s e1 e2 st q tt fin
    obtain rfl:i=n:=by omega
    refine codeAny_builtin F.entry_set_update_loop ?_
    rw[Around.under_plainId F.plain_set_update_loop _]
    refine wpAny_bind (W.done s _ _ st fun s' mo=>?_)
    exact wpAny_pure (fin s' (mo.mono up) (mv mo q tt).1 (mv mo q tt).2)
  | succ fuel ih =>
    intro i s e1 e2 st q tt fin
    have lt:i<n:=by omega
    refine codeAny_builtin F.entry_set_update_loop ?_
    rw[Around.under_plainId F.plain_set_update_loop _]
    refine wpAny_bind (W.item i s _ _ lt st fun v s' hP st' mo=>?_)
    obtain⟨tok,rfl⟩:=hv i v hP
    obtain⟨q',LA⟩:=mv mo q tt
    show wpAny _ A.in1 (holding [Value.int (val i) tok] (setAdd C (.int (val i) tok))>>=_) _ _ s'
    unfold setAdd
    refine wpAny_bind (wpAny_holding (wpAny_holding (wpAny_bind ((IK prog w).pyHash (k:=val i) (intKind_is _ _ _ _) ?_))))
    refine QL (bt:=bt) (s:={s' with toks:=s'.toks+1}) (intKind_is _ _ _ _) rfl q' LA (by have:=firstMet_length_le val i;omega) fun h' sb q2 Jg=>?_
    have q3:h'.SetOf (IK prog w) C (met val (i+1)) (firstMet val (i+1)).length:=SetOf_congr q2 (fun j=>by unfold met;rw[firstMet_succ,step_any]) (by rw[firstMet_succ,step_length])
    refine wpAny_pure ⟨plainId_quiet F.plain_set_update_loop _,ih (i+1) _ (by omega) lt (W.frame _ s' _ _ st' (Nat.le_succ _) fun b hb o e=>?_) q3 Jg fun s2 Ru q4 Qk=>?_⟩
    · rw[sb.2 b fun z:b=C=>nC (z▸hb)];exact e
    · refine fin s2 (Moved.trans W.gtrans ((mo.mono up).then_heap (Nat.le_succ _) fun b o hb e=>?_) Ru) q4 Qk
      rw[sb.2 b fun z:b=C=>hb (z▸List.mem_cons_self)];exact e
end
section
variable{prog:Program}{w:World}{A:Around}{E:Value->Shared->Prop}{s:Shared}
abbrev dS(w:World):Bool:=w.params.followText "set-order"
abbrev jf(w:World):Obj:={cls:= .type "set",dict:=none,data:= .set #[] 0 (.fresh 0 0 (!dS w))}
theorem Xq(a:Value){Q₁:Value->Shared->Prop}(fin:Q₁ (.ref s.heap.objs.size) {s with heap:=s.heap.push (jf w)}):codeAny (model prog w) A (.call (.builtin "set.__new__") ⟨[.type "set",a],[]⟩) (wants Q₁ E) s:=by
 refine codeAny_of_tree ?_
 show wpAny _ A.in1 (do checkBuiltinCall "set.__new__" ⟨[.type "set",a],[]⟩;again (.builtin "set.__new__" ⟨[.type "set",a],[]⟩)) _ _ s
 refine wpAny_bind (wpAny_of_eq (F.newCall_set_1 a) (wpAny_pure ⟨plainId_quiet F.plain_set_new _,codeAny_builtin F.entry_set_new ?_⟩))
 rw[Around.under_plainId F.plain_set_new _]
 unfold Builtin.«set.__new__» Builtin.Frozenset.newClass
 have hsub:=sub_set_self
 obtain⟨hp,g,d,tk,os⟩:=s
 dsimp only at fin⊢
 wp_walk
 refine wpAny_askSetting (wpAny_pure ?_)
 dsimp only
 simp only[newObj]
 exact wpAny_bind (wpAny_alloc (wpAny_pure (wpAny_pure fin)))
theorem Zs{l:Addr}{items:Array Value}{ns:List Int}{Q:Value->Shared->Prop}(hh:A.handled=none)(hl:s.heap.IsList l items)(hi:IntsAre items.toList ns)(room:items.size+1<scanBound)
    (fin:∀(h':Heap) (tk:Nat),h'.SetOf (IK prog w) s.heap.objs.size (met (fun i=>ns.getD i 0) items.size) (firstMet (fun i=>ns.getD i 0) items.size).length->eT (dS w) h' s.heap.objs.size->
      (∀b o,b<s.heap.objs.size->s.heap.get? b=some o->h'.get? b=some o)->Q (.ref s.heap.objs.size) {s with heap:=h',toks:=tk}):wpAny (model prog w) A (call (.type "set") [.ref l]) Q E s:=by
  obtain⟨c,tl,aaJ⟩:=F.called_set.mro
  have hmade:=F.called_set.made
  have hsub:=F.called_set.sub
  have h1:=F.called_set.notType
  have h2:=F.called_set.canCreate
  have hct:=F.typeCall_set_1 (.ref l)
  refine wpAny_call (codeAny_of_tree ?_)
  show wpAny _ _ (callAny (.type "set") _) _ _ _
  refine wpAny_pure ⟨Code.quiet_builtin _ (by decide+kernel),codeAny_builtin F.entry_type_call ?_⟩
  rw[Around.under_plain (weight_type_call_type "set" [.ref l] []) rfl]
  repeat (any_goals (first|assumption|wp_step))
  refine codeAny_mono (Xq (.ref l) (E:=E) (Q₁:=fun obj s₁=>obj= .ref s.heap.objs.size/\s₁={s with heap:=s.heap.push (jf w)}) ⟨rfl,rfl⟩) fun r s₁ hr=>?_
  cases r with
  |error e=>exact hr
  | ok fl =>
    cases fl with
    | ret obj =>
      obtain⟨rfl,rfl⟩:=hr
      have hS:(s.heap.push (jf w)).get? s.heap.objs.size=some (jf w):=Heap.get?_push_size _ rfl
      have hT:Shared.TypeIs {s with heap:=s.heap.push (jf w)} (.ref s.heap.objs.size) "set":=⟨_,hS,rfl⟩
      have hli:=F.called_set.init.lookup
      have hbi:=F.called_set.init.bind (.ref s.heap.objs.size)
      repeat (any_goals (first|assumption|wp_step))
      refine codeAny_mono (codeAny_call_builtin (R:=wants (fun r s₂=>r= .none/\∃h' tk,s₂={s with heap:=h',toks:=tk}/\h'.SetOf (IK prog w) s.heap.objs.size (met (fun i=>ns.getD i 0) items.size) (firstMet (fun i=>ns.getD i 0) items.size).length/\eT (dS w) h' s.heap.objs.size/\
          (∀b o,b<s.heap.objs.size->s.heap.get? b=some o->h'.get? b=some o)) E) F.called_set.init.plain F.entry_set_init (check_set_init_1 hT ?_)) fun r₂ s₂ wD=>?_
      · obtain⟨ol,jv,hcl,nl,hdl⟩:=hl
        obtain⟨aaD,aal,abb,aaA⟩:=ol
        simp only at hcl hdl
        subst hcl;subst hdl
        have RL:=Heap.get?_push_of_some (jf w) jv
        have aaI:=F.sub_list_set
        have aa9:=F.sub_list_frozenset
        have hne:(Value.type "list"==Value.type "dict")=false:=by decide
        have hl1:(s.heap.push (jf w)).IsList l items:=⟨_,RL,rfl,nl,rfl⟩
        unfold Builtin.«set.__init__» noKeywords Builtin.Frozenset.updateFrom
        generalize N8:pyIter=PI
        wp_walk
        subst N8
        refine wpAny_pyIter_list hl1 (wpAny_bind (wpAny_runValue ?_))
        have hlS:l<s.heap.objs.size:=Heap.lt_size jv
        have jB:(s.heap.push (jf w)).objs.size=s.heap.objs.size+1:=Heap.size_push ..
        have n1:l≠(s.heap.push (jf w)).objs.size:=by rw[jB];exact Nat.ne_of_lt (Nat.lt_succ_of_lt hlS)
        have n2:s.heap.objs.size∉[(s.heap.push (jf w)).objs.size,l]:=by
          rw[jB];intro z;rcases List.mem_cons.mp z with z|z
          · exact absurd z (Nat.ne_of_lt (Nat.lt_succ_self _))
          · exact absurd (List.mem_singleton.mp z) (Nat.ne_of_gt hlS)
        have h3:A.in1.in1.in1.handled=none:=by simp[hh]
        have hS':=Heap.get?_push_of_some ({cls:= .type "list_iterator",data:= .fields #[.ref l, .int 0 0]}:Obj) hS
        refine Wv (bt:=dS w) ((Walks.list h3 _ l n1 items).toS) s.heap.objs.size n2 (fun i=>ns.getD i 0) (fun i v e=>IntsAre.int_at hi i v (by rw[Array.getElem?_toList];exact e)) room (items.size-0) 0 _ (by omega) (Nat.zero_le _)
          ⟨⟨_,Heap.get?_push_size _ rfl,rfl,rfl⟩,(hl1.push _)⟩ (SetOf_congr ((setObjOf_fresh (knd:=IK prog w) (!dS w)).setOf hS' (by unfold scanBound;omega)) (fun _=>rfl) rfl) (.of hS' rfl .fresh) ?_
        intro s' mo q tt
        obtain⟨h',g',d',tk',os'⟩:=s'
        obtain rfl:g'=s.gens:=mo.gens
        obtain rfl:d'=s.drawn:=mo.drawn
        obtain rfl:os'=s.os:=mo.os
        refine wpAny_pure (wpAny_pure ⟨rfl,h',tk',rfl,q,tt,fun b o hb e=>?_⟩)
        refine mo.heap b o (fun z=>?_) (Heap.get?_push_of_some _ (Heap.get?_push_of_some _ e))
        rcases List.mem_cons.mp z with z|z
        · exact absurd z (Nat.ne_of_lt hb)
        · rw[jB] at z;exact absurd (List.mem_singleton.mp z) (Nat.ne_of_lt (Nat.lt_succ_of_lt hb))
      · cases r₂ with
        |error e=>exact wD
        | ok fl₂ =>
          cases fl₂ with
          | ret r =>
            obtain⟨rfl,h',tk,rfl,q1,q2,q3⟩:=wD
            repeat (any_goals (first|assumption|wp_step))
            exact fin _ _ q1 q2 q3
          |_=>exact wD.elim
    |_=>exact hr.elim
end
end L2
set_option maxRecDepth 100000
set_option maxHeartbeats 4000000
namespace L2
open PySem PySem.Spec PyProof.Rows
theorem gM:Slot "set_iterator" "__next__" "set_iterator.__next__":= .of (owner:="set_iterator") (n:="__next__") (by rw[typeLookup_type,builtinLookup_eq_fast];kernel_rfl) (by decide+kernel) (by decide+kernel) (by decide+kernel) (by first|exact .inl (by decide+kernel)|exact .inr (by decide+kernel)) (by rw[isSubtype_type];kernel_rfl)
theorem tS:entryFor table "set_iterator.__next__"=some Builtin.«set_iterator.__next__» :=entryFor_of_tree (by kernel_rfl)
theorem sM(a:Value):argsOk "set_iterator.__next__" ⟨[a],[]⟩:=by unfold argsOk;kernel_rfl
theorem BP:Slot "set" "__iter__" "set.__iter__":= .of (owner:="set") (n:="__iter__") (by rw[typeLookup_type,builtinLookup_eq_fast];kernel_rfl) (by decide+kernel) (by decide+kernel) (by decide+kernel) (by first|exact .inl (by decide+kernel)|exact .inr (by decide+kernel)) (by rw[isSubtype_type];kernel_rfl)
theorem OD:entryFor table "set.__iter__"=some Builtin.«frozenset.__iter__» :=entryFor_alias (id':="frozenset.__iter__") (by kernel_rfl) rfl (by decide+kernel) (by kernel_rfl)
theorem KO(a:Value):argsOk "set.__iter__" ⟨[a],[]⟩:=by unfold argsOk;kernel_rfl
theorem mY:Slot "set_iterator" "__iter__" "set_iterator.__iter__":= .of (owner:="set_iterator") (n:="__iter__") (by rw[typeLookup_type,builtinLookup_eq_fast];kernel_rfl) (by decide+kernel) (by decide+kernel) (by decide+kernel) (by first|exact .inl (by decide+kernel)|exact .inr (by decide+kernel)) (by rw[isSubtype_type];kernel_rfl)
theorem AI:entryFor table "set_iterator.__iter__"=some Builtin.«dict_keyiterator.__iter__» :=entryFor_alias (id':="dict_keyiterator.__iter__") (by kernel_rfl) rfl (by decide+kernel) (by kernel_rfl)
theorem vf(a:Value):argsOk "set_iterator.__iter__" ⟨[a],[]⟩:=by unfold argsOk;kernel_rfl
end L2
set_option maxRecDepth 100000
set_option maxHeartbeats 4000000
namespace L2
open PySem PySem.Spec PyProof.Rows
section
variable{prog:Program}{w:World}{A:Around}{E:Value->Shared->Prop}{s:Shared}{a it tp:Addr}{o:Obj}{es:Array (Int×Value)}{ep:Nat}{t:SetTable}
theorem yu{α:Type}:∀{l:List α} {i:Nat} (h:i<l.length),(l[i]::l.eraseIdx i).Perm l
  |b::r,0,_=>by simp
  | b :: r, i + 1, h => by
    have:=yu (l:=r) (i:=i) (by simpa using h)
    simp only[List.getElem_cons_succ,List.eraseIdx_cons_succ]
    exact(List.Perm.swap b _ _).trans (this.cons b)
theorem AR{α:Type}(nx:Nat->Nat):∀(f k:Nat) (l:List α) (out:Array α),l.length<=f->(pickOrder.go nx f k l out).toList.Perm (out.toList++l):=by
  intro f
  induction f with
  | zero =>
    intro k l out h
    have:l=[]:=List.length_eq_zero_iff.mp (by omega)
    subst this
    unfold pickOrder.go
    simp
  | succ f ih =>
    intro k l out h
    unfold pickOrder.go
    cases l with
    |nil=>simp
    | cons b r =>
      have hlt:nx k%(b::r).length<(b::r).length:=Nat.mod_lt _ (by simp)
      rw[List.getElem?_eq_getElem hlt]
      dsimp only
      refine(ih (k+1) _ _ (by rw[List.length_eraseIdx_of_lt hlt];omega)).trans ?_
      rw[Array.toList_push,List.append_assoc]
      refine List.Perm.append_left _ ?_
      exact yu hlt
theorem Cs(bt:dS w=true)(g1:s.heap.get? a=some o)(g3:o.data= .set es ep t)(g4:t.fits es.size=true){i sl:Nat}{Q:Option (Value×Nat)->Shared->Prop}
  (h:Q (((pickOrder (w.params.setOrder a ep) es)[i]?).map fun e=>(e.2,sl)) s):wpAny (model prog w) A (setNext a sl i ep) Q E s:=by
 unfold setNext
 refine wpAny_bind (wpAny_setState_of g1 g3 g4 ?_)
 dsimp only
 unfold setsByText
 refine wpAny_bind (wpAny_bind (wpAny_askSetting (wpAny_pure ?_)))
 show wpAny _ _ (if dS w=true then _ else _) _ _ _
 rw[if_pos bt]
 rw[if_neg (by simp)]
 refine wpAny_bind ?_
 unfold setWalk
 refine wpAny_bind (wpAny_setState_of g1 g3 g4 ?_)
 dsimp only
 unfold setsByText
 refine wpAny_bind (wpAny_bind (wpAny_askSetting (wpAny_pure ?_)))
 show wpAny _ _ (if dS w=true then _ else _) _ _ _
 rw[if_pos bt]
 refine wpAny_bind (wpAny_askSetting (wpAny_pure ?_))
 exact wpAny_pure h
theorem ER(bt:dS w=false)(g1:s.heap.get? a=some o)(g3:o.data= .set es ep t)(g4:t.fits es.size=true)(tk:dj (dS w) t)(pl:t.plain=true\/es.size<=1){i sl:Nat}{Q:Option (Value×Nat)->Shared->Prop}
  (h:Q (match es[SetTable.below t.place sl]?,t.place[SetTable.below t.place sl]? with|some (_,x),some j=>some (x,j+1)|_,_=>none) s):wpAny (model prog w) A (setNext a sl i ep) Q E s:=by
 unfold setNext
 refine wpAny_bind (wpAny_setState_of g1 g3 g4 ?_)
 dsimp only
 unfold setsByText
 refine wpAny_bind (wpAny_bind (wpAny_askSetting (wpAny_pure ?_)))
 show wpAny _ _ (if dS w=true then _ else _) _ _ _
 rw[bt,if_neg Bool.false_ne_true]
 show wpAny _ _ (if(!t.plain && decide (es.size>1))=true then _ else _) _ _ _
 rw[if_neg (by
  intro z
  rw[Bool.and_eq_true,Bool.not_eq_true',decide_eq_true_eq] at z
  rcases pl with p|p
  ·rw[p] at z;cases z.1
  ·omega)]
 refine wpAny_bind ?_
 show wpAny _ _ (if(!t.led && !es.isEmpty)=true then _ else _) _ _ _
 rw[if_neg (by rw[tk.led bt];simp)]
 refine wpAny_pure ?_
 exact wpAny_pure h
theorem ZO(g1:s.heap.get? a=some o)(g3:o.data= .set es ep t)(g4:t.fits es.size=true){pl:Nat}{hx:Int}{x:Value}{Q:Value->Shared->Prop}(e:es[pl]?=some (hx,x))(h:Q x s):wpAny (model prog w) A (setNextDrawn a pl ep) Q E s:=by
 unfold setNextDrawn
 refine wpAny_bind (wpAny_setState_of g1 g3 g4 ?_)
 dsimp only
 rw[if_neg (by simp)]
 rw[e]
 exact wpAny_pure h
def g7(h:Heap)(it a:Addr)(first:Value)(i n ep:Nat):Prop:=∃o,h.get? it=some o/\o.cls= .type "set_iterator" /\o.data= .fields #[first, .int i 0, .ref a, .int n 0, .int ep 0]
theorem g7.ty{first:Value}{i n:Nat}(h:g7 s.heap it a first i n ep):s.TypeIs (.ref it) "set_iterator":=let ⟨o,e,c,_⟩:=h;⟨o,e,c⟩
theorem t7{first:Value}{i n:Nat}{QQ:Fin->Shared->Prop}{EE:Value->Shared->Prop}(hit:g7 s.heap it a first i n ep)(g1:s.heap.get? a=some o)(g3:o.data= .set es ep t)(g4:t.fits es.size=true)(hn:es.size=n)
    (h:wpAny (model prog w) A (match first with
      | .int slot _ => (do
        match<-setNext a slot.toNat i ep with
        | some (x, next) => do
          setField (.ref it) 0 (rawInt next)
          setField (.ref it) 1 (rawInt ((i:Int)+1))
          ret x
        | none => do
          setField (.ref it) 2 .none
          raiseNew (<-newExc (.type "StopIteration") []))
      | _ => (do
        let some places<-seqItems? first|unsupported "internal:set_iterator"
        match places[i]? with
        | some (.int place _) => do
          let x<-setNextDrawn a place.toNat ep
          setField (.ref it) 1 (rawInt ((i:Int)+1))
          ret x
        |some _=>unsupported "internal:set_iterator"
        | none => do
          setField (.ref it) 0 (rawInt 0)
          setField (.ref it) 2 .none
          raiseNew (<-newExc (.type "StopIteration") []))) QQ EE s):wpAny (model prog w) A (Builtin.«set_iterator.__next__» ⟨[.ref it],[]⟩) QQ EE s:=by
  obtain⟨oi,ho,hc,hd⟩:=hit
  unfold Builtin.«set_iterator.__next__»
  refine wpAny_bind (wpAny_pure ?_)
  refine wpAny_bind (wpAny_fieldsOf ho hd ?_)
  dsimp only
  refine wpAny_bind (wpAny_setEntries_of g1 g3 g4 ?_)
  rw[if_neg (by rw[hn];simp)]
  cases first<;>exact h
theorem sS{h:Heap}{first:Value}{i n k:Nat}{x:Value}{oi:Obj}{vs:Array Value}(ho:h.get? it=some oi)(hc:oi.cls= .type "set_iterator")(hd:oi.data= .fields vs):
  (h.update it (Obj.mapFields (·.setIfInBounds k x))).get? it=some (Obj.mapFields (·.setIfInBounds k x) oi)/\(Obj.mapFields (·.setIfInBounds k x) oi).cls= .type "set_iterator" /\(Obj.mapFields (·.setIfInBounds k x) oi).data= .fields (vs.setIfInBounds k x):=by
 refine⟨Heap.get?_update_self _ ho (Obj.isFreed_of_fields (Obj.data_mapFields hd _)),(Obj.cls_mapFields ..).trans hc,Obj.data_mapFields hd _⟩
theorem Hz{sl i n nx:Nat}{x:Value}{Q:Option Value->Shared->Prop}(hit:g7 s.heap it a (.int sl 0) i n ep)(g1:s.heap.get? a=some o)(g3:o.data= .set es ep t)(g4:t.fits es.size=true)(hn:es.size=n)
  (hN:∀(Q:Option (Value×Nat)->Shared->Prop) (E:Value->Shared->Prop),Q (some (x,nx)) s->wpAny (model prog w) A.in1 (setNext a sl i ep) Q E s)
  (hQ:∀h',g7 h' it a (.int nx 0) (i+1) n ep->(∀b,b≠it->h'.get? b=s.heap.get? b)->Q (some x) {s with heap:=h'}):wpAny (model prog w) A (pyNext (.ref it)) Q E s:=by
 obtain⟨oi,ho,hc,hd⟩:=id hit
 unfold pyNext
 refine wpAny_bind (wpAny_attempt (wpAny_callSpecial?_slot (name:=Str.ofString "__next__") hit.ty gM (wpAny_call_entry gM hit.ty tS ?_ (sM _))))
 refine t7 hit g1 g3 g4 hn ?_
 dsimp only
 refine wpAny_bind (hN _ _ ?_)
 dsimp only
 obtain⟨u1,u2,u3⟩:=sS (first:= .none) (i:=0) (n:=0) (k:=0) (x:=rawInt nx) ho hc hd
 obtain⟨w1,w2,w3⟩:=sS (first:= .none) (i:=0) (n:=0) (k:=1) (x:=rawInt ((i:Int)+1)) u1 u2 u3
 refine wpAny_bind (wpAny_setField ho hd (by simp) ?_)
 refine wpAny_bind (wpAny_setField u1 u3 (by simp) ?_)
 refine wpAny_pure ⟨x,rfl,wpAny_pure (hQ _ ⟨_,w1,w2,?_⟩ fun b hb=>?_)⟩
 ·rw[w3];simp[rawInt]
 ·exact((Heap.get?_update_other _ _ (Ne.symm hb))).trans (Heap.get?_update_other _ _ (Ne.symm hb))
theorem FP{QQ:Fin->Shared->Prop}{B:Around}{Q:Option Value->Shared->Prop}(hh:B.handled=none)(hQ:∀o1 o2,Q none {s with heap:=(s.heap.push o1).push o2}):wpAny (model prog w) B (do raiseNew (<-newExc (.type "StopIteration") [])) QQ
  (fun e s'=>wpAny (model prog w) A (do if<-isInstance e (.type "StopIteration") then pure none else throw e) Q E s') s:=by
 refine wpAny_bind ?_
 simp only[newExc,newTuple]
 refine wpAny_bind (wpAny_newObj_type ?_ (by size_fits))
 refine wpAny_bind (m:=firstArgMember _ _) (wpAny_of_eq (a:=Value.none) (by first|rfl|(simp only[firstArgMember];rfl)) (wpAny_newObj_type ?_ (by size_fits)))
 simp only[raiseNew]
 refine wpAny_bind (wpAny_handled ?_)
 rw[hh]
 refine wpAny_bind (wpAny_pure (wpAny_throw ?_))
 refine wpAny_bind (wpAny_isInstance (b:=true) (T:="StopIteration") ⟨_,Heap.get?_push_size _ rfl,rfl⟩ isSubtype_stop ?_)
 exact wpAny_pure (hQ _ _)
theorem Dn{sl i n:Nat}{Q:Option Value->Shared->Prop}(hh:A.handled=none)(hit:g7 s.heap it a (.int sl 0) i n ep)(g1:s.heap.get? a=some o)(g3:o.data= .set es ep t)(g4:t.fits es.size=true)(hn:es.size=n)
  (hN:∀(Q:Option (Value×Nat)->Shared->Prop) (E:Value->Shared->Prop),Q none s->wpAny (model prog w) A.in1 (setNext a sl i ep) Q E s)
  (hQ:∀h',(∀b o,b≠it->s.heap.get? b=some o->h'.get? b=some o)->Q none {s with heap:=h'}):wpAny (model prog w) A (pyNext (.ref it)) Q E s:=by
 obtain⟨oi,ho,hc,hd⟩:=id hit
 unfold pyNext
 refine wpAny_bind (wpAny_attempt (wpAny_callSpecial?_slot (name:=Str.ofString "__next__") hit.ty gM (wpAny_call_entry gM hit.ty tS ?_ (sM _))))
 refine t7 hit g1 g3 g4 hn ?_
 dsimp only
 refine wpAny_bind (hN _ _ ?_)
 dsimp only
 refine wpAny_bind (wpAny_setField ho hd (by simp) ?_)
 exact FP (B:=A.in1) hh fun o1 o2=>hQ _ fun b o hb e=>Heap.get?_push_of_some _ (Heap.get?_push_of_some _ ((Heap.get?_update_other _ _ (Ne.symm hb)).trans e))
theorem OA{i n pl:Nat}{hx:Int}{x:Value}{pB:Array Value}{Q:Option Value->Shared->Prop}(hit:g7 s.heap it a (.ref tp) i n ep)(g1:s.heap.get? a=some o)(g3:o.data= .set es ep t)(g4:t.fits es.size=true)(hn:es.size=n)
  (htp:∃ot m,s.heap.get? tp=some ot/\ot.data= .seq pB m) (hp:pB[i]?=some (.int pl 0)) (he:es[pl]?=some (hx,x))
  (hQ:∀h',g7 h' it a (.ref tp) (i+1) n ep->(∀b,b≠it->h'.get? b=s.heap.get? b)->Q (some x) {s with heap:=h'}):wpAny (model prog w) A (pyNext (.ref it)) Q E s:=by
 obtain⟨oi,ho,hc,hd⟩:=id hit
 obtain⟨ot,m,t1,t2⟩:=htp
 unfold pyNext
 refine wpAny_bind (wpAny_attempt (wpAny_callSpecial?_slot (name:=Str.ofString "__next__") hit.ty gM (wpAny_call_entry gM hit.ty tS ?_ (sM _))))
 refine t7 hit g1 g3 g4 hn ?_
 dsimp only
 refine wpAny_bind (wpAny_seqItems t1 t2 ?_)
 dsimp only
 rw[hp]
 dsimp only
 refine wpAny_bind (ZO g1 g3 g4 (by simpa using he) ?_)
 obtain⟨w1,w2,w3⟩:=sS (first:= .none) (i:=0) (n:=0) (k:=1) (x:=rawInt ((i:Int)+1)) ho hc hd
 refine wpAny_bind (wpAny_setField ho hd (by simp) (wpAny_pure ⟨x,rfl,wpAny_pure (hQ _ ⟨_,w1,w2,?_⟩ fun b hb=>Heap.get?_update_other _ _ (Ne.symm hb))⟩))
 rw[w3];simp[rawInt]
theorem Ux{i n:Nat}{pB:Array Value}{Q:Option Value->Shared->Prop}(hh:A.handled=none)(hit:g7 s.heap it a (.ref tp) i n ep)(g1:s.heap.get? a=some o)(g3:o.data= .set es ep t)(g4:t.fits es.size=true)(hn:es.size=n)
  (htp:∃ot m,s.heap.get? tp=some ot/\ot.data= .seq pB m) (hp:pB[i]?=none)
  (hQ:∀h',(∀b o,b≠it->s.heap.get? b=some o->h'.get? b=some o)->Q none {s with heap:=h'}):wpAny (model prog w) A (pyNext (.ref it)) Q E s:=by
 obtain⟨oi,ho,hc,hd⟩:=id hit
 obtain⟨ot,m,t1,t2⟩:=htp
 unfold pyNext
 refine wpAny_bind (wpAny_attempt (wpAny_callSpecial?_slot (name:=Str.ofString "__next__") hit.ty gM (wpAny_call_entry gM hit.ty tS ?_ (sM _))))
 refine t7 hit g1 g3 g4 hn ?_
 dsimp only
 refine wpAny_bind (wpAny_seqItems t1 t2 ?_)
 dsimp only
 rw[hp]
 dsimp only
 obtain⟨u1,u2,u3⟩:=sS (first:= .none) (i:=0) (n:=0) (k:=0) (x:=rawInt 0) ho hc hd
 refine wpAny_bind (wpAny_setField ho hd (by simp) (wpAny_bind (wpAny_setField u1 u3 (by simp) ?_)))
 exact FP (B:=A.in1) hh fun o1 o2=>hQ _ fun b o hb e=>Heap.get?_push_of_some _ (Heap.get?_push_of_some _ ((Heap.get?_update_other _ _ (Ne.symm hb)).trans ((Heap.get?_update_other _ _ (Ne.symm hb)).trans e)))
end
end L2
set_option maxRecDepth 100000
set_option maxHeartbeats 4000000
namespace L2
open PySem PySem.Spec PyProof.Rows
def slotAt(xs:Array Nat):Nat->Nat
 |0=>0
 |i+1=>xs.getD i 0+1
theorem aac(xs:Array Nat):slotAt xs 0=0:=rfl
theorem FQ(xs:Array Nat)(i:Nat):slotAt xs (i+1)=xs.getD i 0+1:=rfl
theorem Ih{xs:Array Nat}(hr:iM xs){i:Nat}(hi:i<=xs.size):SetTable.below xs (slotAt xs i)=i:=by
  obtain⟨h1,h2,h3⟩:=below_at (q:=slotAt xs i) hr
  have g:∀{j:Nat},j<xs.size->∃y,xs[j]?=some y/\xs.getD j 0=y:=fun{j} hj=>⟨xs[j],Array.getElem?_eq_getElem hj,by rw[Array.getD_eq_getD_getElem?,Array.getElem?_eq_getElem hj];rfl⟩
  rcases Nat.lt_trichotomy (SetTable.below xs (slotAt xs i)) i with z|z|z
  · obtain⟨y,e,_⟩:=g (Nat.lt_of_lt_of_le z hi)
    have:=h3 _ y (Nat.le_refl _) e
    cases i with
    |zero=>omega
    | succ i =>
      obtain⟨y',e',d'⟩:=g (j:=i) (by omega)
      have es:=FQ xs i
      rw[d'] at es
      rcases Nat.lt_or_eq_of_le (Nat.le_of_lt_succ z) with z|z
      · have:=hr _ _ _ _ z e e';omega
      · rw[z,e'] at e;cases e;omega
  · exact z
  · obtain⟨y,e,d⟩:=g (j:=i) (by omega)
    have:=h2 i y z e
    cases i with
    |zero=>rw[aac] at this;omega
    | succ i =>
      obtain⟨y',e',d'⟩:=g (j:=i) (by omega)
      rw[FQ,d'] at this
      have:=hr i (i+1) _ _ (by omega) e' e
      omega
section
variable{prog:Program}{w:World}{a I tp:Addr}{o:Obj}{es:Array (Int×Value)}{ep:Nat}{t:SetTable}
theorem EN(h:t.fits es.size=true):t.place.size=es.size:=by
 unfold SetTable.fits at h
 rw[Bool.and_eq_true] at h
 exact eq_of_beq h.1
theorem Mb{A:Around}(hh:A.handled=none)(bt:dS w=true)(g3:o.data= .set es ep t)(g4:t.fits es.size=true)(hne:a≠I):
  Walks prog w A I [I,a] [I] es.size (fun i v=>((pickOrder (w.params.setOrder a ep) es).toList.map (·.2))[i]?=some v) (fun i h=>g7 h I a (.int (0:Nat) 0) i es.size ep/\h.get? a=some o) where
 sub:=fun b hb=>by simp at hb;simp[hb]
 frame:=fun i h h' st hk=>by
  obtain⟨⟨oi,h1,h2,h3⟩,h4⟩:=st
  exact⟨⟨oi,hk I (by simp) _ h1,h2,h3⟩,hk a (by simp) _ h4⟩
 item:=fun i s Q E hi st hQ=>by
  have hsz:(pickOrder (w.params.setOrder a ep) es).toList.length=es.size:=by
   have:=(AR (w.params.setOrder a ep) es.size 0 es.toList #[] (by simp)).length_eq
   simpa[pickOrder] using this
  have hlt:i<(pickOrder (w.params.setOrder a ep) es).toList.length:=by omega
  have e1:(pickOrder (w.params.setOrder a ep) es)[i]?=some (pickOrder (w.params.setOrder a ep) es).toList[i]:=by rw[<-Array.getElem?_toList];exact List.getElem?_eq_getElem hlt
  refine Hz st.1 st.2 g3 g4 rfl (x:=(pickOrder (w.params.setOrder a ep) es).toList[i].2) (nx:=0) (fun Q E q=>Cs bt st.2 g3 g4 (by rw[e1];exact q)) fun h' x1 x2=>?_
  refine hQ _ h' s.toks (by rw[List.getElem?_map,List.getElem?_eq_getElem hlt];rfl) ⟨x1,(x2 a hne).trans st.2⟩ fun b o' hb e=>(x2 b (fun z=>hb (by simp[z]))).trans e
 done:=fun s Q E st hQ=>by
  have hsz:(pickOrder (w.params.setOrder a ep) es).toList.length=es.size:=by
   have:=(AR (w.params.setOrder a ep) es.size 0 es.toList #[] (by simp)).length_eq
   simpa[pickOrder] using this
  refine Dn hh st.1 st.2 g3 g4 rfl (fun Q E q=>Cs bt st.2 g3 g4 (by rw[<-Array.getElem?_toList,List.getElem?_eq_none (by omega)];exact q)) fun h' x1=>hQ h' s.toks fun b o' hb e=>x1 b o' (fun z=>hb (by simp[z])) e
 self:=fun i s Q E st hQ=>by
  refine wpAny_pyIter_slot st.1.ty mY (wpAny_call_entry mY st.1.ty AI ?_ (vf _))
  exact wpAny_pure ⟨_,rfl,"set_iterator",_,st.1.ty,gM.lookup,hQ⟩
theorem SO{A:Around}(hh:A.handled=none)(bt:dS w=false)(g3:o.data= .set es ep t)(g4:t.fits es.size=true)(tk:dj (dS w) t)(pl:t.plain=true\/es.size<=1)(hne:a≠I):
  Walks prog w A I [I,a] [I] es.size (fun i v=>(es.toList.map (·.2))[i]?=some v) (fun i h=>g7 h I a (.int (slotAt t.place i) 0) i es.size ep/\h.get? a=some o) where
 sub:=fun b hb=>by simp at hb;simp[hb]
 frame:=fun i h h' st hk=>by
  obtain⟨⟨oi,h1,h2,h3⟩,h4⟩:=st
  exact⟨⟨oi,hk I (by simp) _ h1,h2,h3⟩,hk a (by simp) _ h4⟩
 item:=fun i s Q E hi st hQ=>by
  have hps:=EN g4
  have hr:iM t.place:=by
   rcases pl with p|p
   ·exact tk.xY p
   ·intro i j x y hij ex ey
    have:=(Array.getElem?_eq_some_iff.mp ey).1;omega
  have hlt:i<es.toList.length:=by simpa using hi
  have e1:es[i]?=some es.toList[i]:=by rw[<-Array.getElem?_toList];exact List.getElem?_eq_getElem hlt
  have e2:t.place[i]?=some (t.place.getD i 0):=by rw[Array.getD_eq_getD_getElem?,Array.getElem?_eq_getElem (by omega)];rfl
  refine Hz st.1 st.2 g3 g4 rfl (x:=es.toList[i].2) (nx:=slotAt t.place (i+1)) (fun Q E q=>ER bt st.2 g3 g4 tk pl (by rw[Ih hr (by omega),e1,e2];exact q)) fun h' x1 x2=>?_
  refine hQ _ h' s.toks (by rw[List.getElem?_map,List.getElem?_eq_getElem hlt];rfl) ⟨x1,(x2 a hne).trans st.2⟩ fun b o' hb e=>(x2 b (fun z=>hb (by simp[z]))).trans e
 done:=fun s Q E st hQ=>by
  have hps:=EN g4
  have hr:iM t.place:=by
   rcases pl with p|p
   ·exact tk.xY p
   ·intro i j x y hij ex ey
    have:=(Array.getElem?_eq_some_iff.mp ey).1;omega
  refine Dn hh st.1 st.2 g3 g4 rfl (fun Q E q=>ER bt st.2 g3 g4 tk pl (by rw[Ih hr (by omega),Array.getElem?_eq_none (Nat.le_refl _)];exact q)) fun h' x1=>hQ h' s.toks fun b o' hb e=>x1 b o' (fun z=>hb (by simp[z])) e
 self:=fun i s Q E st hQ=>by
  refine wpAny_pyIter_slot st.1.ty mY (wpAny_call_entry mY st.1.ty AI ?_ (vf _))
  exact wpAny_pure ⟨_,rfl,"set_iterator",_,st.1.ty,gM.lookup,hQ⟩
theorem P1{A:Around}{ks:List Nat}(hh:A.handled=none)(g3:o.data= .set es ep t)(g4:t.fits es.size=true)(hk:ks.Perm (List.range es.size))(hne:a≠I)(hnt:tp≠I):
    Walks prog w A I [I,a,tp] [I] es.size (fun i v=>((ks.filterMap (es[·]?)).map (·.2))[i]?=some v) (fun i h=>g7 h I a (.ref tp) i es.size ep/\h.get? a=some o/\∃ot m,h.get? tp=some ot/\ot.data= .seq (ks.map fun(k:Nat)=>rawInt k).toArray m) where
  sub:=fun b hb=>by simp at hb;simp[hb]
  frame:=fun i h h' st hk=>by
    obtain⟨⟨oi,h1,h2,h3⟩,h4,ot,m,h5,h6⟩:=st
    exact⟨⟨oi,hk I (by simp) _ h1,h2,h3⟩,hk a (by simp) _ h4,ot,m,hk tp (by simp) _ h5,h6⟩
  item:=fun i s Q E hi st hQ=>by
    have hlen:ks.length=es.size:=by rw[hk.length_eq];simp
    have hin:∀k∈ks,k<es.size:=fun k m=>by simpa using hk.mem_iff.mp m
    have hi':i<ks.length:=by omega
    have hki:=hin ks[i] (List.getElem_mem hi')
    have e1:es[ks[i]]?=some es[ks[i]]:=Array.getElem?_eq_getElem hki
    have fm:∀(l:List Nat),(∀k∈l,k<es.size)->∀j (hj:j<l.length),(l.filterMap (es[·]?))[j]?=es[l[j]]?:=by
      intro l
      induction l with
      |nil=>intro _ j hj;simp at hj
      | cons b r ih =>
        intro hl j hj
        have hb:=hl b (List.mem_cons_self ..)
        rw[List.filterMap_cons,Array.getElem?_eq_getElem hb]
        cases j with
        |zero=>simp[Array.getElem?_eq_getElem hb]
        |succ j=>simpa using ih (fun k m=>hl k (List.mem_cons_of_mem _ m)) j (by simpa using hj)
    refine OA st.1 st.2.1 g3 g4 rfl st.2.2 (pl:=ks[i]) (hx:=es[ks[i]].1) (x:=es[ks[i]].2) (by simp[List.getElem?_eq_getElem hi',rawInt]) e1 fun h' x1 x2=>?_
    obtain⟨ot,m,t1,t2⟩:=st.2.2
    refine hQ _ h' s.toks ?_ ⟨x1,(x2 a hne).trans st.2.1,ot,m,(x2 tp hnt).trans t1,t2⟩ fun b o' hb e=>(x2 b (fun z=>hb (by simp[z]))).trans e
    rw[List.getElem?_map,fm ks hin i hi',e1];rfl
  done:=fun s Q E st hQ=>by
    have hlen:ks.length=es.size:=by rw[hk.length_eq];simp
    exact Ux hh st.1 st.2.1 g3 g4 rfl st.2.2 (by simp;omega) fun h' x1=>hQ h' s.toks fun b o' hb e=>x1 b o' (fun z=>hb (by simp[z])) e
  self:=fun i s Q E st hQ=>by
    refine wpAny_pyIter_slot st.1.ty mY (wpAny_call_entry mY st.1.ty AI ?_ (vf _))
    exact wpAny_pure ⟨_,rfl,"set_iterator",_,st.1.ty,gM.lookup,hQ⟩
end
section
variable{prog:Program}{w:World}{A:Around}{E:Value->Shared->Prop}{s:Shared}{a:Addr}{o:Obj}{es:Array (Int×Value)}{ep:Nat}{t:SetTable}
theorem Hh{α:Type}:∀l:List α,(List.range l.length).filterMap (fun i=>l[i]?)=l
  |[]=>rfl
  | x :: l => by
    have:=Hh l
    rw[List.length_cons,List.range_succ_eq_map,List.filterMap_cons,List.filterMap_map]
    simpa[Function.comp_def] using this
theorem J5{src:Source}{n:Nat}{Q:Nat->Shared->Prop}(hn:n≠0)(h:∀i d',i<n->Q i {s with drawn:=d'}):wpAny (model prog w) A (choose src n) Q E s:=fun Γ p _=>⟨hn,h _ _ (Nat.mod_lt _ (Nat.pos_of_ne_zero hn))⟩
theorem HC{α:Type}:∀(n:Nat) (xs:List α) (s:Shared) (Q:List α->Shared->Prop),xs.length<=n->(∀ks d',ks.Perm xs->Q ks {s with drawn:=d'})->wpAny (model prog w) A (drawOrder n xs) Q E s
  | 0, xs, s, Q, hl, h => by
    have:xs=[]:=List.length_eq_zero_iff.mp (by omega)
    subst this
    unfold drawOrder
    exact wpAny_pure (h [] s.drawn .nil)
  | n + 1, [], s, Q, hl, h => by
    unfold drawOrder
    exact wpAny_pure (h [] s.drawn .nil)
  | n + 1, x :: xs, s, Q, hl, h => by
    unfold drawOrder
    refine wpAny_bind (J5 (by simp) fun i d' hi=>?_)
    rw[List.getElem?_eq_getElem hi]
    dsimp only
    refine wpAny_bind (HC n _ _ _ (by rw[List.length_eraseIdx_of_lt hi];simp at hl⊢;omega) fun ks d2 hk=>?_)
    exact wpAny_pure (h _ d2 ((hk.cons _).trans (yu hi)))
theorem Yk(g1:s.heap.get? a=some o)(g3:o.data= .set es ep t)(g4:t.fits es.size=true){Q:Bool->Shared->Prop}(h:Q (!dS w &&(!t.plain && decide (es.size>1))) s):wpAny (model prog w) A (setDrawn a) Q E s:=by
 unfold setDrawn
 refine wpAny_bind (wpAny_setState_of g1 g3 g4 ?_)
 dsimp only
 unfold setsByText
 refine wpAny_bind (wpAny_bind (wpAny_askSetting (wpAny_pure ?_)))
 exact wpAny_pure h
theorem Dh(g1:s.heap.get? a=some o)(g3:o.data= .set es ep t)(g4:t.fits es.size=true){Q:Nat->Shared->Prop}(h:Q ep s):wpAny (model prog w) A (setEpoch a) Q E s:=by
 unfold setEpoch
 exact wpAny_bind (wpAny_setState_of g1 g3 g4 (wpAny_pure h))
theorem K7{Q:Value->Shared->Prop}(hb:es.size<scanBound)(g1:s.heap.get? a=some o)(g2:o.ExactSet)(g3:o.data= .set es ep t)(g4:t.fits es.size=true)(tk:dj (dS w) t)
    (hQ:∀(I:Addr) (h':Heap) d' (items:List Value) (fp:List Addr) (St:Nat->Heap->Prop),(∀b o,s.heap.get? b=some o->h'.get? b=some o)->s.heap.objs.size<=I->(∀b∈fp,b=a\/s.heap.objs.size<=b)->I∈fp->(∀b∈fp,b<h'.objs.size)->items.Perm (es.toList.map (·.2))->
      (∀B:Around,B.handled=none->Walks prog w B I fp [I] items.length (fun i v=>items[i]?=some v) St)->St 0 h'->Q (.ref I) {s with heap:=h',drawn:=d'}):wpAny (model prog w) A (pyIter (.ref a)) Q E s:=by
  have hT:s.TypeIs (.ref a) "set":=⟨o,g1,g2.1⟩
  have hlt:=Heap.lt_size g1
  refine wpAny_pyIter_slot hT BP (wpAny_call_entry BP hT OD ?_ (KO _))
  unfold Builtin.«frozenset.__iter__»
  unfold Builtin.Frozenset.slot0 slotArgs
  simp only[List.isEmpty_nil,Bool.not_true,Bool.false_eq_true,↓reduceIte,bind_assoc,List.length_nil,bne_self_eq_false]
  unfold Builtin.Frozenset.addrOf Builtin.Frozenset.sizeOf
  refine wpAny_bind (wpAny_pure ?_)
  try dsimp only
  refine wpAny_bind (wpAny_pure ?_)
  refine wpAny_bind (wpAny_bind (wpAny_setEntries_of g1 g3 g4 (wpAny_pure ?_)))
  refine wpAny_bind (Yk g1 g3 g4 ?_)
  by_cases c:(!dS w &&(!t.plain && decide (es.size>1)))=true
  · rw[if_pos c]
    refine wpAny_bind (HC es.size (List.range es.size) s _ (by simp) fun ks d' hk=>?_)
    unfold newTuple
    refine wpAny_bind (wpAny_newObj_type ?_ ?_)
    rotate_left
    · have hk0:ks.length=es.size:=by rw[hk.length_eq];simp
      show(List.map (fun(i:Nat)=>rawInt i) ks).toArray.size<=sizeLine
      rw[List.size_toArray,List.length_map,hk0]
      exact fits_of_scanBound hb
    have mU:=Heap.get?_push_of_some ({cls:= .type "tuple",data:= .seq (ks.map fun(i:Nat)=>rawInt i).toArray}:Obj) g1
    refine wpAny_bind (Dh (s:={s with heap:=_,drawn:=d'}) mU g3 g4 ?_)
    unfold newFields
    refine wpAny_bind (wpAny_newObj_type ?_)
    have hk0:ks.length=es.size:=by rw[hk.length_eq];simp
    have fin:=hQ
    clear hQ
    have jB:(s.heap.push ({cls:= .type "tuple",data:= .seq (ks.map fun(i:Nat)=>rawInt i).toArray}:Obj)).objs.size=s.heap.objs.size+1:=Heap.size_push ..
    have gT:(s.heap.push ({cls:= .type "tuple",data:= .seq (ks.map fun(i:Nat)=>rawInt i).toArray}:Obj)).get? s.heap.objs.size=some {cls:= .type "tuple",data:= .seq (ks.map fun(i:Nat)=>rawInt i).toArray}:=Heap.get?_push_size _ rfl
    have gO:∀b o,s.heap.get? b=some o->(s.heap.push ({cls:= .type "tuple",data:= .seq (ks.map fun(i:Nat)=>rawInt i).toArray}:Obj)).get? b=some o:=fun b o e=>Heap.get?_push_of_some _ e
    generalize Xf:s.heap.push ({cls:= .type "tuple",data:= .seq (ks.map fun(i:Nat)=>rawInt i).toArray}:Obj)=h1 at mU jB gT gO⊢
    have gI:(h1.push ({cls:= .type "set_iterator",data:= .fields #[.ref s.heap.objs.size,rawInt 0, .ref a,rawInt es.size,rawInt ep]}:Obj)).get? h1.objs.size=some {cls:= .type "set_iterator",data:= .fields #[.ref s.heap.objs.size,rawInt 0, .ref a,rawInt es.size,rawInt ep]}:=Heap.get?_push_size _ rfl
    have gS:=Heap.get?_push_of_some ({cls:= .type "set_iterator",data:= .fields #[.ref s.heap.objs.size,rawInt 0, .ref a,rawInt es.size,rawInt ep]}:Obj) mU
    have JX:=Heap.get?_push_of_some ({cls:= .type "set_iterator",data:= .fields #[.ref s.heap.objs.size,rawInt 0, .ref a,rawInt es.size,rawInt ep]}:Obj) gT
    have WX:(h1.push ({cls:= .type "set_iterator",data:= .fields #[.ref s.heap.objs.size,rawInt 0, .ref a,rawInt es.size,rawInt ep]}:Obj)).objs.size=h1.objs.size+1:=Heap.size_push ..
    subst Xf
    refine wpAny_pure ⟨_,rfl,"set_iterator",_,⟨_,gI,rfl⟩,gM.lookup,?_⟩
    have pp:(ks.filterMap (es[·]?)).Perm es.toList:=by
      have:=hk.filterMap (es[·]?)
      have e:(List.range es.size).filterMap (es[·]?)=es.toList:=by
        have:=Hh es.toList
        simpa using this
      rwa[e] at this
    have hn:((ks.filterMap (es[·]?)).map (·.2)).length=es.size:=by rw[List.length_map,pp.length_eq];simp
    have nM:=Nat.lt_of_lt_of_eq (Nat.lt_succ_self s.heap.objs.size) jB.symm
    refine fin _ _ d' ((ks.filterMap (es[·]?)).map (·.2)) [_,a,s.heap.objs.size] _ (fun b o e=>Heap.get?_push_of_some _ (gO b o e)) (Nat.le_of_lt nM) (fun b m=>?_) (List.mem_cons_self ..) (fun b m=>?_) (pp.map _) (fun B hB=>by rw[hn];exact P1 hB g3 g4 hk (Nat.ne_of_lt (Nat.lt_trans hlt nM)) (Nat.ne_of_lt nM)) ?_
    · rcases List.mem_cons.mp m with e|m
      · exact .inr (by rw[e];exact Nat.le_of_lt nM)
      · rcases List.mem_cons.mp m with e|m
        · exact .inl e
        · exact .inr (Nat.le_of_eq (List.mem_singleton.mp m).symm)
    · refine Nat.lt_of_lt_of_eq ?_ WX.symm
      rcases List.mem_cons.mp m with e|m
      · rw[e];exact Nat.lt_succ_self _
      · rcases List.mem_cons.mp m with e|m
        · rw[e];exact Nat.lt_succ_of_lt (Nat.lt_trans hlt nM)
        · rw[List.mem_singleton.mp m];exact Nat.lt_succ_of_lt nM
    · exact⟨⟨_,gI,rfl,rfl⟩,gS,_,_,JX,rfl⟩
  · rw[if_neg c]
    refine wpAny_bind (wpAny_pure ?_)
    refine wpAny_bind (Dh g1 g3 g4 ?_)
    unfold newFields
    refine wpAny_bind (wpAny_newObj_type ?_)
    have gI:(s.heap.push ({cls:= .type "set_iterator",data:= .fields #[rawInt 0,rawInt 0, .ref a,rawInt es.size,rawInt ep]}:Obj)).get? s.heap.objs.size=some {cls:= .type "set_iterator",data:= .fields #[rawInt 0,rawInt 0, .ref a,rawInt es.size,rawInt ep]}:=Heap.get?_push_size _ rfl
    have gS:=Heap.get?_push_of_some ({cls:= .type "set_iterator",data:= .fields #[rawInt 0,rawInt 0, .ref a,rawInt es.size,rawInt ep]}:Obj) g1
    have hfp:∀b∈[s.heap.objs.size,a],b=a\/s.heap.objs.size<=b:=fun b m=>by
      rcases List.mem_cons.mp m with e|m
      · exact .inr (Nat.le_of_eq e.symm)
      · exact .inl (List.mem_singleton.mp m)
    have hsz:(s.heap.push ({cls:= .type "set_iterator",data:= .fields #[rawInt 0,rawInt 0, .ref a,rawInt es.size,rawInt ep]}:Obj)).objs.size=s.heap.objs.size+1:=Heap.size_push ..
    have HW:∀b∈[s.heap.objs.size,a],b<(s.heap.push ({cls:= .type "set_iterator",data:= .fields #[rawInt 0,rawInt 0, .ref a,rawInt es.size,rawInt ep]}:Obj)).objs.size:=fun b m=>by
      rw[hsz]
      rcases List.mem_cons.mp m with e|m
      · rw[e];exact Nat.lt_succ_self _
      · rw[List.mem_singleton.mp m];exact Nat.lt_succ_of_lt hlt
    refine wpAny_pure ⟨_,rfl,"set_iterator",_,⟨_,gI,rfl⟩,gM.lookup,?_⟩
    cases bt:dS w with
    | true =>
      have pp:(pickOrder (w.params.setOrder a ep) es).toList.Perm es.toList:=by simpa[pickOrder] using AR (w.params.setOrder a ep) es.size 0 es.toList #[] (by simp)
      have hn:((pickOrder (w.params.setOrder a ep) es).toList.map (·.2)).length=es.size:=by rw[List.length_map,pp.length_eq];simp
      refine hQ _ _ s.drawn ((pickOrder (w.params.setOrder a ep) es).toList.map (·.2)) [s.heap.objs.size,a] _ (fun b o e=>Heap.get?_push_of_some _ e) (Nat.le_refl _) hfp (by simp) HW (pp.map _) (fun B hB=>by rw[hn];exact Mb hB bt g3 g4 (Nat.ne_of_lt hlt)) ?_
      exact⟨⟨_,gI,rfl,rfl⟩,gS⟩
    | false =>
      have pl:t.plain=true\/es.size<=1:=by
        rw[bt,Bool.not_false,Bool.true_and] at c
        cases hp:t.plain with
        |true=>exact .inl rfl
        | false =>
          rw[hp,Bool.not_false,Bool.true_and,decide_eq_true_eq] at c
          exact .inr (by omega)
      have hn:(es.toList.map (·.2)).length=es.size:=by simp
      refine hQ _ _ s.drawn (es.toList.map (·.2)) [s.heap.objs.size,a] _ (fun b o e=>Heap.get?_push_of_some _ e) (Nat.le_refl _) hfp (by simp) HW (.refl _) (fun B hB=>by rw[hn];exact SO hB bt g3 g4 tk pl (Nat.ne_of_lt hlt)) ?_
      exact⟨⟨_,gI,rfl,rfl⟩,gS⟩
end
end L2
set_option maxRecDepth 100000
set_option maxHeartbeats 4000000
namespace L2
open PySem PySem.Spec PyProof.Rows
section
variable{prog:Program}{w:World}{A:Around}{E:Value->Shared->Prop}{s:Shared}{a:Addr}{o:Obj}{es:Array (Int×Value)}{ep:Nat}{t:SetTable}
theorem Ol{Q:Bool->Shared->Prop}(hT:s.TypeIs (.ref a) "set")(h:Q false s):wpAny (model prog w) A (Builtin.List.listLengthHint (.ref a)) Q E s:=by
 unfold Builtin.List.listLengthHint
 refine wpAny_bind (wpAny_specialOf hT PySem.F.slot_set_len.lookup ?_)
 generalize hid:("set.__len__":String)=id0
 wp_delta
 rw[show splitId id0=some ("set","__len__") from by subst hid;decide+kernel]
 subst hid
 refine wpAny_bind (wpAny_isInstance (b:=true) (T:="set") hT (by rw[isSubtype_type];kernel_rfl) ?_)
 refine wpAny_ite_split (fun z=>absurd z (by decide)) fun _=>wpAny_ite_split (fun _=>?_) fun z=>absurd (by decide+kernel) z
 exact wpAny_bind (wpAny_typeOf hT (wpAny_pure h))
theorem Wr{items:List Value}{acc:Array Value}(h:ItemsOf (fun i v=>items[i]?=some v) acc items.length):acc.toList=items:=by
 apply List.ext_getElem?
 intro i
 by_cases hi:i<acc.size
 ·have e:acc[i]?=some acc[i]:=Array.getElem?_eq_getElem hi
  rw[Array.getElem?_toList,e,h.2 i _ e]
 ·have:=h.1
  rw[List.getElem?_eq_none (by simp;omega),List.getElem?_eq_none (by omega)]
theorem VT{Q:List Value->Shared->Prop}(hh:A.handled=none)(hb:es.size<scanBound)(g1:s.heap.get? a=some o)(g2:o.ExactSet)(g3:o.data= .set es ep t)(g4:t.fits es.size=true)(tk:dj (dS w) t)
  (hQ:∀h' d' tk' items,(∀b o,s.heap.get? b=some o->h'.get? b=some o)->s.heap.objs.size<=h'.objs.size->items.Perm (es.toList.map (·.2))->Q items {s with heap:=h',drawn:=d',toks:=tk'}):wpAny (model prog w) A (collect (.ref a)) Q E s:=by
 have hlt:=Heap.lt_size g1
 unfold collect
 refine wpAny_bind (wpAny_runValue (codeAny_builtin PySem.F.entry_proto_collect ?_))
 rw[Around.under_plainId PySem.F.plain_proto_collect _]
 show wpAny _ A.in1 (newList []>>=fun l=>again (.builtin "list.__iadd__" ⟨[l, .ref a],[]⟩)) _ _ s
 refine wpAny_bind (wpAny_newObj_type ?_)
 refine wpAny_pure ⟨plainId_quiet PySem.F.plain_list_iadd _,codeAny_builtin PySem.F.entry_list_iadd ?_⟩
 rw[Around.under_plainId PySem.F.plain_list_iadd _]
 have gL:(s.heap.push ({cls:= .type "list",data:= .seq ([]:List Value).toArray}:Obj)).get? s.heap.objs.size=some {cls:= .type "list",data:= .seq ([]:List Value).toArray}:=Heap.get?_push_size _ rfl
 have gA:=Heap.get?_push_of_some ({cls:= .type "list",data:= .seq ([]:List Value).toArray}:Obj) g1
 have G3:(s.heap.push ({cls:= .type "list",data:= .seq ([]:List Value).toArray}:Obj)).objs.size=s.heap.objs.size+1:=Heap.size_push ..
 show wpAny _ A.in1 (Builtin.List.listExtendWith (.ref s.heap.objs.size) (.ref a) (.ref s.heap.objs.size)) _ _ {s with heap:=s.heap.push ({cls:= .type "list",data:= .seq ([]:List Value).toArray}:Obj)}
 have hkeep:∀b o,s.heap.get? b=some o->(s.heap.push ({cls:= .type "list",data:= .seq ([]:List Value).toArray}:Obj)).get? b=some o:=fun b o e=>Heap.get?_push_of_some _ e
 generalize s.heap.push ({cls:= .type "list",data:= .seq ([]:List Value).toArray}:Obj)=h1 at gL gA G3 hkeep⊢
 unfold Builtin.List.listExtendWith
 refine wpAny_bind (wpAny_typeOf (T:="set") ⟨o,gA,g2.1⟩ ?_)
 have n1:Builtin.List.listSameRef (.ref s.heap.objs.size) (.ref a)=false:=by
  show(s.heap.objs.size==a)=false
  exact beq_eq_false_iff_ne.mpr (Nat.ne_of_gt hlt)
 have n2:(Value.type "set"==Value.type "list")=false:=by decide
 have n3:(Value.type "set"==Value.type "tuple")=false:=by decide
 simp only[n1,n2,n3,Bool.or_false,Bool.false_eq_true,if_false]
 refine wpAny_bind (K7 (s:={s with heap:=h1}) hb gA g2 g3 g4 tk fun I h2 d' items fp St k1 k2 k3 k4 k5 pp W st=>?_)
 have JS:=k1 _ _ gA
 have vK:=k1 _ _ gL
 refine wpAny_bind (wpAny_holding (Ol (s:={s with heap:=h2,drawn:=d'}) ⟨o,JS,g2.1⟩ ?_))
 have lS:s.heap.objs.size<h1.objs.size:=Nat.lt_of_lt_of_eq (Nat.lt_succ_self _) G3.symm
 have nS:s.heap.objs.size∉fp:=fun m=>by
  rcases k3 _ m with e|e
  ·exact absurd e (Nat.ne_of_gt hlt)
  ·exact absurd (Nat.lt_of_lt_of_le lS e) (Nat.lt_irrefl _)
 have hil:items.length<=sizeLine:=by
  rw[pp.length_eq,List.length_map,Array.length_toList];exact fits_of_scanBound hb
 have key:∀(h3:Heap) (c:Nat),St 0 h3->(∀b o,b≠s.heap.objs.size->h2.get? b=some o->h3.get? b=some o)->h3.get? s.heap.objs.size=some {cls:= .type "list",data:= .seq #[] c}->
   codeAny (model prog w) A (.builtin "list.extend.loop" ⟨[.ref s.heap.objs.size, .ref I, .ref s.heap.objs.size],[]⟩) (fun r s'=>match r with
    | .ok (.ret v)=>wpAny (model prog w) A (match v with| .ref x=>(do match(<-load x).data with| .seq xs _=>pure xs.toList|_=>unsupported "internal:collect")|_=>unsupported "internal:collect") Q E s'
    | .ok _=>False
    | .error e=>E e s') {s with heap:=h3,drawn:=d'}:=by
  intro h3 c st3 q1 q2
  refine codeAny_extend_loopS ((W A.in1 hh).toS) hil _ nS _ items.length 0 _ #[] c rfl (Nat.zero_le _) st3 q2 (ItemsOf.nil _) fun s' acc c' mo q3 q4=>?_
  refine wpAny_bind (wpAny_load q3 (wpAny_pure ?_))
  rw[Wr q4,Moved.eq_with mo]
  refine hQ s'.heap d' s'.toks items (fun b o e=>?_) ?_ pp
  ·have nb:b≠s.heap.objs.size:=Nat.ne_of_lt (Heap.lt_size e)
   refine mo.heap b o (fun m=>?_) (q1 b o nb (k1 b o (hkeep b o e)))
   rcases List.mem_cons.mp m with z|z
   ·exact nb z
   ·have z:=List.mem_singleton.mp z
    rw[z] at e
    exact absurd (Nat.lt_of_lt_of_le (Nat.lt_trans (Heap.lt_size e) lS) k2) (Nat.lt_irrefl _)
  ·exact Nat.le_of_lt (Heap.lt_size q3)
 refine wpAny_ite_split (fun _=>?_) fun _=>wpAny_pure ⟨plainId_quiet PySem.F.plain_extend_loop _,key h2 _ st (fun _ _ _ e=>e) vK⟩
 refine wpAny_bind (wpAny_rule (wpAny_bind ?_))
 show wpAny _ A.in1 (updateSeq s.heap.objs.size (·.push .none)>>=fun _=>updateSeq s.heap.objs.size (·.pop)) _ _ _
 have u1:=Heap.get?_update_self (Obj.mapSeq (·.push Value.none)) vK rfl
 have u2:=Heap.get?_update_self (Obj.mapSeq (·.pop)) u1 rfl
 refine wpAny_bind (wpAny_updateSeq vK rfl (wpAny_updateSeq (hz:=by seq_fits) u1 rfl ?_))
 have DP:∀b o,b≠s.heap.objs.size->h2.get? b=some o->((h2.update s.heap.objs.size (Obj.mapSeq (·.push Value.none))).update s.heap.objs.size (Obj.mapSeq (·.pop))).get? b=some o:=fun b o nb e=>(Heap.get?_update_other _ _ (Ne.symm nb)).trans ((Heap.get?_update_other _ _ (Ne.symm nb)).trans e)
 exact wpAny_pure ⟨plainId_quiet PySem.F.plain_extend_loop _,key _ _ ((W A.in1 hh).frame 0 _ _ st fun b m o e=>DP b o (fun z=>nS (z▸m)) e) DP u2⟩
theorem CZ{ks:List Int->Prop}:∀{vs:List Value},(∀v∈vs,∃k t,v= .int k t)->∃ns,IntsAre vs ns
  |[],_=>⟨[], .nil⟩
  | v :: vs, h => by
    obtain⟨k,t,rfl⟩:=h v (List.mem_cons_self ..)
    obtain⟨ns,hn⟩:=CZ (ks:=ks) fun v m=>h v (List.mem_cons_of_mem _ m)
    exact⟨k::ns, .cons k t hn⟩
theorem DQ:∀{vs:List Value} {ns:List Int},IntsAre vs ns->∀k,k∈ns↔∃t, .int k t∈vs
  |_,_, .nil,k=>by simp
  | _, _, .cons j t h, k => by
    rw[List.mem_cons,DQ h k]
    constructor
    · rintro(rfl|⟨t',m⟩)
      · exact⟨_,List.mem_cons_self ..⟩
      · exact⟨t',List.mem_cons_of_mem _ m⟩
    · rintro⟨t',m⟩
      rcases List.mem_cons.mp m with e|m
      · cases e;exact .inl rfl
      · exact .inr ⟨t',m⟩
theorem L8{S:Int->Bool}{n:Nat}{Q:Value->Shared->Prop}(hh:A.handled=none)(hS:s.heap.SetOf (IK prog w) a S n)(hT:eT (dS w) s.heap a)(h64:n<64)
  (h : ∀ h' d' tk' (l : Addr) (out : List Value) (ns : List Int) (e : Nat), (∀ b o, s.heap.get? b = some o -> h'.get? b = some o) -> s.heap.objs.size <= l -> h'.get? l = some (seqObj "list" out.toArray e) -> IntsAre out ns -> ns.Pairwise (· <= ·) -> (∀ k, S k = true ↔ k ∈ ns) -> ns.length = n ->
   Q (.ref l) {s with heap:=h',drawn:=d',toks:=tk'}):wpAny (model prog w) A (call (.builtin "sorted") [.ref a]) Q E s:=by
 obtain⟨o,es,ep,t,g1,g2,g3,l1,l2,l3,l4,sz⟩:=hS
 refine Calls.call_function_entry kind_sorted plain_sorted entry_sorted (args_sorted1 _) ?_
 unfold Builtin.«sorted»
 refine wpAny_bind (m:=checkCount "sorted" 1 1 _) (wpAny_pure (wpAny_bind ?_))
 refine VT (A:=A.in1) hh l3 g1 g2 g3 l4 (hT o es ep t g1 g3) fun h1 d1 wu items k1 k2 pp=>?_
 have hint:∀v∈items,∃k t,v= .int k t:=fun v m=>by
  obtain⟨e,m',rfl⟩:=List.mem_map.mp (pp.mem_iff.mp m)
  obtain⟨⟨k,hk,_⟩,_⟩:=l1 e m'
  obtain⟨t,ht⟩:=Value.isInt_shape hk
  exact⟨k,t,ht⟩
 obtain⟨ns,hI⟩:=CZ (ks:=fun _=>True) hint
 have hlen:items.length=n:=by rw[pp.length_eq,List.length_map,Array.length_toList,sz]
 refine wpAny_bind (wpAny_newList ?_)
 have gL:(h1.push (seqObj "list" items.toArray 0)).get? h1.objs.size=some (seqObj "list" items.toArray 0):=Heap.get?_push_size _ rfl
 refine wpAny_bind (wpAny_holding (wpAny_call_entry slot_list_sort ⟨_,gL,rfl⟩ entry_list_sort (list_sort_tree gL hI (by omega) fun out ns' a1 a2 a3=>⟨_,rfl,?_⟩) (args_list_sort _)))
 obtain⟨e,he⟩:=sortedHeap_at (out:=out) gL
 refine wpAny_pure ⟨_,rfl,h _ d1 wu h1.objs.size out.toList ns' e (fun b o q=>?_) k2 (by simpa using he) a1 a3 (fun k=>?_) ?_⟩
 ·have lb:=Heap.lt_size (k1 b o q)
  rw[sortedHeap_old (Nat.ne_of_lt lb) (by rw[Heap.size_push];exact Nat.lt_succ_of_lt lb)]
  exact Heap.get?_push_of_some _ (k1 b o q)
 ·rw[a2.mem_iff,DQ hI,l2 k]
  constructor
  ·rintro⟨e,m,q⟩
   obtain⟨t,ht⟩:=Value.isInt_shape q
   exact⟨t,pp.mem_iff.mpr (ht▸List.mem_map.mpr ⟨e,m,rfl⟩)⟩
  ·rintro⟨t,m⟩
   obtain⟨e,m',q⟩:=List.mem_map.mp (pp.mem_iff.mp m)
   exact⟨e,m',by rw[q];exact intKind_is _ _ _ _⟩
 ·rw[a2.length_eq,<-hI.length,hlen]
end
end L2
set_option maxRecDepth 100000
set_option maxHeartbeats 4000000
namespace L2
open PySem PySem.Spec PyProof.Rows
def oH(P:Program)(w:World)(a:Addr)(S:Int->Bool)(n:Nat):HO:= .ext fun h=>h.SetOf (IK P w) a S n/\eT (dS w) h a
theorem Inv.dr{X:Cx}{pins:List (Addr×Obj)}{σ:St}{H:Hp}{s:Shared}(I:Inv X pins σ H s)(d:Drawn):Inv X pins σ H {s with drawn:=d}:=
 ⟨I.ok,I.os,I.bare,I.base,I.loc,I.cell,I.free,I.iI,I.pin,I.hok,I.len⟩
theorem A8:∀{ns:List Int} {us:List Value},Vals (ns.map V.int) us->IntsAre us ns
  |[],_, .nil=> .nil
  | n :: ns, _, .cons r t => by
    obtain⟨k,rfl⟩:=r
    exact .cons n k (A8 t)
theorem zQ:∀{us:List Value} {ns:List Int},IntsAre us ns->Vals (ns.map V.int) us
 |_,_, .nil=> .nil
 |_,_, .cons k t h=> .cons ⟨t,rfl⟩ (zQ h)
theorem Rf{σ:List Int}{k:Int}(h:σ.Nodup):(step_dedup σ k).Nodup:=by
 unfold step_dedup
 split
 ·exact h
 ·rename_i q
  rw[List.nodup_append]
  refine⟨h,by simp,fun x hx y hy=>?_⟩
  rw[List.mem_singleton.mp hy]
  intro e
  subst e
  exact q (by simp[hx])
theorem ID(val:Nat->Int):∀i,(firstMet val i).Nodup
 |0=>List.nodup_nil
 |i+1=>by rw[firstMet_succ];exact Rf (ID val i)
theorem D7:∀{ds ns:List Int},ds.Nodup->(∀k∈ds,k∈ns)->ns.length<=ds.length->ds.Perm ns
  | [], ns, _, _, hl => by
    have:ns=[]:=List.length_eq_zero_iff.mp (by simpa using hl)
    rw[this]
  | d :: ds, ns, hd, hs, hl => by
    have hm:=hs d (List.mem_cons_self ..)
    obtain⟨h1,h2⟩:=List.nodup_cons.mp hd
    have hp:=List.perm_cons_erase hm
    refine(List.Perm.cons d (D7 h2 (fun k hk=>?_) ?_)).trans hp.symm
    · rcases List.mem_cons.mp (hp.mem_iff.mp (hs k (List.mem_cons_of_mem _ hk))) with e|e
      · subst e;exact absurd hk h1
      · exact e
    · have:=hp.length_eq;simp at this hl⊢;omega
def ug(P:Program)(w:World)(K:PySem.W.Frag):List V->Hp->VK->Prop:=fun xs H Q=>∃p,∃ns:List Int,xs=[.ref p]/\aQ K H p (ns.map V.int)/\ns.length<=4000/\∀a (ms:List Int),H a=none->ms.Nodup->(∀k,k∈ms↔k∈ns)->Q (.ref a) (upd H a (oH P w a (fun k=>ms.any (· ==k)) ms.length))
def tX(P:Program)(w:World):List V->Hp->VK->Prop:=fun xs H Q=>∃a,∃ms:List Int,xs=[.ref a]/\H a=some (oH P w a (fun k=>ms.any (· ==k)) ms.length)/\ms.Nodup/\ms.length<64/\
 ∀l (rs:List Int),H l=none->rs.Pairwise (· < ·)->(∀k,k∈rs↔k∈ms)->Q (.ref l) (upd H l (.lst (rs.map V.int)))
section
variable{X:Cx}
theorem Rj(hc:X.calm=true):dB X (.type "set") (ug X.prog X.w X.K):=by
 intro pins s σ H xs us Q I rv h
 obtain⟨p,ns,rfl,hp,hn,q⟩:=h
 obtain⟨u,rfl,ru⟩:=vals1 rv
 cases ru
 obtain⟨its,rs,il,hz⟩:=I.list hp
 have hI:=A8 rs
 have hlen:=hI.length
 refine Zs (I.ok.hd hc) il.isList (by simpa using hI) (by rw[List.size_toArray];unfold scanBound;omega) fun h' tk q1 q2 q3=>?_
 have hmem:∀k,k∈firstMet (fun i=>ns.getD i 0) its.toArray.size↔k∈ns:=fun k=>by
  have e:=firstMet_any (fun i=>ns.getD i 0) its.toArray.size k
  have e2:(List.range its.toArray.size).map (fun i=>ns.getD i 0)=ns:=by
   rw[List.size_toArray,hlen]
   apply List.ext_getElem
   ·simp
   ·intro i h1 h2
    simp[List.getD_eq_getElem?_getD,List.getElem?_eq_getElem h2]
  rw[e2] at e
  have a1:∀(l:List Int),(l.any (· ==k))=true↔k∈l:=fun l=>by
   rw[List.any_eq_true]
   exact⟨fun⟨x,m,z⟩=>(beq_iff_eq.mp z)▸m,fun m=>⟨k,m,beq_self_eq_true _⟩⟩
  rw[<-a1,<-a1,e]
 have kp:∀b u,s.heap.get? b=some u->h'.get? b=some u:=fun b u e=>q3 b u (Heap.lt_size e) e
 have new:bK X.prog X.w (upd H s.heap.objs.size (oH X.prog X.w s.heap.objs.size (fun k=>(firstMet (fun i=>ns.getD i 0) its.toArray.size).any (· ==k)) (firstMet (fun i=>ns.getD i 0) its.toArray.size).length)) h' s.heap.objs.size (oH X.prog X.w s.heap.objs.size (fun k=>(firstMet (fun i=>ns.getD i 0) its.toArray.size).any (· ==k)) (firstMet (fun i=>ns.getD i 0) its.toArray.size).length):=by
  refine⟨⟨q1,q2⟩,?_,fun h1 h2 z k=>?_⟩
  ·obtain⟨o,_,_,_,ho,_⟩:=q1;exact⟨o,ho⟩
  ·obtain⟨⟨o,es,ep,t,ho,r⟩,tt⟩:=z
   exact⟨⟨o,es,ep,t,k o ho,r⟩,tt.keep ho (k o ho)⟩
 exact⟨.ref s.heap.objs.size,_,I.laid (t':=tk) kp (Nat.le_refl _) new,rfl,q _ _ (I.hok.fresh (Nat.le_refl _)) (ID _ _) hmem⟩
theorem YX(hc:X.calm=true):dB X (.builtin "sorted") (tX X.prog X.w):=by
 intro pins s σ H xs us Q I rv h
 obtain⟨a,ms,rfl,hH,nd,h64,q⟩:=h
 obtain⟨u,rfl,ru⟩:=vals1 rv
 cases ru
 obtain⟨⟨q1,q2⟩,_,_⟩:=I.hok a _ hH
 refine L8 (I.ok.hd hc) q1 q2 h64 fun h' d' tk' l out ns e kp hl gl hI pw hm hn=>?_
 have a1:∀k,(ms.any (· ==k))=true↔k∈ms:=fun k=>by
  rw[List.any_eq_true]
  exact⟨fun⟨x,m,z⟩=>(beq_iff_eq.mp z)▸m,fun m=>⟨k,m,beq_self_eq_true _⟩⟩
 have hm':∀k,k∈ns↔k∈ms:=fun k=>by rw[<-hm k,a1]
 have pp:=D7 nd (fun k m=>(hm' k).mpr m) (Nat.le_of_eq hn)
 have ME:ns.Nodup:=pp.nodup_iff.mp nd
 have lt:ns.Pairwise (· < ·):=by
  have:=pw.and ME
  exact this.imp fun⟨x,y⟩=>by omega
 have new:bK X.prog X.w (upd H l (.lst (ns.map V.int))) h' l (.lst (ns.map V.int)):=by
  refine⟨?_,out,e,zQ hI,gl⟩
  rw[List.length_map,hn];exact Nat.le_trans (Nat.le_of_lt h64) (by decide)
 exact⟨.ref l,_,(I.laid (t':=tk') kp hl new).dr d',rfl,q _ _ (I.hok.fresh hl) lt hm'⟩
end
theorem ay.Yd{G:Gx}{ρ:Rh}{te:TE}{P:Program}{w:World}{K:PySem.W.Frag}{Θ:Bool->List PyData->Prop}(h:Ev G ρ te fun _ x=>∃ns:List Int,x= .list (ns.map .int)/\ns.length<64/\∀rs:List Int,rs.Pairwise (· < ·)->(∀k,k∈rs↔k∈ns)->Θ true (rs.map .int)):
  ay G ρ (dw (tX P w) (aS (dw (ug P w K) (aS te bh)) bh)) Θ:=fun nb σ H Q W z=>
 h nb σ H _ W fun f v H1 x ⟨ns,ex,hn,q⟩ s1 hv=>by
  subst ex
  obtain⟨a,xs,rfl,na,hx,hd⟩:=hv.cU
  have e:=uf hd
  subst e
  refine⟨a,ns,rfl, .of hx,by omega,fun b ms hb nd hm=>?_⟩
  have hms:ms.length<=ns.length:=List.Nodup.length_le_of_subset nd fun k m=>(hm k).mp m
  refine⟨b,ms,rfl,aU,nd,by omega,fun l rs hl lt hm'=>?_⟩
  have s2:Step G.B H1 (upd H1 b (oH P w b (fun k=>ms.any (· ==k)) ms.length)):= .same s1.2 (bW hb)
  exact ay.fin (f:=true) W (s1.trans s2) hl (pT rs) (q rs lt fun k=>(hm' k).trans (hm k)) z
theorem FI{ms:List Int}{m:Int}(nd:ms.Nodup)(h:∀k∈ms,0<=k/\k<m):ms.length<=m.toNat:=by
 have:=List.Nodup.length_le_of_subset nd (l₂:=(List.range m.toNat).map fun(i:Nat)=>(i:Int)) fun k hk=>by
  have:=h k hk
  exact List.mem_map.mpr ⟨k.toNat,List.mem_range.mpr (by omega),by omega⟩
 rwa[List.length_map,List.length_range] at this
end L2
set_option maxRecDepth 100000
set_option maxHeartbeats 4000000
set_option maxRecDepth 100000
set_option maxHeartbeats 4000000
set_option maxRecDepth 100000
set_option maxHeartbeats 4000000
set_option maxRecDepth 100000
set_option maxHeartbeats 4000000
set_option maxRecDepth 100000
set_option maxHeartbeats 4000000
set_option maxRecDepth 100000
set_option maxHeartbeats 4000000
set_option maxRecDepth 100000
set_option maxHeartbeats 4000000
set_option maxRecDepth 100000
set_option maxHeartbeats 4000000
set_option maxRecDepth 100000
set_option maxHeartbeats 4000000
set_option maxRecDepth 100000
set_option maxHeartbeats 4000000
set_option maxRecDepth 100000
set_option maxHeartbeats 4000000
set_option maxRecDepth 100000
set_option maxHeartbeats 4000000
namespace L2
open PySem PySem.Spec PyProof.Rows
def D6:List V->Hp->VK->Prop:=fun xs H Q=>∃j:Int,xs=[.int j]/\∀a,H a=none->Q (.ref a) (upd H a (.jT 0 j))
def Ib:List V->Hp->VK->Prop:=fun xs H Q=>∃(a:Addr) (lo hi:Int),xs=[.ref a]/\H a=some (.jT lo hi)/\(-10000<=lo/\lo<=10000/\ -10000<=hi/\hi<=10000)/\∀l,H l=none->Q (.ref l) (upd H l (.lst (((List.range (hi-lo).toNat).map fun(i:Nat)=>lo+(i:Int)).map V.int)))
def wI(K:PySem.W.Frag):List V->Hp->VK->Prop:=fun xs H Q=>∃p,∃ns:List Int,xs=[.ref p]/\aQ K H p (ns.map V.int)/\Q (.int ns.sum) H
def qK(K:PySem.W.Frag):List V->Hp->VK->Prop:=fun xs H Q=>∃p,∃bs:List Bool,xs=[.ref p]/\aQ K H p (bs.map V.bl)/\Q (.bl (bs.all id)) H
section
variable{X:Cx}
theorem KD:dB X (.type "range") D6:=by
 intro pins s σ H xs us Q I rv h
 obtain⟨j,rfl,q⟩:=h
 obtain⟨u,rfl,ru⟩:=vals1 rv
 obtain⟨t,rfl⟩:=ru
 refine call_range_1 ?_
 exact⟨.ref s.heap.objs.size,_,I.laid (t':=s.toks+1+1) (o:= .jT 0 j) (fun b o e=>Heap.get?_push_of_some _ e) (Nat.le_refl _) ⟨_,_,_,Heap.get?_push_size _ rfl⟩,rfl,q _ (I.hok.fresh (Nat.le_refl _))⟩
theorem M9(hc:X.calm=true):dB X (.type "list") Ib:=by
  intro pins s σ H xs us Q I rv h
  obtain⟨a,lo,hi,rfl,hH,hb,q⟩:=h
  obtain⟨u,rfl,ru⟩:=vals1 rv
  cases ru
  obtain⟨t,u,v,e⟩:=(show bK X.prog X.w H s.heap a (.jT lo hi) from I.hok a _ hH)
  refine call_list_range (n:=(hi-lo).toNat) (I.ok.hd hc) (show IsRange s.heap a lo hi 1 t u v from e) (small_one (by omega) (by omega) (by omega) (by omega)) (rangeSize_nat lo hi) (by omega) fun h' tk acc c' kp hl hi'=>?_
  have vv:Vals (((List.range (hi-lo).toNat).map fun(i:Nat)=>lo+(i:Int)).map V.int) acc.toList:=by
    have key:∀(n:Nat) (l:List Value),l.length=n->∀b:Int,(∀(j:Nat) (v:Value),l[j]?=some v->∃t,v=Value.int (b+(j:Int)) t)->Vals (((List.range n).map fun(i:Nat)=>b+(i:Int)).map V.int) l:=by
      intro n
      induction n with
      |zero=>intro l hl b _;rw[List.length_eq_zero_iff.mp hl];exact .nil
      | succ n ih =>
        intro l hl b hv
        cases l with
        |nil=>cases hl
        | cons x r =>
          obtain⟨t,e⟩:=hv 0 x rfl
          rw[List.range_succ_eq_map,List.map_cons,List.map_cons]
          refine .cons ⟨t,by simpa using e⟩ ?_
          have:=ih r (by simpa using hl) (b+1) (fun j v e=>by
            obtain⟨t,z⟩:=hv (j+1) v (by simpa using e)
            exact⟨t,by rw[z];congr 1;omega⟩)
          rw[List.map_map] at this⊢
          rw[List.map_map]
          have e:∀i:Nat,((V.int∘fun(i:Nat)=>b+(i:Int))∘Nat.succ) i=(V.int∘fun(i:Nat)=>b+1+(i:Int)) i:=fun i=>by
            show V.int (b+((i+1:Nat):Int))=V.int (b+1+(i:Int));congr 1;omega
          rw[List.map_congr_left fun i _=>e i]
          exact this
    refine key _ _ (by rw[Array.length_toList];exact hi'.1) lo fun j v e=>?_
    obtain⟨t,z⟩:=hi'.2 j v (by rw[<-Array.getElem?_toList];exact e)
    exact⟨t,by rw[z];congr 1;omega⟩
  refine⟨.ref s.heap.objs.size,_,I.laid (t':=tk) (o:= .lst (((List.range (hi-lo).toNat).map fun(i:Nat)=>lo+(i:Int)).map V.int)) kp (Nat.le_refl _) ⟨?_,acc.toList,c',vv,by simpa using hl⟩,rfl,q _ (I.hok.fresh (Nat.le_refl _))⟩
  rw[List.length_map,List.length_map,List.length_range]
  exact Nat.le_trans (show(hi-lo).toNat<=20000 by omega) (by decide)
theorem U9(hc:X.calm=true):dB X (.builtin "sum") (wI X.K):=by
 intro pins s σ H xs us Q I rv h
 obtain⟨p,ns,rfl,hp,q⟩:=h
 obtain⟨u,rfl,ru⟩:=vals1 rv
 cases ru
 obtain⟨its,rs,il,hz⟩:=I.list hp
 have hI:=A8 rs
 obtain⟨ys,e⟩:=hI.allInts.items
 have hn:=hI.numsOf
 refine sum_intListG (xs:=ys) (I.ok.hd hc) (by rw[<-e];exact il.isList) fun h' tk t' kp=>?_
 have e2:preSum (numAt ys) ys.size=ns.sum:=by
  rw[preSum_eq,List.take_of_length_le (by simp),<-nums_intItems,<-e,<-hn]
 rw[e2]
 exact⟨.int ns.sum,H,I.kept kp,⟨_,rfl⟩,q⟩
theorem Fy(hc:X.calm=true):dB X (.builtin "all") (qK X.K):=by
  intro pins s σ H xs us Q I rv h
  obtain⟨p,bs,rfl,hp,q⟩:=h
  obtain⟨u,rfl,ru⟩:=vals1 rv
  cases ru
  obtain⟨its,rs,il,hz⟩:=I.list hp
  have hl:=rs.length
  have hv:∀(i:Nat) (v:Value),its.toArray[i]?=some v->v= .bool (bs.getD i false):=fun i v e=>by
    have hi:i<bs.length:=by
      have:=(Array.getElem?_eq_some_iff.mp e).1
      rw[List.length_map] at hl
      simp at this;omega
    obtain⟨u,hu,ru⟩:=rs.get (i:=i) (x:= .bl bs[i]) (by rw[List.getElem?_map,List.getElem?_eq_getElem hi];rfl)
    rw[List.getElem?_toArray,hu] at e
    cases e
    rw[List.getD_eq_getElem?_getD,List.getElem?_eq_getElem hi]
    exact ru
  have ll:=il.isList
  have hlt:p<s.heap.objs.size:=by obtain⟨o,e,_⟩:=ll;exact Heap.lt_size e
  refine call_all_walk (wpAny_pyIter_list ll ⟨s.heap.objs.size,_,_,_,_,_,fun i=>bs.getD i false,rfl,Walks.list (A:=X.A.in1) (I.ok.hd hc) _ p (Nat.ne_of_lt hlt) its.toArray,⟨⟨_,Heap.get?_push_size _ rfl,rfl,rfl⟩,ll.push _⟩,fun i v s Q E hP hQ=>?_,fun h' tk kp=>?_⟩)
  · rw[hv i v hP];exact wpAny_truthy_bool hQ
  · have e:(List.range its.toArray.size).all (fun i=>bs.getD i false)=bs.all id:=by
      have hs:its.toArray.size=bs.length:=by rw[List.length_map] at hl;simp;omega
      rw[hs]
      clear hv hl rs q hp hs hz
      induction bs with
      |nil=>rfl
      | cons b r ih =>
        rw[List.length_cons,List.range_succ_eq_map,List.all_cons,List.all_cons,List.all_map]
        simpa[Function.comp_def] using congrArg (b && ·) ih
    rw[e]
    refine⟨.bl (bs.all id),H,I.kept fun b o q=>kp b o (fun m=>?_) (Heap.get?_push_of_some _ q),rfl,q⟩
    have:=List.mem_singleton.mp m
    rw[this] at q
    exact absurd (Heap.lt_size q) (Nat.lt_irrefl _)
end
section
variable{G:Gx}{ρ:Rh}{te:TE}{K:PySem.W.Frag}{Φ:Pd}
theorem ay.ON{Θ:Bool->List PyData->Prop}(h:Ev G ρ te fun _ x=>∃n:Int,x= .int n/\ -10000<=n/\n<=10000/\Θ true (((List.range n.toNat).map fun(i:Nat)=>(0:Int)+(i:Int)).map .int)):ay G ρ (dw Ib (aS (dw D6 (aS te bh)) bh)) Θ:=fun nb σ H Q W z=>
 h nb σ H _ W fun f v H1 x ⟨n,ex,h1,h2,q⟩ s1 hv=>by
  subst ex
  rw[hv.bD]
  refine⟨n,rfl,fun a ha=>⟨a,0,n,rfl,aU,by omega,fun l hl=>?_⟩⟩
  rw[Int.sub_zero]
  exact ay.fin (f:=true) W (s1.trans (.same s1.2 (bW ha))) hl (pT _) q z
theorem Ev.sum(h:Ev G ρ te fun _ x=>∃ns:List Int,x= .list (ns.map .int)/\Φ true (.int ns.sum)):Ev G ρ (dw (wI K) (aS te bh)) Φ:=fun nb σ H Q W z=>
 h nb σ H _ W fun f v H1 x ⟨ns,ex,q⟩ s1 hv=>by
  subst ex
  obtain⟨a,xs,rfl,na,hx,hd⟩:=hv.cU
  have e:=uf hd
  subst e
  exact⟨a,ns,rfl, .of hx,z true _ H1 _ q s1 (.int _)⟩
theorem EX{nb:Addr->Prop}{H:Hp}:∀{is:List Bool} {xs:List V},af nb H (is.map PyData.bool) xs->xs=is.map V.bl
  |[],_,h=>by unfold List.map af at h;exact h
  | i :: is, _, h => by
    rw[List.map_cons] at h
    unfold af at h
    obtain⟨y,ys,rfl,h1,h2⟩:=h
    unfold ah at h1
    rw[List.map_cons,h1,EX h2]
theorem Ev.all(h:Ev G ρ te fun _ x=>∃bs:List Bool,x= .list (bs.map .bool)/\Φ true (.bool (bs.all id))):Ev G ρ (dw (qK K) (aS te bh)) Φ:=fun nb σ H Q W z=>
 h nb σ H _ W fun f v H1 x ⟨bs,ex,q⟩ s1 hv=>by
  subst ex
  obtain⟨a,xs,rfl,na,hx,hd⟩:=hv.cU
  have e:=EX hd
  subst e
  exact⟨a,bs,rfl, .of hx,z true _ H1 _ q s1 (.bl _)⟩
end
end L2
set_option maxRecDepth 100000
set_option maxHeartbeats 4000000
namespace L2
open PySem PySem.Spec PyProof.Rows
def gp:PyData->String->Bool
 | .bool _,T=>T=="bool" ||T=="int"
 | .int _,T=>T=="int"
 | .str _,T=>T=="str"
 | .list _,T=>T=="list"
 | .tuple _,T=>T=="tuple"
 |_,_=>false
def Be:PyData->String
 | .none=> "NoneType" | .bool _=> "bool" | .int _=> "int" | .str _=> "str" | .list _=> "list" | .tuple _=> "tuple" | .dict _=> "dict"
theorem CU(ds:List PyData):gp (.list ds) "list"=true/\gp (.list ds) "tuple"=false:=⟨rfl,rfl⟩
theorem DV(ds:List PyData):gp (.tuple ds) "list"=false/\gp (.tuple ds) "tuple"=true:=⟨rfl,rfl⟩
theorem RT{K:PySem.W.Frag}{nb:Addr->Prop}{H:Hp}{d:PyData}{v:V}(h:ah nb H d v):fZ K H v (.type (Be d)):=by
 cases d<;>unfold ah at h
 ·subst h;exact .aE
 ·subst h;exact .bl _
 ·subst h;exact .int _
 ·subst h;exact .str _
 ·obtain⟨a,xs,rfl,_,e,_⟩:=h;exact .lst e
 ·obtain⟨a,xs,rfl,_,e,_⟩:=h;exact .tup e
 ·obtain⟨a,xs,rfl,_,e,_⟩:=h;exact e.elim .dK fun⟨_,e⟩=> .Hx e
def mE(T:String):Prop:=T="int" \/T="bool" \/T="list" \/T="tuple" \/T="str"
theorem Fo{K:PySem.W.Frag}{d:PyData}{T:String}(hT:mE T):PySem.W.kitOne K (.type (Be d)) (.type T)=some (gp d T):=by
 rcases hT with rfl|rfl|rfl|rfl|rfl<;>cases d<;>(with_unfolding_all rfl)
theorem Cr{K:PySem.W.Frag}{d:PyData}:∀{Ts:List String},(∀T∈Ts,mE T)->PySem.W.kitAny K (.type (Be d)) (Ts.map Value.type)=some (Ts.any (gp d))
  |[],_=>rfl
  | T :: r, h => by
    rw[List.map_cons]
    unfold PySem.W.kitAny
    rw[Fo (h T (List.mem_cons_self ..)),List.any_cons]
    cases gp d T with
    |true=>rfl
    |false=>exact Cr fun T m=>h T (List.mem_cons_of_mem _ m)
def uc:List V->Hp->VK->Prop:=fun xs H Q=>∃(x:V) (tp:Addr) (Ts:List String) (nb:Addr->Prop) (d:PyData),xs=[x, .ref tp]/\H tp=some (.tup (Ts.map V.ty))/\ah nb H d x/\(∀T∈Ts,mE T)/\Q (.bl (Ts.any (gp d))) H
theorem HX:∀{Ts:List String} {us:List Value},Vals (Ts.map V.ty) us->us=Ts.map Value.type
 |[],_, .nil=>rfl
 |T::r,_, .cons h t=>by rw[List.map_cons,HX t,show _=Value.type T from h]
section
variable{X:Cx}
theorem Ez:dB X (.builtin "isinstance") uc:=by
 intro pins s σ H xs us Q I rv h
 obtain⟨x,tp,Ts,nb,d,rfl,ht,hd,h5,q⟩:=h
 obtain⟨u,v,rfl,ru,rv⟩:=rv.two
 cases (show v=Value.ref tp from rv)
 obtain⟨_,its,vt,o,ho,hc,n,hdat⟩:=(show bK X.prog X.w H s.heap tp (.tup (Ts.map V.ty)) from I.hok tp _ ht)
 have e:=HX vt
 subst e
 obtain⟨c0,d0,dt,sl⟩:=o
 dsimp only at hc hdat
 subst hc hdat
 have fin:∀tk,EP X pins σ Q (.bool (Ts.any (gp d))) {s with toks:=tk}:=fun tk=>⟨.bl _,H,I.tok tk,rfl,q⟩
 have ka:=Cr (K:=X.K) (d:=d) h5
 cases d<;>unfold ah at hd
 ·subst hd;cases (show u=Value.none from ru);exact PySem.W.kia_tup PySem.W.kitx_none I.ck True.intro ho ka (fun z=>nomatch z) fin
 ·subst hd;cases (show u=Value.bool _ from ru);exact PySem.W.kia_tup PySem.W.kitx_bool I.ck True.intro ho ka (fun z=>nomatch z) fin
 ·subst hd;obtain⟨t,rfl⟩:=(show∃t,u=Value.int _ t from ru);exact PySem.W.kia_tup PySem.W.kitx_int I.ck True.intro ho ka (fun z=>nomatch z) fin
 ·subst hd;obtain⟨t,rfl⟩:=(show∃t,u=Value.str _ t from ru);exact PySem.W.kia_tup PySem.W.kitx_str I.ck True.intro ho ka (fun z=>nomatch z) fin
 ·obtain⟨a,ys,rfl,_,ea,_⟩:=hd
  cases (show u=Value.ref a from ru)
  obtain⟨_,_,n,_,h1⟩:=(show bK X.prog X.w H s.heap a (.lst ys) from I.hok a _ ea)
  exact PySem.W.kia_tup PySem.W.kitx_list I.ck ⟨_,h1,rfl⟩ ho ka (fun z=>nomatch z) fin
 ·obtain⟨a,ys,rfl,_,ea,_⟩:=hd
  cases (show u=Value.ref a from ru)
  obtain⟨_,_,_,o',h1,h2,_⟩:=(show bK X.prog X.w H s.heap a (.tup ys) from I.hok a _ ea)
  exact PySem.W.kia_tup PySem.W.kitx_tuple I.ck ⟨o',h1,h2⟩ ho ka (fun z=>nomatch z) fin
 ·obtain⟨a,ys,rfl,_,ea,_⟩:=hd
  cases (show u=Value.ref a from ru)
  obtain⟨_,_,vs,_,dd⟩:=(show bK X.prog X.w H s.heap a (.dK ys) from ea.ok I.hok)
  exact PySem.W.kia_tup PySem.W.kitx_dict I.ck dd.typeIs ho ka (fun z=>nomatch z) fin
end
section
variable{G:Gx}{ρ:Rh}{ta tb te:TE}{K:PySem.W.Frag}{Φ:Pd}{T U:String}
theorem Ev.O1(hT:mE T)(h:Ev G ρ te fun _ x=>Φ true (.bool (gp x T))):Ev G ρ (dw (iE K) (aS te (aS (tC (.ty T)) bh))) Φ:=fun nb σ H Q W z=>
 h nb σ H _ W fun f v H1 d q s1 hv=>⟨v,T,_,_,rfl,RT hv,Fo hT,z true _ H1 _ q s1 (.bl _)⟩
theorem Ev.XN(hT:mE T)(hU:mE U)(h:Ev G ρ te fun _ x=>Φ true (.bool (gp x T||gp x U))):Ev G ρ (dw uc (aS te (aS (pY (aS (tC (.ty T)) (aS (tC (.ty U)) bh))) bh))) Φ:=fun nb σ H Q W z=>
 h nb σ H _ W fun f v H1 d q s1 hv=>by
  refine⟨by show 2<=sizeLine;decide,fun p hp=>⟨v,p,[T,U],G.S nb f,d,rfl,aU,hv.keep (aP.of (bW hp)),fun S m=>?_,?_⟩⟩
  ·rcases List.mem_cons.mp m with e|m
   ·rw[e];exact hT
   ·rw[List.mem_singleton.mp m];exact hU
  ·rw[List.any_cons,List.any_cons,List.any_nil,Bool.or_false]
   exact z true _ _ _ q (s1.trans (.same s1.2 (bW hp))) (.bl _)
theorem Ev.m8(h:Ev G ρ te fun _ x=>∃ds,(x= .list ds\/x= .tuple ds)/\Φ true (.int ds.length)):Ev G ρ (dw (gk K) (aS te bh)) Φ:=fun nb σ H Q W z=>
 h nb σ H _ W fun f v H1 d ⟨ds,e,q⟩ s1 hv=>by
  rcases e with e|e
  ·subst e
   obtain⟨a,xs,rfl,n,hx,hd⟩:=hv.cU
   exact⟨a,xs,rfl, .inl (.of hx),by rw[hd.length];exact z true _ H1 _ q s1 (.int _)⟩
  ·subst e
   obtain⟨a,xs,rfl,n,hx,hd⟩:=hv.ofT
   exact⟨a,xs,rfl, .inr (.of hx),by rw[hd.length];exact z true _ H1 _ q s1 (.int _)⟩
theorem Ev.zG(h:Ev G ρ ta fun f x=>∃ds,(x= .list ds\/x= .tuple ds)/\Ev G ρ tb fun _ y=>∃k,y= .int k/\∃e,bB ds k=some e/\Φ f e):Ev G ρ (bX (rm K) ta tb) Φ:=
 Ev.iD (h.mono fun f x ⟨ds,ex,q⟩=>q.mono fun g y ⟨k,ey,e,he,p⟩ nb σ H u v Q W hu hv z=>by
  subst ey
  rcases ex with ex|ex
  ·subst ex
   obtain⟨a,xs,rfl,n,hx,hd⟩:=hu.cU
   obtain⟨w,hw,hD⟩:=hd.bB he
   exact .inl ⟨a,xs,k,w,rfl,hv.bD, .of hx,hw,z f _ H _ p (.refl W.aA) hD⟩
  ·subst ex
   obtain⟨a,xs,rfl,n,hx,hd⟩:=hu.ofT
   obtain⟨w,hw,hD⟩:=hd.bB he
   exact .inr (.inl ⟨a,xs,k,w,rfl,hv.bD, .of hx,hw,z f _ H _ p (.refl W.aA) hD⟩))
end
theorem Callee.void{P:Program}{w:World}{K:PySem.W.Frag}{mg:Str->Option Value}{base:Heap}{x:Str}{st:Stmt}{k:Nat}{ps:List Str}{sp:Sp}{f:Addr}{fd:FuncData}(F:bC K x x st f fd)(b:Binds K fd ps [])(m:mg x=some (.ref f))(hv:∀vs H Q E,¬sp vs H Q E):Callee P w K mg base x k ps sp:=
 ⟨f,fd,⟨fun vs H Q E h=>(hv vs H Q E h).elim,fun A outer s H args us vs Q E _ _ _ _ h=>(hv vs H Q E h).elim⟩,b,F.kp,m⟩
end L2
set_option maxRecDepth 100000
set_option maxHeartbeats 4000000
namespace L2
open PySem PySem.Spec PyProof.Rows
section
variable{G:Gx}{ρ cg:Rh}{te:TE}{gt:TG}{n i:Nat}{it:Nat->PyData->Prop}{fi:Bool}{Θ:Bool->List PyData->Prop}{E:DE}
theorem Pk(os:List Int):dP (os.map PyData.int)=true:=by
 unfold dP
 rw[List.all_eq_true]
 intro x hx
 obtain⟨y,_,rfl⟩:=List.mem_map.mp hx
 rfl
theorem fY.ints(P:Int->Prop)(ht:∀i d,it i d->Gv G cg gt fi d fun eN=>Wk cg eN/\Ev G eN te fun _ e=>∃r:Int,e= .int r/\P r)(h:∀os:List Int,os.length=n->(∀x∈os,P x)->Θ true (os.map .int)):fY G cg n it fi gt kX te Θ:=by
 refine⟨false,fun i ds=>ds.length=i/\∃os:List Int,ds=os.map .int/\∀x∈os,P x,⟨rfl,[],rfl,fun _ h=>nomatch h⟩,?_,?_⟩
 ·rintro i d ds hd hl ⟨hl2,os,rfl,ho⟩
  refine fun nb σ H v Q W hv z=>ht i d hd nb σ H v Q W hv fun σ' ρ' ⟨w,q⟩ W'=>z σ' ρ' ⟨w,Tv.ko (rQ (q.mono fun f e ⟨r,ee,hr⟩=>⟨fun z=>(by cases z),?_,os++[r],?_,fun x hx=>?_⟩))⟩ W'
  ·rw[List.length_append,List.length_singleton,hl2]
  ·rw[ee];simp
  ·rcases List.mem_append.mp hx with h|h
   ·exact ho x h
   ·rw[List.mem_singleton.mp h];exact hr
 ·rintro ds hl ⟨hl2,os,rfl,ho⟩
  rw[Pk,Bool.or_true]
  exact h os (by rw[List.length_map] at hl2;exact hl2) ho
theorem fY.rel{α:Type}(φ:α->PyData)(fl:Bool)(P:Nat->α->Prop)(ht:∀i d,it i d->Gv G cg gt fi d fun eN=>Wk cg eN/\Ev G eN te fun f e=>(fl=true->f=true)/\∃r:α,e=φ r/\P i r)
  (h:∀os:List α,os.length=n->(∀(i:Nat) x,os[i]?=some x->P i x)->Θ (fl||dP (os.map φ)) (os.map φ)):fY G cg n it fi gt kX te Θ:=by
 refine⟨fl,fun i ds=>ds.length=i/\∃os:List α,ds=os.map φ/\∀(i:Nat) x,os[i]?=some x->P i x,⟨rfl,[],rfl,fun j x e=>by simp at e⟩,?_,?_⟩
 ·rintro i d ds hd hl ⟨hl2,os,rfl,ho⟩
  refine fun nb σ H v Q W hv z=>ht i d hd nb σ H v Q W hv fun σ' ρ' ⟨w,q⟩ W'=>z σ' ρ' ⟨w,Tv.ko (rQ (q.mono fun f e ⟨hf,r,ee,hr⟩=>⟨hf,?_,os++[r],?_,fun j x hj=>?_⟩))⟩ W'
  ·rw[List.length_append,List.length_singleton,hl2]
  ·rw[ee];simp
  ·rw[List.length_map] at hl2
   rcases Nat.lt_trichotomy j os.length with h|h|h
   ·exact ho j x (by rwa[List.getElem?_append_left h] at hj)
   ·subst h
    simp at hj
    subst hj
    rw[hl2];exact hr
   ·rw[List.getElem?_eq_none (by rw[List.length_append,List.length_singleton];omega)] at hj
    cases hj
 ·rintro ds hl ⟨hl2,os,rfl,ho⟩
  exact h os (by rw[List.length_map] at hl2;exact hl2) ho
theorem Sv.CC(h:∀a,E.nx (ρ.set i (.own a true []))):Sv G ρ (fW (kQ bh) (dW i)) E:=Sv.aab (ay.lst (Av.nil ⟨by decide,fun a=>h a⟩))
end
def U6:R2:=fun x y H Q=>∃a b:Bool,x= .bl a/\y= .bl b/\Q (.bl (a==b)) H
theorem Ev.isB{G:Gx}{ρ:Rh}{ta:TE}{b:Bool}{Φ:Pd}(h:Ev G ρ ta fun _ x=>∃a,x= .bool a/\Φ true (.bool (a==b))):Ev G ρ (bX U6 ta (tC (.bl b))) Φ:=fun nb σ H Q W z=>
 h nb σ H _ W fun f v H1 d ⟨a,e,q⟩ s1 hv=>by
  subst e
  unfold ah at hv
  subst hv
  exact⟨a,b,rfl,rfl,z true _ H1 _ q s1 (.bl _)⟩
theorem kj{X:Cx}{K:PySem.W.Frag}{a:Expr}{ta:TE}(hK:X.K=K)(ha:PE X a ta)(he:∀whole,isTrue a X.env whole=(do let v<-whole;standAt a.pos;holding [v] (truthy v))):PT X a (rP K ta):=by
 subst hK
 exact QH ha he
theorem iB{X:Cx}{K:PySem.W.Frag}{es:List Expr}{k:Nat}{t:fN}{n:Nat}{pos:Pos}(hK:X.K=K)(hc:X.calm=true)(h:nX X es t)(hn:(assignEach es X.env).length=n:=by rfl)(hst:(assignEach es X.env).findIdx? (·.1)=none:=by rfl):PG X (.Tuple es k pos) (mw K n t):=by
 subst hK
 exact DN hc h hn hst
theorem WZ{α β:Type}{os:List β}{xs:List α}{φ:α->β}(hl:os.length=xs.length)(h:∀(i:Nat) o,os[i]?=some o->∃x,xs[i]?=some x/\o=φ x):os=xs.map φ:=by
 apply List.ext_getElem?
 intro i
 by_cases hi:i<os.length
 ·obtain⟨x,hx,e⟩:=h i _ (List.getElem?_eq_getElem hi)
  rw[List.getElem?_eq_getElem hi,List.getElem?_map,hx,e];rfl
 ·rw[List.getElem?_eq_none (by omega),List.getElem?_map,List.getElem?_eq_none (by omega)];rfl
theorem Ev.La{G:Gx}{ρ:Rh}{tb:TE}{K:PySem.W.Frag}{Φ:Pd}(h:Ev G ρ tb fun _ y=>∃wd:Wo,y=eZ wd/\Φ true (.bool (decide (none∈wd)))):Ev G ρ (bX (mV K false) (tC .aE) tb) Φ:=fun nb σ H Q W z=>
 h nb σ H _ W fun f v H1 d ⟨wd,e,q⟩ s1 hv=>by
  subst e
  obtain⟨a,xs,rfl,na,hx,hd⟩:=hv.cU
  have ex:=uy hd
  subst ex
  refine⟨a,wd.map nu,rfl, .inl (.of hx),rfl,?_,?_⟩
  ·rw[List.all_eq_true]
   intro x hx
   obtain⟨o,_,rfl⟩:=List.mem_map.mp hx
   cases o<;>rfl
  ·have e:jY V.aE (wd.map nu)=decide (none∈wd):=by
    unfold jY
    rw[List.any_map,Bool.eq_iff_iff,List.any_eq_true,decide_eq_true_eq]
    constructor
    ·rintro⟨o,m,h⟩
     cases o with
     |none=>exact m
     |some x=>cases h
    ·intro m
     exact⟨none,m,rfl⟩
   show Q (.bl (if false=true then _ else _)) H1
   rw[if_neg Bool.false_ne_true,e]
   exact z true _ H1 _ q s1 (.bl _)
def nY(p:Int)(cs:List ak)(wd:Wo):Prop:=none∉wd/\∀prs∈cs,aG prs wd%p=0
instance{p:Int}{cs:List ak}{wd:Wo}:Decidable (nY p cs wd):=by unfold nY;infer_instance
theorem pick{L:List Int}{k:Int}(h0:0<=k)(h1:k<L.length)(P:Int->Prop)(hP:∀x∈L,P x):∃x,bB (L.map PyData.int) k=some (.int x)/\P x:=by
 have hL:k.toNat<L.length:=by omega
 exact⟨L[k.toNat],gC h0 (by rw[List.getElem?_map,List.getElem?_eq_getElem hL];rfl),hP _ (List.getElem_mem hL)⟩
end L2
set_option maxRecDepth 100000
set_option maxHeartbeats 4000000
namespace L2
open PySem PySem.Spec PyProof.Rows
theorem BX(a b:ak)(wd:Wo):aG (a++b) wd=aG a wd+aG b wd:=by
 unfold aG;rw[List.map_append,List.sum_append]
theorem jq(a:Int×Int)(b:ak)(wd:Wo):aG (a::b) wd=eO wd a+aG b wd:=by
 unfold aG;rw[List.map_cons,List.sum_cons]
end L2
set_option maxRecDepth 100000
set_option maxHeartbeats 4000000
namespace L2
open PySem PySem.Spec PyProof.Rows
theorem FT{w:List Int}{pr:Int×Int}{x:Int}(h:w[pr.1.toNat]?=some x):eO (w.map some) pr=pr.2*x:=by
 unfold eO
 rw[List.getElem?_map,h];rfl
end L2
set_option maxRecDepth 100000
set_option maxHeartbeats 4000000
namespace L2
open PySem PySem.Spec PyProof.Rows
def CP(K:PySem.W.Frag)(te:TE)(ts:TO):TE:=fun σ H Q=>te σ H fun x H1=>ts σ H1 fun k H2=>k=some (-1)/\∃a xs,x= .ref a/\aQ K H2 a xs/\∀p,H2 p=none->Q (.ref p) (upd H2 p (.lst xs.reverse))
theorem af.rev{nb:Addr->Prop}{H:Hp}:∀{ds:List PyData} {xs:List V},af nb H ds xs->af nb H ds.reverse xs.reverse
  |[],xs,h=>by unfold af at h;subst h;exact .nil
  | d :: ds, xs, h => by
    unfold af at h
    obtain⟨y,ys,e,h1,h2⟩:=h
    subst e
    rw[List.reverse_cons,List.reverse_cons]
    exact af.append (af.rev h2) (.cons h1 .nil)
section
variable{G:Gx}{ρ:Rh}{Φ:Pd}{ta tb te:TE}{K:PySem.W.Frag}
theorem ay.rev{ts:TO}{Θ:Bool->List PyData->Prop}(h:Ev G ρ te fun f x=>∃ds,x= .list ds/\Ov G ρ ts fun o=>o=some (-1)/\Θ (f||dP ds.reverse) ds.reverse):ay G ρ (CP K te ts) Θ:=fun nb σ H Q W z=>
 h nb σ H _ W fun f v H1 d ⟨ds,e,q⟩ s1 hv=>q nb σ H1 _ (W.step s1) fun o H2 ⟨eo,q2⟩ s2=>by
  subst e
  obtain⟨a,xs,rfl,n,hx,hd⟩:=(hv.keep s2.cH).cU
  exact⟨eo,a,xs,rfl, .of hx,fun p hp=>ay.fin W (s1.trans s2) hp hd.rev q2 z⟩
theorem Ev.rev{ts:TO}(h:Ev G ρ te fun f x=>∃ds,x= .list ds/\Ov G ρ ts fun o=>o=some (-1)/\Φ (f||dP ds.reverse) (.list ds.reverse)):Ev G ρ (CP K te ts) Φ:=(ay.rev (Θ:=fun f ds=>Φ f (.list ds)) h).ev
theorem rO{X:Cx}{K:PySem.W.Frag}(hK:X.K=K):cI X (compareOp .In) (mV K false):=by subst hK;exact XE
theorem GN{X:Cx}{K:PySem.W.Frag}(hK:X.K=K):cI X (compareOp .NotIn) (mV K true):=by subst hK;exact Mv
theorem Ev.mD{ng:Bool}(h:Ev G ρ ta fun _ x=>∃k:Int,x= .int k/\Ev G ρ tb fun _ y=>∃ns:List Int,y= .list (ns.map .int)/\Φ true (.bool (decide (k∈ns) !=ng))):Ev G ρ (bX (mV K ng) ta tb) Φ:=fun nb σ H Q W z=>
 h nb σ H _ W fun f v H1 d ⟨k,e,q⟩ s1 hv=>q nb σ H1 _ (W.step s1) fun g u H2 d2 ⟨ns,e2,p⟩ s2 hu=>by
  subst e e2
  have hk:=hv.bD
  subst hk
  obtain⟨a,xs,rfl,na,hx,hd⟩:=hu.cU
  have ex:=uf hd
  subst ex
  refine⟨a,ns.map V.int,rfl, .inl (.of hx),rfl,?_,?_⟩
  ·rw[List.all_eq_true]
   intro x hx
   obtain⟨o,_,rfl⟩:=List.mem_map.mp hx
   rfl
  ·have e:jY (V.int k) (ns.map V.int)=decide (k∈ns):=by
    unfold jY
    rw[List.any_map,Bool.eq_iff_iff,List.any_eq_true,decide_eq_true_eq]
    constructor
    ·rintro⟨o,m,h⟩
     have:o=k:=eq_of_beq h
     exact this▸m
    ·intro m
     exact⟨k,m,beq_self_eq_true k⟩
   have e2:(if ng=true then !jY (V.int k) (ns.map V.int) else jY (V.int k) (ns.map V.int))=(decide (k∈ns) !=ng):=by
    rw[e]
    cases ng<;>simp
   rw[e2]
   exact z true _ H2 _ p (s1.trans s2) (.bl _)
end
end L2
set_option maxRecDepth 100000
set_option maxHeartbeats 1000000
namespace PC
def aH(n:Nat):Prop:=2<=n/\∀d,d∣n->d=1\/d=n
def tr(q:Nat):Nat->Nat->Bool
 |0,_=>false
 |f+1,d=>if q<d*d then true else if q%d=0 then false else tr q f (d+1)
theorem Fq{q:Nat}:∀{f d:Nat},tr q f d=true->∀e,d<=e->e*e<=q->q%e≠0
  |0,_,h=>by simp[tr] at h
  | f + 1, d, h => by
    intro e hde hee
    unfold tr at h
    by_cases h1:q<d*d
    · have:=Nat.mul_le_mul hde hde
      omega
    · rw[if_neg h1] at h
      by_cases h2:q%d=0
      · rw[if_pos h2] at h;cases h
      · rw[if_neg h2] at h
        by_cases h3:d=e
        · rw[<-h3];exact h2
        · exact Fq h e (by omega) hee
theorem Dc{q:Nat}(h2:2<=q)(h:∀e,2<=e->e*e<=q->q%e≠0):aH q:=by
 refine⟨h2,fun d hd=>?_⟩
 obtain⟨e,he⟩:=hd
 by_cases d1:d=1
 ·exact .inl d1
 by_cases e1:e=1
 ·right;rw[he,e1,Nat.mul_one]
 exfalso
 have d0:d≠0:=fun z=>by rw[z,Nat.zero_mul] at he;omega
 have e0:e≠0:=fun z=>by rw[z,Nat.mul_zero] at he;omega
 by_cases hle:d<=e
 ·refine h d (by omega) (by rw[he];exact Nat.mul_le_mul_left d hle) ?_
  rw[he];exact Nat.mul_mod_right d e
 ·refine h e (by omega) (by rw[he];exact Nat.mul_le_mul_right e (by omega)) ?_
  rw[he];exact Nat.mul_mod_left d e
theorem bN(f:Nat){q:Nat}(h2:2<=q)(h:tr q f 2=true):aH q:=Dc h2 (Fq h)
def pw(N:Nat):Nat->Nat->Nat->Nat->Nat
 |0,_,_,acc=>acc
 |f+1,e,g,acc=>pw N f (e/2) (g*g%N) (if e%2=1 then acc*g%N else acc)
theorem DC{N:Nat}:∀(f e g acc:Nat),e<2^f->pw N f e g acc%N=acc*g^e%N
  | 0, e, g, acc, h => by
    have:e=0:=by simp at h;exact h
    subst this
    simp[pw]
  | f + 1, e, g, acc, h => by
    have h2:e/2<2^f:=by rw[Nat.pow_succ] at h;omega
    unfold pw
    rw[DC f _ _ _ h2]
    have e2:g^e=(g*g)^(e/2)*g^(e%2):=by
      conv=>lhs;rw[<-Nat.div_add_mod e 2]
      rw[Nat.pow_add,Nat.pow_mul,Nat.pow_two]
    have m1:(g*g%N)^(e/2)%N=(g*g)^(e/2)%N:=(Nat.pow_mod _ _ _).symm
    rw[e2]
    by_cases ho:e%2=1
    · rw[if_pos ho,ho,Nat.pow_one,Nat.mul_mod,m1,Nat.mod_mod,<-Nat.mul_mod]
      congr 1
      rw[Nat.mul_assoc,Nat.mul_comm g]
    · have ho':e%2=0:=by omega
      rw[if_neg ho,ho',Nat.pow_zero,Nat.mul_one,Nat.mul_mod,m1,<-Nat.mul_mod]
theorem Ra{P:Nat->Prop}:∀n,P n->∃m,P m/\∀k,k<m->¬P k:=by
  intro n
  induction n using Nat.strongRecOn with
  | _ n ih =>
    intro h
    by_cases hk:∃k,k<n/\P k
    · obtain⟨k,hk1,hk2⟩:=hk
      exact ih k hk1 hk2
    · exact⟨n,h,fun k hk1 hk2=>hk ⟨k,hk1,hk2⟩⟩
theorem EC:∀(n:Nat) (f:Nat->Nat),(∀i,i<n+1->f i<n)->∃i j,i<j/\j<n+1/\f i=f j
  |0,f,h=>absurd (h 0 (by omega)) (by omega)
  | n + 1, f, h => by
    by_cases he:∃i,i<n+1/\f i=f (n+1)
    · obtain⟨i,h1,h2⟩:=he
      exact⟨i,n+1,h1,by omega,h2⟩
    · have hne:∀i,i<n+1->f i≠f (n+1):=fun i hi e=>he ⟨i,hi,e⟩
      have aah:=h (n+1) (by omega)
      obtain⟨i,j,h1,h2,h3⟩:=EC n (fun i=>if f i=n then f (n+1) else f i) (fun i hi=>by
        have g1:=h i (by omega)
        have g2:=hne i hi
        by_cases c:f i=n
        · simp only[c,if_true]
          have:f (n+1)≠n:=fun z=>g2 (c.trans z.symm)
          omega
        · simp only[c,if_false]
          omega)
      refine⟨i,j,h1,by omega,?_⟩
      have gi:=hne i (by omega)
      have gj:=hne j (by omega)
      by_cases ci:f i=n
      · by_cases cj:f j=n
        · rw[ci,cj]
        · simp only[ci,cj,if_true,if_false] at h3
          exact absurd h3.symm gj
      · by_cases cj:f j=n
        · simp only[ci,cj,if_true,if_false] at h3
          exact absurd h3 gi
        · simpa only[ci,cj,if_false] using h3
def iO:List (Nat×Nat)->Nat
 |[]=>1
 |qe::r=>Nat.lcm (qe.1^qe.2) (iO r)
theorem IF{o:Nat}:∀{fs:List (Nat×Nat)},(∀qe∈fs,qe.1^qe.2∣o)->iO fs∣o
 |[],_=>⟨o,by simp[iO]⟩
 |qe::r,h=>Nat.lcm_dvd (h qe List.mem_cons_self) (IF fun x hx=>h x (List.mem_cons_of_mem _ hx))
theorem WR{q m:Nat}(hq:aH q)(h:¬q∣m):Nat.Coprime q m:=by
 rcases hq.2 _ (Nat.gcd_dvd_left q m) with e|e
 ·exact e
 ·exact absurd (e▸Nat.gcd_dvd_right q m) h
theorem RZ{q m:Nat}(h:Nat.Coprime q m)(e:Nat):Nat.Coprime (q^e) m:=Nat.Coprime.pow_left e h
theorem Y3(a b c d:Nat):(a%d)*(b%d)%d*(c%d)%d=a*b*c%d:=by
 rw[<-Nat.mul_mod a b,<-Nat.mul_mod (a*b) c]
theorem Eg{N g d:Nat}{fs:List (Nat×Nat)}(hN:2<=N)(hd:d∣N)(d1:1<d)(h1:g^(N-1)%N=1%N)
  (hq:∀qe∈fs,aH qe.1/\qe.1^qe.2∣N-1/\Nat.gcd (g^((N-1)/qe.1)%N+(N-1)) N=1):iO fs<d:=by
 have down:∀{a b:Nat},a%N=b%N->a%d=b%d:=fun{a b} e=>by
  rw[<-Nat.mod_mod_of_dvd a hd,e,Nat.mod_mod_of_dvd b hd]
 have one:1%d=1:=Nat.mod_eq_of_lt d1
 have f1:g^(N-1)%d=1:=by rw[down h1,one]
 obtain⟨o,⟨o0,o1⟩,EW⟩:=Ra (P:=fun k=>0<k/\g^k%d=1) (N-1) ⟨by omega,f1⟩
 have per:∀q r:Nat,g^(o*q+r)%d=g^r%d:=fun q r=>by
  rw[Nat.pow_add,Nat.pow_mul,Nat.mul_mod,Nat.pow_mod,o1,Nat.one_pow,one,Nat.one_mul,Nat.mod_mod]
 have Wi:∀k,g^k%d=1->o∣k:=fun k hk=>by
  have e:=Nat.div_add_mod k o
  rw[<-e,per] at hk
  by_cases h0:k%o=0
  ·exact Nat.dvd_of_mod_eq_zero h0
  ·exact absurd ⟨by omega,hk⟩ (EW (k%o) (Nat.mod_lt _ o0))
 have od:=Wi _ f1
 have parts:iO fs∣o:=IF fun qe sU=>by
  obtain⟨pq,⟨c,hc⟩,gq⟩:=hq qe sU
  obtain⟨m,hm⟩:=od
  by_cases q9:qe.1∣m
  ·exfalso
   obtain⟨m',hm'⟩:=q9
   have q0:0<qe.1:=by have:=pq.1;omega
   have ek:(N-1)/qe.1=o*m':=by
    rw[hm,hm',show o*(qe.1*m')=qe.1*(o*m') by rw[<-Nat.mul_assoc,Nat.mul_comm o,Nat.mul_assoc],Nat.mul_div_cancel_left _ q0]
   have e1:g^((N-1)/qe.1)%d=1:=by
    have:=per m' 0
    rw[Nat.add_zero,Nat.pow_zero,one] at this
    rw[ek];exact this
   have e2:d∣g^((N-1)/qe.1)%N+(N-1):=by
    have e3:(g^((N-1)/qe.1)%N)%d=1:=by rw[Nat.mod_mod_of_dvd _ hd];exact e1
    obtain⟨k,hk⟩:=hd
    have e4:=Nat.div_add_mod (g^((N-1)/qe.1)%N) d
    rw[e3] at e4
    refine⟨(g^((N-1)/qe.1)%N)/d+k,?_⟩
    rw[Nat.mul_add,<-hk]
    omega
   have e5:=Nat.dvd_gcd e2 hd
   rw[gq] at e5
   have:=Nat.le_of_dvd (by omega) e5
   omega
  ·have cp:=RZ (WR pq q9) qe.2
   have ZM:qe.1^qe.2∣o*m:=⟨c,by rw[<-hm];exact hc⟩
   exact cp.dvd_of_dvd_mul_right ZM
 have Xm:o<d:=by
  refine Nat.lt_of_not_le fun hle=>?_
  have unit:∀i,i<=N-1->(g^i%d)*(g^(N-1-i)%d)%d=1:=fun i hi=>by
   rw[<-Nat.mul_mod,<-Nat.pow_add,show i+(N-1-i)=N-1 by omega];exact f1
  have ole:o<=N-1:=Nat.le_of_dvd (by omega) od
  have pos:∀i,i<o->0<g^i%d:=fun i hi=>by
   refine Nat.pos_of_ne_zero fun z=>?_
   have:=unit i (by omega)
   rw[z,Nat.zero_mul,Nat.zero_mod] at this
   cases this
  obtain⟨i,j,h1,h2,h3⟩:=EC (d-1) (fun i=>g^i%d-1) (fun i hi=>by
   have a1:=pos i (by omega)
   have a2:=Nat.mod_lt (g^i) (show d>0 by omega)
   omega)
  have pi:=pos i (by omega)
  have pj:=pos j (by omega)
  have e:g^i%d=g^j%d:=by omega
  have ej:g^j=g^i*g^(j-i):=by rw[<-Nat.pow_add,show i+(j-i)=j by omega]
  have u:=unit i (by omega)
  have k1:g^(j-i)%d=1:=by
   have w:(g^i%d)*(g^(N-1-i)%d)%d*(g^(j-i)%d)%d=(g^j%d)*(g^(N-1-i)%d)%d:=by
    rw[Y3,<-Nat.mul_mod (g^j),ej]
    congr 1
    rw[Nat.mul_assoc,Nat.mul_assoc,Nat.mul_comm (g^(N-1-i))]
   rw[u,Nat.one_mul,Nat.mod_mod,<-e,u] at w
   exact w
  exact EW (j-i) (by omega) ⟨by omega,k1⟩
 exact Nat.lt_of_le_of_lt (Nat.le_of_dvd o0 parts) Xm
theorem MT{N g:Nat}(fs:List (Nat×Nat))(hN:2<=N)(h1:g^(N-1)%N=1%N)
  (hq:∀qe∈fs,aH qe.1/\qe.1^qe.2∣N-1/\Nat.gcd (g^((N-1)/qe.1)%N+(N-1)) N=1) (hF:N<(iO fs+1)*(iO fs+1)):aH N:=by
 refine⟨hN,fun d hd=>?_⟩
 obtain⟨e,he⟩:=id hd
 by_cases d1:d=1
 ·exact .inl d1
 by_cases e1:e=1
 ·right;rw[he,e1,Nat.mul_one]
 exfalso
 have d0:d≠0:=fun z=>by rw[z,Nat.zero_mul] at he;omega
 have e0:e≠0:=fun z=>by rw[z,Nat.mul_zero] at he;omega
 have b1:=Eg hN hd (by omega) h1 hq
 have b2:=Eg hN ⟨d,by rw[he,Nat.mul_comm]⟩ (show 1<e by omega) h1 hq
 have:=Nat.mul_le_mul (show iO fs+1<=d from b1) (show iO fs+1<=e from b2)
 omega
def D8(N g:Nat)(fs:List (Nat×Nat)):Bool:=
 decide (2<=N) && decide (N<2^140) &&(pw N 140 (N-1) g 1%N==1) && fs.all (fun qe=>((N-1)%qe.1^qe.2==0) &&(Nat.gcd (pw N 140 ((N-1)/qe.1) g 1%N+(N-1)) N==1)) && decide (N<(iO fs+1)*(iO fs+1))
theorem cE{N:Nat}(g:Nat)(fs:List (Nat×Nat))(hp:∀qe∈fs,aH qe.1)(h:D8 N g fs=true):aH N:=by
 unfold D8 at h
 simp only[Bool.and_eq_true,decide_eq_true_eq,beq_iff_eq,List.all_eq_true] at h
 obtain⟨⟨⟨⟨h1,h2⟩,h3⟩,h4⟩,h5⟩:=h
 have P:∀e,e<=N-1->pw N 140 e g 1%N=g^e%N:=fun e he=>by
  rw[DC 140 e g 1 (by omega),Nat.one_mul]
 refine MT (g:=g) fs h1 (by rw[<-P _ (Nat.le_refl _),h3,Nat.mod_eq_of_lt (by omega)]) (fun qe sU=>?_) h5
 obtain⟨g1,g2⟩:=h4 qe sU
 refine⟨hp qe sU,Nat.dvd_of_mod_eq_zero g1,?_⟩
 rw[<-P _ (Nat.div_le_self _ _)]
 exact g2
end PC
set_option maxRecDepth 100000
set_option maxHeartbeats 1000000
namespace PC
theorem zb:aH 2:=bN 4 (by decide) (by decide+kernel)
theorem SE:aH 3:=bN 4 (by decide) (by decide+kernel)
theorem OB:aH 5:=bN 5 (by decide) (by decide+kernel)
theorem zv:aH 7:=bN 5 (by decide) (by decide+kernel)
theorem Jv:aH 11:=bN 6 (by decide) (by decide+kernel)
theorem MU:aH 101:=bN 13 (by decide) (by decide+kernel)
theorem Ql:aH 10007:=bN 103 (by decide) (by decide+kernel)
theorem Mf:aH 65537:=bN 259 (by decide) (by decide+kernel)
theorem M1:aH 1000003:=bN 1003 (by decide) (by decide+kernel)
theorem W8:aH 17:=bN 7 (by decide) (by decide+kernel)
theorem Uo:aH 998244353:=cE 3 [(17,1),(7,1),(2,23)] (fun qe h=>by
 simp only[List.mem_cons,List.not_mem_nil,or_false] at h
 rcases h with rfl|rfl|rfl
 ·exact W8
 ·exact zv
 ·exact zb) (by decide+kernel)
theorem Sd:aH 148721:=bN 388 (by decide) (by decide+kernel)
theorem WK:aH 500000003:=cE 2 [(148721,1)] (fun qe h=>by
 simp only[List.mem_cons,List.not_mem_nil,or_false] at h
 subst h;exact Sd) (by decide+kernel)
theorem W9:aH 1000000007:=cE 2 [(500000003,1)] (fun qe h=>by
 simp only[List.mem_cons,List.not_mem_nil,or_false] at h
 subst h;exact WK) (by decide+kernel)
theorem Ew:aH 331:=bN 21 (by decide) (by decide+kernel)
theorem Ce:aH 151:=bN 15 (by decide) (by decide+kernel)
theorem YA:aH 2147483647:=cE 3 [(331,1),(151,1)] (fun qe h=>by
 simp only[List.mem_cons,List.not_mem_nil,or_false] at h
 rcases h with rfl|rfl
 ·exact Ew
 ·exact Ce) (by decide+kernel)
theorem J9:aH 250049:=bN 503 (by decide) (by decide+kernel)
theorem Qw:aH 26005097:=cE 2 [(250049,1)] (fun qe h=>by
 simp only[List.mem_cons,List.not_mem_nil,or_false] at h
 subst h;exact J9) (by decide+kernel)
theorem UA:aH 1000000000039:=cE 2 [(26005097,1)] (fun qe h=>by
 simp only[List.mem_cons,List.not_mem_nil,or_false] at h
 subst h;exact Qw) (by decide+kernel)
theorem Pc:aH 234931:=bN 487 (by decide) (by decide+kernel)
theorem PY:aH 8740842787:=cE 2 [(234931,1)] (fun qe h=>by
 simp only[List.mem_cons,List.not_mem_nil,or_false] at h
 subst h;exact Pc) (by decide+kernel)
theorem M0:aH 52445056723:=cE 2 [(8740842787,1)] (fun qe h=>by
 simp only[List.mem_cons,List.not_mem_nil,or_false] at h
 subst h;exact PY) (by decide+kernel)
theorem P5:aH 1000000000000000003:=cE 2 [(52445056723,1)] (fun qe h=>by
 simp only[List.mem_cons,List.not_mem_nil,or_false] at h
 subst h;exact M0) (by decide+kernel)
theorem Su:aH 15331:=bN 126 (by decide) (by decide+kernel)
theorem MA:aH 2131:=bN 49 (by decide) (by decide+kernel)
theorem P7:aH 5594472617641:=cE 2 [(15331,1),(2131,1)] (fun qe h=>by
 simp only[List.mem_cons,List.not_mem_nil,or_false] at h
 rcases h with rfl|rfl
 ·exact Su
 ·exact MA) (by decide+kernel)
theorem Lm:aH 18446744073709551557:=cE 2 [(5594472617641,1)] (fun qe h=>by
 simp only[List.mem_cons,List.not_mem_nil,or_false] at h
 subst h;exact P7) (by decide+kernel)
theorem WN:aH 1321:=bN 39 (by decide) (by decide+kernel)
theorem YK:aH 61:=bN 10 (by decide) (by decide+kernel)
theorem OQ:aH 2305843009213693951:=cE 3 [(1321,1),(331,1),(151,1),(61,1)] (fun qe h=>by
 simp only[List.mem_cons,List.not_mem_nil,or_false] at h
 rcases h with rfl|rfl|rfl|rfl
 ·exact WN
 ·exact Ew
 ·exact Ce
 ·exact YK) (by decide+kernel)
theorem SX:aH 8707:=bN 96 (by decide) (by decide+kernel)
theorem ZC:aH 1913:=bN 46 (by decide) (by decide+kernel)
theorem VI:aH 2931542417:=cE 3 [(8707,1),(1913,1)] (fun qe h=>by
 simp only[List.mem_cons,List.not_mem_nil,or_false] at h
 rcases h with rfl|rfl
 ·exact SX
 ·exact ZC) (by decide+kernel)
theorem NF:aH 2113:=bN 48 (by decide) (by decide+kernel)
theorem KZ:aH 683:=bN 29 (by decide) (by decide+kernel)
theorem To:aH 618970019642690137449562111:=cE 3 [(2931542417,1),(2113,1),(683,1)] (fun qe h=>by
 simp only[List.mem_cons,List.not_mem_nil,or_false] at h
 rcases h with rfl|rfl|rfl
 ·exact VI
 ·exact NF
 ·exact KZ) (by decide+kernel)
theorem Ph:aH 1097:=bN 36 (by decide) (by decide+kernel)
theorem Z8:aH 131:=bN 14 (by decide) (by decide+kernel)
theorem KA:aH 67254877:=cE 2 [(1097,1),(131,1)] (fun qe h=>by
 simp only[List.mem_cons,List.not_mem_nil,or_false] at h
 rcases h with rfl|rfl
 ·exact Ph
 ·exact Z8) (by decide+kernel)
theorem QU:aH 28059810762433:=cE 3 [(67254877,1)] (fun qe h=>by
 simp only[List.mem_cons,List.not_mem_nil,or_false] at h
 subst h;exact KA) (by decide+kernel)
theorem Ka:aH 53:=bN 10 (by decide) (by decide+kernel)
theorem Lc:aH 37:=bN 9 (by decide) (by decide+kernel)
theorem Rl:aH 13:=bN 6 (by decide) (by decide+kernel)
theorem Xn:aH 20394401:=cE 3 [(53,1),(37,1),(13,1)] (fun qe h=>by
 simp only[List.mem_cons,List.not_mem_nil,or_false] at h
 rcases h with rfl|rfl|rfl
 ·exact Ka
 ·exact Lc
 ·exact Rl) (by decide+kernel)
theorem Rq:aH 162259276829213363391578010288127:=cE 3 [(28059810762433,1),(20394401,1)] (fun qe h=>by
 simp only[List.mem_cons,List.not_mem_nil,or_false] at h
 rcases h with rfl|rfl
 ·exact QU
 ·exact Xn) (by decide+kernel)
theorem WO:aH 699053:=bN 839 (by decide) (by decide+kernel)
theorem aaa:aH 77158673929:=cE 3 [(699053,1)] (fun qe h=>by
 simp only[List.mem_cons,List.not_mem_nil,or_false] at h
 subst h;exact WO) (by decide+kernel)
theorem Wq:aH 649657:=bN 809 (by decide) (by decide+kernel)
theorem L4:aH 92737:=bN 307 (by decide) (by decide+kernel)
theorem Sj:aH 170141183460469231731687303715884105727:=cE 3 [(77158673929,1),(649657,1),(92737,1)] (fun qe h=>by
 simp only[List.mem_cons,List.not_mem_nil,or_false] at h
 rcases h with rfl|rfl|rfl
 ·exact aaa
 ·exact Wq
 ·exact L4) (by decide+kernel)
theorem Oq:aH 7963:=bN 92 (by decide) (by decide+kernel)
theorem Vr:aH 3011:=bN 57 (by decide) (by decide+kernel)
theorem Ms:aH 575438233:=cE 2 [(7963,1),(3011,1)] (fun qe h=>by
 simp only[List.mem_cons,List.not_mem_nil,or_false] at h
 rcases h with rfl|rfl
 ·exact Oq
 ·exact Vr) (by decide+kernel)
theorem O6:aH 52316542391429:=cE 2 [(575438233,1)] (fun qe h=>by
 simp only[List.mem_cons,List.not_mem_nil,or_false] at h
 subst h;exact Ms) (by decide+kernel)
theorem Vl:aH 104633084782859:=cE 2 [(52316542391429,1)] (fun qe h=>by
 simp only[List.mem_cons,List.not_mem_nil,or_false] at h
 subst h;exact O6) (by decide+kernel)
theorem JF:aH 179:=bN 16 (by decide) (by decide+kernel)
theorem JY:aH 31:=bN 8 (by decide) (by decide+kernel)
theorem RB:aH 7935071:=cE 2 [(179,1),(31,1)] (fun qe h=>by
 simp only[List.mem_cons,List.not_mem_nil,or_false] at h
 rcases h with rfl|rfl
 ·exact JF
 ·exact JY) (by decide+kernel)
theorem SJ:aH 15870143:=cE 2 [(7935071,1)] (fun qe h=>by
 simp only[List.mem_cons,List.not_mem_nil,or_false] at h
 subst h;exact RB) (by decide+kernel)
theorem P4:aH 401321030361983486780957614729:=cE 2 [(104633084782859,1),(15870143,1)] (fun qe h=>by
 simp only[List.mem_cons,List.not_mem_nil,or_false] at h
 rcases h with rfl|rfl
 ·exact Vl
 ·exact SJ) (by decide+kernel)
theorem LS:aH 1000000000000000000000000000000000000003:=cE 2 [(401321030361983486780957614729,1)] (fun qe h=>by
 simp only[List.mem_cons,List.not_mem_nil,or_false] at h
 subst h;exact P4) (by decide+kernel)
theorem JO:aH 25733:=bN 163 (by decide) (by decide+kernel)
theorem PK:aH 1151:=bN 36 (by decide) (by decide+kernel)
theorem Xy:aH 4916701379:=cE 2 [(25733,1),(1151,1)] (fun qe h=>by
 simp only[List.mem_cons,List.not_mem_nil,or_false] at h
 rcases h with rfl|rfl
 ·exact JO
 ·exact PK) (by decide+kernel)
theorem Z1:aH 83:=bN 12 (by decide) (by decide+kernel)
theorem Jp:aH 23:=bN 7 (by decide) (by decide+kernel)
theorem OZ:aH 1676254721:=cE 5 [(83,1),(23,1),(7,3)] (fun qe h=>by
 simp only[List.mem_cons,List.not_mem_nil,or_false] at h
 rcases h with rfl|rfl|rfl
 ·exact Z1
 ·exact Jp
 ·exact zv) (by decide+kernel)
theorem JP:aH 149927568276670622397029177:=cE 2 [(4916701379,1),(1676254721,1)] (fun qe h=>by
 simp only[List.mem_cons,List.not_mem_nil,or_false] at h
 rcases h with rfl|rfl
 ·exact Xy
 ·exact OZ) (by decide+kernel)
theorem YD:aH 9999999999999999999999999999999999999983:=cE 2 [(149927568276670622397029177,1)] (fun qe h=>by
 simp only[List.mem_cons,List.not_mem_nil,or_false] at h
 subst h;exact JP) (by decide+kernel)
end PC
namespace L2
open PC
def d7(p:Int):Prop:=2<=p/\∀d:Int,0<d->d∣p->d=1\/d=p
theorem dN{n:Nat}(h:aH n):d7 (n:Int):=by
 refine⟨by have:=h.1;omega,fun d d0 hd=>?_⟩
 obtain⟨k,rfl⟩:=Int.eq_ofNat_of_zero_le (Int.le_of_lt d0)
 rcases h.2 k (Int.natCast_dvd_natCast.mp hd) with e|e
 ·left;rw[e];rfl
 ·right;rw[e]
theorem R9{p:Int}(h2:2<=p)(h:tu p):d7 p:=by
 obtain⟨n,rfl⟩:=Int.eq_ofNat_of_zero_le (show 0<=p by omega)
 refine dN (Dc (by omega) fun e e1 e2 e3=>?_)
 refine h (e:Int) (by omega) (by rw[<-Int.natCast_mul];exact Int.ofNat_le.mpr e2) ?_
 have:=congrArg (Nat.cast:Nat->Int) e3
 simpa using this
theorem RM:∀p∈qZ,d7 p:=by
 intro p hp
 simp only[qZ,List.mem_cons,List.not_mem_nil,or_false] at hp
 rcases hp with rfl|rfl|rfl|rfl|rfl|rfl|rfl|rfl|rfl|rfl|rfl|rfl|rfl|rfl|rfl|rfl|rfl|rfl|rfl|rfl|rfl|rfl
 ·exact dN zb
 ·exact dN SE
 ·exact dN OB
 ·exact dN zv
 ·exact dN zb
 ·exact dN Jv
 ·exact dN MU
 ·exact dN Ql
 ·exact dN Mf
 ·exact dN M1
 ·exact dN Uo
 ·exact dN W9
 ·exact dN YA
 ·exact dN UA
 ·exact dN P5
 ·exact dN Lm
 ·exact dN OQ
 ·exact dN To
 ·exact dN Rq
 ·exact dN Sj
 ·exact dN LS
 ·exact dN YD
def Cm:Sp:=fun vs H Q _=>∃p b:Int,vs=[.int p, .int b]/\d7 p/\p<10^40/\b%p≠0/\∀u:Int,0<=u->u<p->(∃k,u*b=1+p*k)->Q (.int u) H
def Bb:Sp:=fun vs H Q _=>∃p a b:Int,vs=[.int p, .int a, .int b]/\d7 p/\p<10^40/\b%p≠0/\ -(10^61)<=a/\a<=10^61/\∀x:Int,0<=x->x<p->(∃k,b*x-a=p*k)->Q (.int x) H
end L2
set_option maxRecDepth 100000
set_option maxHeartbeats 4000000
namespace L2
open PySem PySem.Spec PyProof.Rows
theorem af.three{nb:Addr->Prop}{H:Hp}{a b c:PyData}{vs:List V}(h:af nb H [a,b,c] vs):∃x y z,vs=[x,y,z]/\ah nb H a x/\ah nb H b y/\ah nb H c z:=by
 unfold af at h
 obtain⟨x,ys,rfl,h1,h⟩:=h
 unfold af at h
 obtain⟨y,zs,rfl,h2,h⟩:=h
 unfold af at h
 obtain⟨z,ws,rfl,h3,h⟩:=h
 unfold af at h
 subst h
 exact⟨x,y,z,rfl,h1,h2,h3⟩
theorem Ev.over{G:Gx}{ρ:Rh}{t:TA}{Φ:Pd}(h:Av G ρ t fun es=>∃p a b:Int,es.map (·.2)=[.int p, .int a, .int b]/\d7 p/\p<10^40/\b%p≠0/\ -(10^61)<=a/\a<=10^61/\∀x:Int,0<=x->x<p->(∃k,b*x-a=p*k)->Φ true (.int x)):
  Ev G ρ (eS Bb [] E0 t) Φ:=fun nb σ H Q W z=>
 h nb σ H _ W fun es vs H1 ⟨p,a,b,e,h1,h2,h3,h4,h5,q⟩ s1 q1=>by
  have hd:=q1.all (f:=false) (fun z=>by cases z)
  rw[e] at hd
  obtain⟨x,y,w,rfl,d1,d2,d3⟩:=hd.three
  rw[d1.bD,d2.bD,d3.bD]
  exact⟨p,a,b,rfl,h1,h2,h3,h4,h5,fun x x1 x2 x3=>z true _ H1 _ (q x x1 x2 x3) s1 (.int x)⟩
theorem Qd{p a b:Int}(hp:d7 p)(h:p∣a*b)(ha:¬p∣a):p∣b:=by
 have p2:=hp.1
 have g1:((Int.gcd a p:Nat):Int)∣p:=Int.gcd_dvd_right ..
 have g2:((Int.gcd a p:Nat):Int)∣a:=Int.gcd_dvd_left ..
 have g0:0<((Int.gcd a p:Nat):Int):=by
  have:Int.gcd a p≠0:=fun z=>by have:=(Int.gcd_eq_zero_iff.mp z).2;omega
  omega
 rcases hp.2 _ g0 g1 with e|e
 ·have c:Nat.Coprime p.natAbs a.natAbs:=by
   show Nat.gcd p.natAbs a.natAbs=1
   have:Int.gcd a p=1:=by omega
   rw[Nat.gcd_comm];exact this
  have h':p.natAbs∣b.natAbs*a.natAbs:=by rw[Nat.mul_comm,<-Int.natAbs_mul];exact Int.natAbs_dvd_natAbs.mpr h
  exact Int.natAbs_dvd_natAbs.mp (c.dvd_of_dvd_mul_right h')
 ·rw[e] at g2;exact absurd g2 ha
theorem QS{p a b:Int}(ha:0<=a)(ha':a<p)(hb:0<=b)(hb':b<p)(h:p∣a-b):a=b:=by
 obtain⟨k,e⟩:=h
 rcases Int.lt_trichotomy k 0 with z|z|z
 ·have:p*k<=p*(-1):=Int.mul_le_mul_of_nonneg_left (by omega) (by omega)
  omega
 ·subst z;omega
 ·have:p*1<=p*k:=Int.mul_le_mul_of_nonneg_left (by omega) (by omega)
  omega
end L2
set_option maxRecDepth 100000
set_option maxHeartbeats 4000000
namespace L2
open PySem PySem.Spec PyProof.Rows
section
variable{X:Cx}{pins:List (Addr×Obj)}{σ:List (Option V)}{H:Hp}{s:Shared}{h':Heap}
theorem Inv.Nd{t':Nat}{e it T:Addr}{o:HO}(I:Inv X pins σ H s)(k:∀b u,b≠e->b≠it->s.heap.get? b=some u->h'.get? b=some u)(fe:gu X pins H e)(fi:gu X pins H it)(hT:s.heap.objs.size<=T)(AQ:T≠e)(zN:T≠it)
  (le:∃u,s.heap.get? e=some u) (li:∃u,s.heap.get? it=some u) (new:bK X.prog X.w (upd H T o) h' T o):Inv X pins σ (upd H T o) {s with heap:=h',toks:=t'}:=by
 have hn:=I.hok.fresh hT
 obtain⟨e0,e1,e2,e3,e4,e5⟩:=fe
 obtain⟨i0,i1,i2,i3,i4,i5⟩:=fi
 have ne:∀b u,H b=some u->b≠e:=fun b u q z=>by rw[z,e0] at q;cases q
 have ni:∀b u,H b=some u->b≠it:=fun b u q z=>by rw[z,i0] at q;cases q
 have nT:∀b u,H b=some u->b≠T:=fun b u q z=>by rw[z,hn] at q;cases q
 refine I.step (g':=s.gens) (d':=s.drawn) (ch:=[e,it]) (fun b hb=>?_) (fun b o _ _ hc q _=>k b o (fun z=>hc (by simp[z])) (fun z=>hc (by simp[z])) q) (fun b o _ _ hc q _=>⟨o.slots,k b o (fun z=>hc (by simp[z])) (fun z=>hc (by simp[z])) q⟩)
  (fun b o hc q n=>?_) (fun b o hc q=>⟨o,k b o (fun z=>hc (by simp[z])) (fun z=>hc (by simp[z])) q⟩) (fun b xs q=>by rw[aN (nT b _ q)];exact q) (fun b o u q=>by rw[aN (nT b _ q)];exact q) (fun b ps q=>⟨#[],by rw[aN (nT b _ q),q];simp⟩) (fun m hm=>?_) (fun b u q=>?_) I.bare
 ·rcases(show b=e\/b=it by simpa using hb) with z|z
  ·subst z;exact⟨e3,e1,e4,e5⟩
  ·subst z;exact⟨i3,i1,i4,i5⟩
 ·rw[aN (fun z=>absurd (Nat.lt_of_lt_of_le (Heap.lt_size q) (by rw[z];exact hT)) (Nat.lt_irrefl _))];exact n
 ·obtain⟨o,es,ep,ho,r⟩:=hm
  exact⟨o,es,ep,k _ o (Ne.symm e1) (Ne.symm i1) ho,r⟩
 ·by_cases hb:b=T
  ·subst hb;rw[aU] at q;cases q;exact new
  ·rw[aN hb] at q
   refine(I.hok b u q).stay (fun c v hc z=>?_) (fun c z=>by rw[aN (nT c _ z)];exact z) fun c xs z=>by rw[aN (nT c _ z)];exact z
   rcases hc with y|y
   ·subst y;exact k _ v (ne _ u q) (ni _ u q) z
   ·exact k c v (ne c _ y) (ni c _ y) z
theorem Inv.UP{t':Nat}{e it:Addr}(I:Inv X pins σ H s)(k:∀b u,b≠e->b≠it->s.heap.get? b=some u->h'.get? b=some u)(fe:gu X pins H e)(fi:gu X pins H it):Inv X pins σ H {s with heap:=h',toks:=t'}:=by
 obtain⟨e0,e1,e2,e3,e4,e5⟩:=fe
 obtain⟨i0,i1,i2,i3,i4,i5⟩:=fi
 have ne:∀b u,H b=some u->b≠e:=fun b u q z=>by rw[z,e0] at q;cases q
 have ni:∀b u,H b=some u->b≠it:=fun b u q z=>by rw[z,i0] at q;cases q
 refine I.step (g':=s.gens) (d':=s.drawn) (ch:=[e,it]) (fun b hb=>?_) (fun b o _ _ hc q _=>k b o (fun z=>hc (by simp[z])) (fun z=>hc (by simp[z])) q) (fun b o _ _ hc q _=>⟨o.slots,k b o (fun z=>hc (by simp[z])) (fun z=>hc (by simp[z])) q⟩)
  (fun _ _ _ _ n=>n) (fun b o hc q=>⟨o,k b o (fun z=>hc (by simp[z])) (fun z=>hc (by simp[z])) q⟩) (fun _ _ q=>q) (fun _ _ _ q=>q) (fun b ps q=>⟨#[],by rw[q];simp⟩) (fun m hm=>?_) (fun b u q=>?_) I.bare
 ·rcases(show b=e\/b=it by simpa using hb) with z|z
  ·subst z;exact⟨e3,e1,e4,e5⟩
  ·subst z;exact⟨i3,i1,i4,i5⟩
 ·obtain⟨o,es,ep,ho,r⟩:=hm
  exact⟨o,es,ep,k _ o (Ne.symm e1) (Ne.symm i1) ho,r⟩
 ·refine(I.hok b u q).stay (fun c v hc z=>?_) (fun c z=>z) fun c xs z=>z
  rcases hc with y|y
  ·subst y;exact k _ v (ne _ u q) (ni _ u q) z
  ·exact k c v (ne c _ y) (ni c _ y) z
end
def kW(K:PySem.W.Frag)(a:Addr):It:=
 ⟨fun i H=>∃xs x,aQ K H a xs/\xs[i]?=some x,fun i H x H'=>∃p y,x= .ref p/\H p=none/\(∀xs,aQ K H a xs->xs[i]?=some y)/\H'=upd H p (.tup [.int i,y]),fun i H=>∃xs,aQ K H a xs/\xs.length=i⟩
theorem JD{P:Program}{w:World}{K:PySem.W.Frag}{elts:List Expr}{k:Nat}{pos:Pos}(a e it:Addr)(hei:e≠it):
  Turn P w K (.Tuple elts k pos) (kW K a) [e,it] e (fun i h=>(∃old,IsEnum h e it i old)/\h.IsListIter it a i) where
 mem:=by simp
 obj:=fun i h st b hb=>by
  obtain⟨⟨old,s1⟩,⟨o,e1,c,d⟩⟩:=st
  rcases(show b=e\/b=it by simpa using hb) with z|z
  ·subst z
   exact⟨_,s1,fun v z=>by
    have z':Data.fields _=Data.cell v:=z
    cases z'⟩
  ·subst z
   exact⟨o,e1,fun v z=>by rw[d] at z;cases z⟩
 keep:=fun i h h' st k=>⟨let ⟨old,s1⟩:=st.1;⟨old,k e (by simp) _ s1⟩,st.2.at fun o q=>k it (by simp) o q⟩
 item:=by
  intro X hP hw hK hc i pins s σ H E I hf st hg
  subst hP hw hK
  obtain⟨xs,x,hq,hx⟩:=hg
  obtain⟨its,rv,p,hz⟩:=I.list hq
  obtain⟨u,hu,ru⟩:=rv.get hx
  have fe:=hf e (by simp)
  have fi:=hf it (by simp)
  obtain⟨⟨old,s1⟩,s2⟩:=st
  obtain⟨ol,l1,l2,l3⟩:=id p.isList
  obtain⟨oi,i1,i2,i3⟩:=id s2
  have Ao:a≠e:=fun z=>by
   subst z
   rw[s1] at l1;cases l1
   exact absurd l2 (by simp)
  have hai:a≠it:=fun z=>by
   subst z
   rw[i1] at l1;cases l1
   rw[i2] at l2
   exact absurd l2 (by simp)
  have W:=WalksT.enumerate (prog:=X.prog) (w:=X.w) (I.ok.hd hc) e it a hei Ao hai its.toArray
  have hi:i<its.toArray.size:=by
   have:=(List.getElem?_eq_some_iff.mp hu).1
   simpa using this
  refine W.item i s _ _ hi ⟨⟨old,s1⟩,s2,p.isList⟩ fun T vals h' tk hv hT WW xj kp=>⟨.ref T,rfl,?_⟩
  refine W.go elts k pos i T _ _ _ xj fun h'' st' Ct=>?_
  obtain⟨t,x',hx',Tw⟩:=hv
  have XI:x'=u:=by
   have:its.toArray[i]?=some u:=by simpa using hu
   rw[hx'] at this;exact Option.some.inj this
  subst XI Tw
  have Wg:=W.apart i T h' xj
  obtain⟨_,_,_,AQ,zN⟩:=xj
  obtain⟨oT,t1,t2,nT,t3⟩:=WW
  have t1':=Ct T oT Wg t1
  refine⟨.ref T,upd H T (.tup [.int i,x]),I.Nd (fun b v h1 h2 q=>Ct b v (by simp[h1,h2]) (kp b v (by simp[h1,h2]) q)) fe fi hT AQ zN ⟨_,s1⟩ ⟨_,i1⟩ ?_,rfl,⟨T,x,rfl,I.hok.fresh hT,fun ys hy=>by rw[I.Ho hy hq];exact hx,rfl⟩,⟨st'.1,st'.2.1⟩,fun b hb=>?_⟩
  ·exact⟨by show 2<=sizeLine;decide,[.int i t,x'], .cons ⟨t,rfl⟩ (.cons ru .nil),oT,t1',t2,nT,t3⟩
  ·rw[aN,(hf b hb).1]
   rcases(show b=e\/b=it by simpa using hb) with z|z
   ·rw[z];exact Ne.symm AQ
   ·rw[z];exact Ne.symm zN
 done:=by
  intro X hP hw hK hc i pins s σ H E I hf st hg
  subst hP hw hK
  obtain⟨xs,hq,hx⟩:=hg
  obtain⟨its,rv,p,hz⟩:=I.list hq
  have fe:=hf e (by simp)
  have fi:=hf it (by simp)
  obtain⟨⟨old,s1⟩,s2⟩:=st
  obtain⟨ol,l1,l2,l3⟩:=id p.isList
  obtain⟨oi,i1,i2,i3⟩:=id s2
  have hl:=rv.length
  have Ao:a≠e:=fun z=>by
   subst z
   rw[s1] at l1;cases l1
   exact absurd l2 (by simp)
  have hai:a≠it:=fun z=>by
   subst z
   rw[i1] at l1;cases l1
   rw[i2] at l2
   exact absurd l2 (by simp)
  have W:=WalksT.enumerate (prog:=X.prog) (w:=X.w) (I.ok.hd hc) e it a hei Ao hai its.toArray
  have hn:its.toArray.size=i:=by rw[List.size_toArray];omega
  refine W.done s _ _ (by rw[hn];exact⟨⟨old,s1⟩,s2,p.isList⟩) fun h' tk kp=>⟨rfl,?_⟩
  exact I.UP (fun b v h1 h2 q=>kp b v (by simp[h1,h2]) q) fe fi
 self:=fun _ _ _ _ _ st h=>let ⟨old,s1⟩:=st.1;wpAny_pyIter_enum s1 h
def vo(K:PySem.W.Frag)(tl:TE):TI:=fun σ H R=>tl σ H fun x H1=>∃a,x= .ref a/\(∃xs,aQ K H1 a xs)/\R (kW K a) H1
theorem Eo{X:Cx}{K:PySem.W.Frag}{elts:List Expr}{k:Nat}{tpos:Pos}{l:Expr}{tl:TE}{p pos:Pos}(hK:X.K=K)(hg:Gl X "enumerate")(hm:X.mg "enumerate"=none)(hl:PE X l tl)(hs:starEach [l] X.env=[(false,eval l X.env)]:=by rfl):
    PI X (.Tuple elts k tpos) (.Call (.Name "enumerate" p) [l] [] pos) (vo K tl):=by
  subst hK
  intro pins s σ H R I h
  have ha:PA X [l] (aS tl bh):=aa hl aj (by rw[hs];rfl)
  refine Call_ (nI I hg hm boot_enumerate (PyProof.Rows.callWith_type1 (aI (ha pos pins s σ H (fun vs H1=>match vs with|[x]=>∃a,x= .ref a/\(∃xs,aQ X.K H1 a xs)/\R (kW X.K a) H1|_=>False) I h) fun us s1 ⟨vs,H1,I1,r1,q1⟩=>?_) hs rfl))
  cases r1 with
  |nil=>exact q1.elim
  | cons r rr =>
    cases rr with
    |cons _ _=>exact q1.elim
    |nil=>
    obtain⟨a,e2,⟨xs,hq⟩,q⟩:=q1
    subst e2
    cases r
    obtain⟨its,rv,p,hz⟩:=I1.list hq
    obtain⟨m,hn,_⟩:=I1.loc
    refine enum_rows (h₀:={objs:= #[]}) (L:=X.env.locals) (m:=m) ⟨hn,fun b o z=>?_,Nat.zero_le _⟩ p.isList fun h' e1 e2 e3 e4 kp ne n1 n2 _ _=>?_
    · cases z
    refine wpAny_pyIter_enum e1 ?_
    have I2:Inv X pins σ H1 {s1 with heap:=h'}:=I1.kept (t':=s1.toks) kp
    refine⟨s1.heap.objs.size+1,[s1.heap.objs.size+1,s1.heap.objs.size],_,_,H1,rfl,I2,JD a _ _ ne,⟨⟨_,e1⟩,e2⟩,fun b hb=>?_,q⟩
    rcases(show b=s1.heap.objs.size+1\/b=s1.heap.objs.size by simpa using hb) with z|z
    · subst z;exact I1.oO (Nat.le_succ _) (I1.hok.fresh (Nat.le_succ _))
    · subst z;exact I1.oO (Nat.le_refl _) (I1.hok.fresh (Nat.le_refl _))
end L2
set_option maxRecDepth 100000
set_option maxHeartbeats 4000000
namespace L2
open PySem PySem.Spec PyProof.Rows
theorem R.Ym{K:PySem.W.Frag}{a:Addr}{xs:List V}{g:TG}{tc:TT}{te:TE}{acc:Addr}{Qe:Hp->Prop}{σ:St}{H:Hp}(Pv:Nat->St->Hp->Prop)(h0:Pv 0 σ H)(hl:∀i σ H,i<=xs.length->Pv i σ H->aQ K H a xs)
  (hs:∀i x σ H p,xs[i]?=some x->Pv i σ H->H p=none->g (.ref p) σ (upd H p (.tup [.int i,x])) fun σ2 H2=>tc σ2 H2 fun b H3=>if b=true then te σ2 H3 fun v H4=>∃ys,H4 acc=some (.lst ys)/\ys.length<sizeLine/\Pv (i+1) σ2 (upd H4 acc (.lst (ys++[v]))) else Pv (i+1) σ2 H3)
  (hd:∀σ H,Pv xs.length σ H->Qe H):nU (kW K a) g tc te acc Qe σ H:=by
 refine⟨fun i m σ H=>m=xs.length-i/\i<=xs.length/\Pv i σ H,⟨xs.length,by simp,Nat.zero_le _,h0⟩,?_⟩
 rintro i m σ H ⟨rfl,hi,p⟩
 have q:=hl i σ H hi p
 by_cases hlt:i<xs.length
 ·refine .inr ⟨⟨xs,xs[i],q,by simp[hlt]⟩,Pv (i+1),fun σ' H' p'=>⟨xs.length-(i+1),by omega,rfl,hlt,p'⟩,fun x H' y=>?_⟩
  obtain⟨pp,y,e,hn,hy,e2⟩:=y
  subst e e2
  exact hs i y σ H pp (hy xs q) p hn
 ·have e:i=xs.length:=by omega
  subst e
  exact .inl ⟨⟨xs,q,rfl⟩,hd σ H p⟩
section
variable{G:Gx}{ρ cg:Rh}{te:TE}{s:TS}{gt:TG}{E:DE}{K:PySem.W.Frag}{Θ:Bool->List PyData->Prop}{tc:TT}{mp:List (Option Nat)}
theorem ay.IP{t0:TE}(hm:(mp.filterMap id).Nodup)(dG:jK mp ρ=cg)(h:Ev G ρ t0 fun fi x=>∃es,x= .list es/\es.length<=10000/\∀v,fY (G.hd fi (.list es) v) cg es.length (fun i d=>∃e,es[i]?=some e/\d= .tuple [.int i,e]) fi gt tc te Θ):ay G ρ (jE (vo K t0) gt tc te mp) Θ:=fun nb σ H Q W z=>
 h nb σ H _ W fun fi v H1 x ⟨es,ex,hn,q⟩ s1 hv=>by
  subst ex
  obtain⟨fl,I,h0,ht,he⟩:=q v
  have W0:=(W.step s1).hd hv
  obtain⟨a,xs,rfl,n,hx,hd⟩:=hv.cU
  refine⟨a,rfl,⟨xs, .of hx⟩,fun acc hacc=>?_⟩
  have qc:Wd (G.hd fi (.list es) (.ref a)) nb cg (L2.eH mp σ) H1:=by rw[<-dG];exact W0.eH hm
  have W1:=qc.more hacc (o:= .lst [])
  have hN:=NB.new s1.2 hacc
  have hno:=xA qc hacc
  have ny:Step G.B H1 (upd H1 acc (.lst [])):= .same s1.2 (bW hacc)
  have pN:NB G.B a:=Classical.byContradiction fun z=>n (.inr (.inr (.inl z)))
  refine R.Ym (xs:=xs) (fun i σ H=>∃ds ys,Wd (G.hd fi (.list es) (.ref a)) (fun x=>nb x\/x=acc) cg σ H/\Step G.B H1 H/\H acc=some (.lst ys)/\af (G.S (fun x=>nb x\/x=acc) fl) H ds ys/\ds.length<=i/\I i ds/\H a=some (.lst xs)) ⟨[],[],W1,ny,aU, .nil,Nat.le_refl _,h0,ny.1 _ _ pN hx⟩ ?_ ?_ ?_
  ·rintro i σ H hi ⟨ds,ys,W,st,_,_,_,_,ha⟩
   exact .of ha
  ·rintro i x σ H p hi ⟨ds,ys,W,st,hy,hd',hl,hI,ha⟩ hp
   obtain⟨a',xs',e',_,h',d'⟩:=W.lz.2.cU
   cases e'
   rw[ha] at h';cases h'
   have hil:i<es.length:=by have:=(List.getElem?_eq_some_iff.mp hi).1;have:=d'.length;omega
   obtain⟨x',hx',dx⟩:=d'.get (List.getElem?_eq_getElem hil)
   rw[hi] at hx';cases hx'
   have st2:Step (G.hd fi (.list es) (.ref a)).B H (upd H p (.tup [.int i,x])):= .same W.aA (bW hp)
   have hap:acc≠p:=fun z=>by subst z;rw[hp] at hy;cases hy
   have haa:a≠p:=fun z=>by subst z;rw[hp] at ha;cases ha
   refine AZ (G:=G.hd fi (.list es) (.ref a)) hn hil (W.step st2) (.inr rfl) hN hno (st.trans st2) hacc (by rw[aN hap];exact hy) (hd'.keep st2.cH) hl (.tup (W.fresh hp) aU (.cons (.int _) (.cons (dx.keep st2.cH) .nil))) (ht i _ ds ⟨_,List.getElem?_eq_getElem hil,rfl⟩ hl hI) fun σ' H' ds' xs' W' st' hx' hd' hl' hI'=>⟨ds',xs',W',st',hx',hd',hl',hI',st'.1 _ _ pN hx⟩
  ·rintro σ H' ⟨ds,ys,W',st,hy,hd',hl,hI,_⟩
   rw[hd.length] at hl hI
   exact BH W s1 hacc st hy hd' (he ds hl hI) z
end
end L2
set_option maxRecDepth 100000
set_option maxHeartbeats 4000000
namespace L2
open PySem PySem.Spec PyProof.Rows
section
variable{G:Gx}{ρ:Rh}{Φ:Pd}{te:TE}{t:TA}{i n:Nat}{f:Bool}{ds:List PyData}{Θ:List PyData->Prop}
theorem Ev.tupS(h:Av G ρ t fun es=>es.length<=10000/\Φ (gP es||dP (es.map (·.2))) (.tuple (es.map (·.2)))):Ev G ρ (pY t) Φ:=fun nb σ H Q W z=>
 h nb σ H _ W fun es vs H1 ⟨hl,p⟩ s1 q1=>⟨Nat.le_trans (by rw[q1.len];exact hl) (by decide),fun a ha=>z _ _ _ _ p (s1.trans (.same (W.step s1).aA (bW ha))) (by
  cases hs:dP (es.map (·.2)) with
  |true=>rw[Bool.or_true];exact .tup ((W.step s1).fresh ha) aU ((q1.all (f:=false) fun z=>by cases z).i9 hs)
  |false=>rw[Bool.or_false];exact .tup ((W.step s1).fresh ha) aU ((q1.all fun z=>z).keep (aP.of (bW ha))))⟩
theorem Ev.UH(h:Ev G ρ te fun _ x=>∃n:Int,x= .int n/\2<=n/\n<=10002/\∀r:Int,d7 r->r<10^40->Φ true (.int r)):Ev G ρ (eS zJ [] E0 (aS te bh)) Φ:=fun nb σ H Q W z=>
 h nb σ H _ W fun f v H1 d ⟨n,e,h1,h2,p⟩ s1 hv=>by
  subst e
  exact⟨n,by rw[hv.bD];rfl,h1,h2,fun r H' sm r1 r2 r3=>z true _ H' _ (p r (R9 r1 r3) (by omega)) (s1.trans (.same (W.step s1).aA sm)) (.int r)⟩
theorem Ev.str{x:Str}(h:Φ true (.str x)):Ev G ρ (tC (.str x)) Φ:=fun nb σ H Q W z=>z true _ H _ h (.refl W.aA) (by unfold ah;rfl)
end
theorem Eu.fin{p b L lt t:Int}(h:Eu p b L lt 0 t)(hp:d7 p)(hb:b%p≠0):∃k,lt%p*b=1+p*k:=by
 obtain⟨g1,g2⟩:=h.dv L (Int.dvd_refl L) (Int.dvd_zero L)
 have m1:=Int.emod_nonneg b (show p≠0 by have:=hp.1;omega)
 have m2:=Int.emod_lt_of_pos b (show 0<p by have:=hp.1;omega)
 have hL:L=1:=by
  rcases hp.2 L h.l0 g1 with e|e
  ·exact e
  ·exfalso
   rw[e] at g2
   have:=Int.le_of_dvd (by omega) g2
   omega
 obtain⟨k,hk⟩:=h.lc
 have e:=Int.mul_ediv_add_emod lt p
 refine⟨-k-lt/p*b,?_⟩
 have e2:lt%p=lt-p*(lt/p):=by omega
 rw[e2,Int.sub_mul,Int.mul_sub,Int.mul_neg,Int.mul_assoc]
 omega
noncomputable def sol(p b a:Int):Int:=open Classical in if h:∃x,0<=x/\x<p/\∃k,b*x-a=p*k then Classical.choose h else 0
theorem xS{p b a x:Int}(hp:d7 p)(hb:b%p≠0)(h0:0<=x)(h1:x<p)(hx:∃k,b*x-a=p*k):x=sol p b a:=by
 have ex:∃x,0<=x/\x<p/\∃k,b*x-a=p*k:=⟨x,h0,h1,hx⟩
 unfold sol
 rw[dif_pos ex]
 obtain⟨g0,g1,k',hk'⟩:=Classical.choose_spec ex
 generalize Classical.choose ex=y at*
 obtain⟨k,hk⟩:=hx
 refine QS h0 h1 g0 g1 (Qd hp (a:=b) ⟨k-k',?_⟩ fun z=>hb (Int.emod_eq_zero_of_dvd z))
 rw[Int.mul_sub,Int.mul_sub];omega
theorem xP{p b a:Int}(hp:0<p):0<=sol p b a/\sol p b a<p:=by
 unfold sol
 split
 ·rename_i h
  obtain⟨g0,g1,_⟩:=Classical.choose_spec h
  exact⟨g0,g1⟩
 ·omega
def cz(wd:Wo)(prs:ak):ak:=prs.filter fun pr=>wd[pr.1.toNat]?==some none
theorem II{wd:Wo}{prs:ak}{pr:Int×Int}:cz wd (prs++[pr])=if wd[pr.1.toNat]?=some none then cz wd prs++[pr] else cz wd prs:=by
 unfold cz
 rw[List.filter_append]
 by_cases c:wd[pr.1.toNat]?=some none
 ·rw[if_pos c,List.filter_cons_of_pos (by rw[c];rfl)];rfl
 ·rw[if_neg c,List.filter_cons_of_neg (by simpa using c)];simp
noncomputable def cL(p:Int)(prs:ak)(rest:Int)(wd:Wo):Option (Int×Int):=match cz wd prs with
 |[pr]=>some (pr.1,sol p pr.2 (rest-aG prs wd%p))
 |_=>none
def Dy:Option (Int×Int)->PyData
 |none=> .none
 |some pr=>pairD pr
def gD(wd:Wo):List Int:=((List.range wd.length).filter fun i=>wd[i]?==some none).map fun(i:Nat)=>(i:Int)
def yQ(p:Int)(prs:ak):Prop:=∀pr∈prs,pr.2%p≠0
def e7(p:Int)(cs:List ak)(m:Nat):Prop:=d7 p/\p<10^40/\cs.length<=1000/\∀prs∈cs,prs.length<=1000/\jt prs m/\yQ p prs
theorem e7.at{p:Int}{cs:List ak}{m:Nat}{c:Int}(h:e7 p cs m)(h0:0<=c)(h1:c<cs.length):∃prs,cs[c.toNat]?=some prs/\cs.getD c.toNat []=prs/\prs.length<=1000/\jt prs m/\yQ p prs:=by
 have hc:c.toNat<cs.length:=by omega
 refine⟨cs[c.toNat],List.getElem?_eq_getElem hc,?_,h.2.2.2 _ (List.getElem_mem hc)⟩
 rw[List.getD_eq_getElem?_getD,List.getElem?_eq_getElem hc];rfl
abbrev bV:=Int×Int×Int
abbrev sC(m:bV):PyData:= .tuple [.int m.1, .int m.2.1, .int m.2.2]
noncomputable def p5(p:Int)(cs:List ak)(wd:Wo)(m:bV):PyData:=
 if m.2.1<0\/(cs.length:Int)<=m.2.1 then .str "check" else match cL p (cs.getD m.2.1.toNat []) 0 wd with
 |none=> .str "place"
 |some (a,x)=>if a≠m.1 then .str "place" else if x≠m.2.2 then .str "letter" else .none
def putAll(wd:Wo)(ms:List bV):Wo:=ms.foldl (fun w m=>w.set m.1.toNat (some m.2.2)) wd
theorem putAll_snoc{wd:Wo}{ms:List bV}{m:bV}:putAll wd (ms++[m])=(putAll wd ms).set m.1.toNat (some m.2.2):=by
 unfold putAll;rw[List.foldl_append];rfl
def Xh(p:Int)(cs:List ak)(wd:Wo)(ms:List bV)(j:Nat):Prop:=∃m,ms[j]?=some m/\p5 p cs (putAll wd (ms.take j)) m= .none
noncomputable def outs(p:Int)(cs:List ak)(w:Wo):List Nat:=(List.range cs.length).filter fun c=>(cL p (cs.getD c []) 0 w).isSome
theorem sP{wd:Wo}{prs:ak}{pr:Int×Int}(h:pr∈cz wd prs):pr∈prs/\wd[pr.1.toNat]?=some none:=by
 unfold cz at h
 have:=List.mem_filter.mp h
 exact⟨this.1,by simpa using this.2⟩
theorem AS{p:Int}{prs:ak}{rest:Int}{wd:Wo}{a x:Int}(hp:0<p)(h:cL p prs rest wd=some (a,x)):∃pr∈prs,pr.1=a/\wd[a.toNat]?=some none/\0<=x/\x<p:=by
 unfold cL at h
 split at h
 ·rename_i pr e
  cases h
  have:=sP (wd:=wd) (prs:=prs) (pr:=pr) (by rw[e];simp)
  exact⟨pr,this.1,rfl,this.2,xP hp⟩
 ·cases h
theorem JA{n:Nat}{k:Int}(h0:0<=k)(h1:k<n):fG n k=some k.toNat:=by
 unfold fG;rw[if_pos h0,if_pos h1]
theorem jn{wd:Wo}{ms:List bV}:(putAll wd ms).length=wd.length:=by
 unfold putAll
 induction ms generalizing wd with
 |nil=>rfl
 |cons m r ih=>rw[List.foldl_cons,ih,List.length_set]
theorem cN{X:Cx}{K:PySem.W.Frag}{tg l:Expr}{tl:TE}(hK:X.K=K)(hl:PE X l tl):PI X tg l (nh K tl):=by subst hK;exact YO hl
end L2
set_option maxRecDepth 100000
set_option maxHeartbeats 4000000
namespace L2
open PySem PySem.Spec PyProof.Rows
def jc(p:Int)(cs:List ak)(wd:Wo)(ms:List bV):Prop:=∀j<ms.length,Xh p cs wd ms j
theorem QE{wd:Wo}{ms:List bV}{i:Nat}(h:(putAll wd ms)[i]?=some none):wd[i]?=some none:=by
  induction ms generalizing wd with
  |nil=>exact h
  | cons m r ih =>
    have h2:=ih (wd:=wd.set m.1.toNat (some m.2.2)) h
    by_cases c:m.1.toNat=i
    · subst c
      by_cases hl:m.1.toNat<wd.length
      · rw[List.getElem?_set_self hl] at h2;cases h2
      · rw[List.getElem?_eq_none (by rw[List.length_set];omega)] at h2;cases h2
    · rwa[List.getElem?_set_ne c] at h2
theorem z0{p:Int}{cs:List ak}{wd:Wo}{m:bV}(h:p5 p cs wd m= .none):0<=m.2.1/\m.2.1<cs.length/\cL p (cs.getD m.2.1.toNat []) 0 wd=some (m.1,m.2.2):=by
 unfold p5 at h
 split at h
 ·cases h
 rename_i c
 split at h
 ·cases h
 rename_i a x e
 split at h
 ·cases h
 rename_i c3
 split at h
 ·cases h
 rename_i c4
 have c3:a=m.1:=by omega
 have c4:x=m.2.2:=by omega
 subst c3 c4
 exact⟨by omega,by omega,e⟩
theorem yI{p:Int}{prs:ak}{wd:Wo}{a x:Int}(h:cL p prs 0 wd=some (a,x)):∃pr,cz wd prs=[pr]/\pr.1=a/\x=sol p pr.2 (0-aG prs wd%p):=by
 unfold cL at h
 split at h
 ·rename_i pr e
  cases h
  exact⟨pr,e,rfl,rfl⟩
 ·cases h
theorem WJ{p:Int}{prs:ak}{wd:Wo}{pr:Int×Int}(h:cz wd prs=[pr]):(cL p prs 0 wd).isSome=true:=by
 unfold cL
 rw[h]<;>rfl
theorem Mw{p:Int}{cs:List ak}{w:Wo}(h:outs p cs w=[]){c:Nat}(hc:c<cs.length):(cL p (cs.getD c []) 0 w).isSome=false:=by
 unfold outs at h
 rw[List.filter_eq_nil_iff] at h
 have:=h c (List.mem_range.mpr hc)
 simpa using this
theorem Qz{p:Int}{cs:List ak}{wd:Wo}{a c x:Int}(h0:0<=c)(h1:c<cs.length)(h:cL p (cs.getD c.toNat []) 0 wd=some (a,x)):p5 p cs wd (a,c,x)= .none:=by
 unfold p5
 rw[if_neg (by show¬(c<0\/(cs.length:Int)<=c);omega)]
 show(match cL p (cs.getD c.toNat []) 0 wd with|none=>_|some (a',x')=>_)=_
 rw[h]
 simp
def cnt(wd:Wo):Nat:=wd.countP fun o=>o.isNone
theorem GC:∀{wd:Wo} {k:Nat} {x:Int},wd[k]?=some none->cnt (wd.set k (some x))+1=cnt wd
  |[],k,x,h=>by simp at h
  | o :: wd, 0, x, h => by
    simp at h
    subst h
    simp[cnt]
  | o :: wd, k + 1, x, h => by
    have ih:=GC (wd:=wd) (k:=k) (x:=x) (by simpa using h)
    unfold cnt at ih⊢
    rw[List.set_cons_succ,List.countP_cons,List.countP_cons]
    omega
theorem C7{p:Int}{cs:List ak}{wd:Wo}{ms:List bV}(hp:0<p)(h1:jc p cs wd ms):∀j,j<=ms.length->cnt (putAll wd (ms.take j))+j=cnt wd
  |0,_=>by simp[putAll]
  | j + 1, hj => by
    have ih:=C7 hp h1 j (by omega)
    obtain⟨m,e1,e2⟩:=h1 j (by omega)
    rw[take_snoc e1,putAll_snoc]
    obtain⟨c0,c1,e3⟩:=z0 e2
    obtain⟨pr,g1,g2,g3,_⟩:=AS hp e3
    have:=GC (x:=m.2.2) g3
    omega
theorem VQ(wd:Wo):cnt wd<=wd.length:=List.countP_le_length
def Agree(os:List Int)(wd:Wo):Prop:=∀(i:Nat) (x:Int),wd[i]?=some (some x)->os[i]?=some x
theorem IL{os:List Int}{wd:Wo}(hl:wd.length=os.length)(ha:Agree os wd):∀{prs:ak},(∀pr∈prs,0<=pr.1/\pr.1<wd.length)->
    aG prs (os.map some)=aG prs wd+((cz wd prs).map fun q=>q.2*os.getD q.1.toNat 0).sum
  |[],_=>by simp[aG,cz]
  | pr :: prs, h => by
    have ih:=IL hl ha (prs:=prs) fun q hq=>h q (List.mem_cons_of_mem _ hq)
    obtain⟨h0,h1⟩:=h pr (List.mem_cons_self ..)
    have k1:pr.1.toNat<wd.length:=by omega
    have k2:pr.1.toNat<os.length:=by omega
    rw[jq,jq,ih,FT (w:=os) (List.getElem?_eq_getElem k2)]
    have eg:os.getD pr.1.toNat 0=os[pr.1.toNat]:=by rw[List.getD_eq_getElem?_getD,List.getElem?_eq_getElem k2];rfl
    cases e:wd[pr.1.toNat] with
    | none =>
      have e2:wd[pr.1.toNat]?=some none:=by rw[List.getElem?_eq_getElem k1,e]
      have e3:cz wd (pr::prs)=pr::cz wd prs:=by unfold cz;rw[List.filter_cons_of_pos (by rw[e2];rfl)]
      have e4:eO wd pr=0:=by unfold eO;rw[e2]
      rw[e3,List.map_cons,List.sum_cons,e4,eg]
      omega
    | some x =>
      have e2:wd[pr.1.toNat]?=some (some x):=by rw[List.getElem?_eq_getElem k1,e]
      have e3:cz wd (pr::prs)=cz wd prs:=by unfold cz;rw[List.filter_cons_of_neg (by rw[e2];simp)]
      have e4:eO wd pr=pr.2*x:=by unfold eO;rw[e2]
      have e5:=ha _ _ e2
      rw[List.getElem?_eq_getElem k2] at e5
      cases e5
      rw[e3,e4]
      omega
theorem Ic{p:Int}{cs:List ak}{wd:Wo}{ms:List bV}{os:List Int}(hN:e7 p cs wd.length)(hl:wd.length=os.length)(hos:∀x∈os,0<=x/\x<p)(ht:∀prs∈cs,aG prs (os.map some)%p=0)(ha:Agree os wd)(h1:jc p cs wd ms):
    ∀j,j<=ms.length->Agree os (putAll wd (ms.take j))
  |0,_=>by simpa[putAll] using ha
  | j + 1, hj => by
    have ih:=Ic hN hl hos ht ha h1 j (by omega)
    obtain⟨m,e1,e2⟩:=h1 j (by omega)
    rw[take_snoc e1,putAll_snoc]
    obtain⟨c0,c1,e3⟩:=z0 e2
    obtain⟨prs,g1,g2,g3,g4,g5⟩:=hN.at c0 c1
    rw[g2] at e3
    obtain⟨pr,e4,e5,e6⟩:=yI e3
    have fU:prs∈cs:=List.mem_of_getElem? g1
    have hle:(putAll wd (ms.take j)).length=wd.length:=jn
    have hd:=IL (by rw[hle];exact hl) ih (prs:=prs) fun q hq=>by rw[hle];exact⟨(g4 q hq).1,(g4 q hq).2.1⟩
    have pR:pr∈prs:=(sP (wd:=putAll wd (ms.take j)) (by rw[e4];simp)).1
    have k2:pr.1.toNat<os.length:=by have:=g4 pr pR;omega
    rw[e4] at hd
    simp only[List.map_cons,List.map_nil,List.sum_cons,List.sum_nil,Int.add_zero] at hd
    have eg:os.getD pr.1.toNat 0=os[pr.1.toNat]:=by rw[List.getD_eq_getElem?_getD,List.getElem?_eq_getElem k2];rfl
    rw[eg] at hd
    have ho:=hos _ (List.getElem_mem k2)
    have hz:=ht prs fU
    have p2:=hN.1.1
    have es:os[pr.1.toNat]=sol p pr.2 (0-aG prs (putAll wd (ms.take j))%p):=by
      refine xS hN.1 (g5 pr pR) ho.1 ho.2 ?_
      have d1:=Int.mul_ediv_add_emod (aG prs (putAll wd (ms.take j))) p
      have d2:=Int.mul_ediv_add_emod (aG prs (os.map some)) p
      generalize aG prs (putAll wd (ms.take j))=S at*
      generalize aG prs (os.map some)=T at*
      generalize os[pr.1.toNat]=o at*
      refine⟨T/p-S/p,?_⟩
      rw[Int.mul_sub]
      omega
    intro i x hx
    by_cases c:m.1.toNat=i
    · subst c
      have hk:m.1.toNat<(putAll wd (ms.take j)).length:=by
        rw[hle,hl,<-e5];exact k2
      rw[List.getElem?_set_self hk] at hx
      cases hx
      rw[<-e5,List.getElem?_eq_getElem k2,es,e6]
    · rw[List.getElem?_set_ne c] at hx
      exact ih i x hx
section
variable{G:Gx}{ρ:Rh}{Φ:Pd}{ta tb te:TE}{E:DE}{K:PySem.W.Frag}
theorem Ev.slT{tl th:TO}(h:Ev G ρ te fun f x=>∃ds,x= .tuple ds/\Ov G ρ tl fun lo=>Ov G ρ th fun hi=>¬(HT.cY ds.length 0 lo=0/\HT.cY ds.length ds.length hi=ds.length)/\Φ f (.tuple (iA ds lo hi))):Ev G ρ (pC (Mr K) te tl th) Φ:=fun nb σ H Q W z=>
 h nb σ H _ W fun f v H1 d ⟨ds,e,q⟩ s1 hv=>q nb σ H1 _ (W.step s1) fun lo H2 q2 s2=>q2 nb σ H2 _ ((W.step s1).step s2) fun hi H3 ⟨hn,q3⟩ s3=>by
  subst e
  obtain⟨a,xs,rfl,n,hx,hd⟩:=((hv.keep s2.cH).keep s3.cH).ofT
  have W3:=((W.step s1).step s2).step s3
  refine⟨a,xs,rfl, .of hx,by rw[hd.length];exact hn,fun p hp=>?_⟩
  exact z f _ _ _ q3 (s1.trans (s2.trans (s3.trans (.same W3.aA (bW hp))))) (.tup (W3.fresh hp) aU (hd.cut.keep (aP.of (bW hp))))
theorem Ev.aas(h:Ev G ρ ta fun f x=>∃ds,x= .tuple ds/\ds≠[]/\Ev G ρ tb fun g y=>∃es,y= .tuple es/\es≠[]/\ds.length+es.length<=10000/\Φ (f && g) (.tuple (ds++es))):Ev G ρ (bX (RG K) ta tb) Φ:=fun nb σ H Q W z=>
 h nb σ H _ W fun f v H1 d ⟨ds,e,hne,q⟩ s1 hv=>q nb σ H1 _ (W.step s1) fun g u H2 d2 ⟨es,e2,YU,hl,p⟩ s2 hu=>by
  subst e e2
  obtain⟨a,xs,rfl,n,hx,hd⟩:=(hv.keep s2.cH).ofT
  obtain⟨c,ys,rfl,m,hy,hc⟩:=hu.ofT
  have W2:=(W.step s1).step s2
  have jF:=hd.length
  have hyl:=hc.length
  refine⟨a,c,xs,ys,rfl,rfl, .of hx, .of hy,fun z=>hne (List.length_eq_zero_iff.mp (by rw[<-jF,z];rfl)),Nat.le_trans (by rw[jF,hyl];exact hl) (by decide),fun z=>absurd (List.length_eq_zero_iff.mp (by rw[<-hyl,z];rfl)) YU,fun _ q hq=>?_⟩
  refine z (f && g) _ _ _ p (s1.trans (s2.trans (.same W2.aA (bW hq)))) (.tup (W2.fresh hq) aU ?_)
  exact(af.append (hd.av (bU (fun z=>(Bool.and_eq_true _ _▸z).1) fun _ z=>z)) (hc.av (bU (fun z=>(Bool.and_eq_true _ _▸z).2) fun _ z=>z))).keep (aP.of (bW hq))
end
end L2
set_option maxRecDepth 100000
set_option maxHeartbeats 4000000
namespace L2
open PySem PySem.Spec PyProof.Rows
def rT(es:List Fd):Bool:=es.all fun e=>e.1||gQ e.2
section
variable{G:Gx}{ρ:Rh}{Φ:Pd}{t:TA}{te:TE}
theorem iw.B0{nb:Addr->Prop}{H:Hp}:∀{es:List Fd} {vs:List V} {f:Bool},iw G nb H es vs->(f=true->rT es=true)->af (G.S nb f) H (es.map (·.2)) vs
  |[],_,_,h,_=>by unfold iw at h;subst h;exact .nil
  | e :: es, _, f, h, hf => by
    obtain⟨v,ws,rfl,h1,h2⟩:=h
    have hh:f=true->(e.1||gQ e.2)=true/\rT es=true:=fun z=>by
      have:=hf z
      unfold rT at this
      rw[List.all_cons,Bool.and_eq_true] at this
      exact this
    refine .cons ?_ (h2.B0 fun z=>(hh z).2)
    cases hs:gQ e.2 with
    |true=>exact h1.i9 hs
    |false=>exact h1.av (bU (fun z=>by have:=(hh z).1;rw[hs,Bool.or_false] at this;exact this) fun _ z=>z)
theorem Ev.Z5(h:Av G ρ t fun es=>es.length<=10000/\Φ (rT es) (.tuple (es.map (·.2)))):Ev G ρ (pY t) Φ:=fun nb σ H Q W z=>
 h nb σ H _ W fun es vs H1 ⟨hl,p⟩ s1 q1=>⟨Nat.le_trans (by rw[q1.len];exact hl) (by decide),fun a ha=>z _ _ _ _ p (s1.trans (.same (W.step s1).aA (bW ha)))
  (.tup ((W.step s1).fresh ha) aU ((q1.B0 fun z=>z).keep (aP.of (bW ha))))⟩
end
def Hl:R2:=fun x y H Q=>∃a b:Bool,x= .bl a/\y= .bl b/\Q (.bl (!(a==b))) H
theorem GZ{X:Cx}:cI X (compareOp .IsNot) Hl:=by
 intro pins s σ H x y v u Q I rx ry h
 obtain⟨a,b,rfl,rfl,q⟩:=h
 cases (show v=Value.bool a from rx)
 cases (show u=Value.bool b from ry)
 have:compareOp .IsNot (Value.bool a) (Value.bool b)=pure (Value.bool (!(a==b))):=by cases a<;>cases b<;>rfl
 rw[this]
 exact wpAny_pure ⟨.bl _,H,I,rfl,q⟩
theorem Ev.Yh{G:Gx}{ρ:Rh}{ta:TE}{b:Bool}{Φ:Pd}(h:Ev G ρ ta fun _ x=>∃a,x= .bool a/\Φ true (.bool (!(a==b)))):Ev G ρ (bX Hl ta (tC (.bl b))) Φ:=fun nb σ H Q W z=>
 h nb σ H _ W fun f v H1 d ⟨a,e,q⟩ s1 hv=>by
  subst e
  unfold ah at hv
  subst hv
  exact⟨a,b,rfl,rfl,z true _ H1 _ q s1 (.bl _)⟩
abbrev iR(r:List Int):PyData:= .list (r.map .int)
end L2
set_option maxRecDepth 100000
set_option maxHeartbeats 4000000
namespace L2
open PySem PySem.Spec PyProof.Rows
theorem Vz{K:PySem.W.Frag}{a:Addr}{xs:List V}{g:TG}{tb:TS}{D:Ends}{σ:St}{H:Hp}(Pv:Nat->St->Hp->Prop)(h0:Pv 0 σ H)(hl:∀i σ H,i<=xs.length->Pv i σ H->aQ K H a xs)
  (hs:∀i x σ H p,xs[i]?=some x->Pv i σ H->H p=none->g (.ref p) σ (upd H p (.tup [.int i,x])) fun σ2 H2=>tb {D with nx:=Pv (i+1),ct:=Pv (i+1),bk:=D.nx} σ2 H2) (hd:∀σ H,Pv xs.length σ H->D.nx σ H):
  ∃W:Nat->Nat->St->Hp->Prop,(∃m,W 0 m σ H)/\∀i m σ H,W i m σ H->
   ((kW K a).stop i H/\D.nx σ H)\/((kW K a).go i H/\∃N:St->Hp->Prop,(∀σ' H',N σ' H'->∃m',m'<m/\W (i+1) m' σ' H')/\∀x H',(kW K a).ki i H x H'->g x σ H' fun σ2 H2=>tb {D with nx:=N,ct:=N,bk:=D.nx} σ2 H2):=by
 refine⟨fun i m σ H=>m=xs.length-i/\i<=xs.length/\Pv i σ H,⟨xs.length,by simp,Nat.zero_le _,h0⟩,?_⟩
 rintro i m σ H ⟨rfl,hi,p⟩
 have q:=hl i σ H hi p
 by_cases hlt:i<xs.length
 ·refine .inr ⟨⟨xs,xs[i],q,by simp[hlt]⟩,Pv (i+1),fun σ' H' p'=>⟨xs.length-(i+1),by omega,rfl,hlt,p'⟩,fun x H' y=>?_⟩
  obtain⟨pp,y,e,hn,hy,e2⟩:=y
  subst e e2
  exact hs i y σ H pp (hy xs q) p hn
 ·have e:i=xs.length:=by omega
  subst e
  exact .inl ⟨⟨xs,q,rfl⟩,hd σ H p⟩
structure ie(H0 H:Hp)(L:Addr)(as:List Addr)(rows:List (List Int)):Prop where
 same:∀a o,H0 a=some o->H a=some o
 hL:H L=some (.lst (as.map V.ref))
 fL:H0 L=none
 fa:∀c∈as,H0 c=none
 nL:L∉as
 nd:as.Nodup
 len:as.length=rows.length
 row:∀(i:Nat) c r,as[i]?=some c->rows[i]?=some r->H c=some (.lst (r.map V.int))
section
variable{H0 H:Hp}{L c q:Addr}{as:List Addr}{rows:List (List Int)}{k:Nat}{r:List Int}{o:HO}{x:Int}
theorem ie.new(g:ie H0 H L as rows)(hq:H q=none):ie H0 (upd H q o) L as rows:=by
 refine⟨fun a o e=>?_,?_,g.fL,g.fa,g.nL,g.nd,g.len,fun i c r e1 e2=>?_⟩
 ·have h:=g.same a o e
  rw[aN (fun z=>by rw[z,hq] at h;cases h)];exact h
 ·rw[aN (fun z=>by have h:=g.hL;rw[z,hq] at h;cases h)];exact g.hL
 ·have h:=g.row i c r e1 e2
  rw[aN (fun z=>by rw[z,hq] at h;cases h)];exact h
theorem ie.app(g:ie H0 H L as rows)(hc:as[k]?=some c)(hr:rows[k]?=some r):ie H0 (upd H c (.lst (r.map V.int++[.int x]))) L as (rows.set k (r++[x])):=by
 have hm:c∈as:=List.mem_of_getElem? hc
 have hk:k<rows.length:=(List.getElem?_eq_some_iff.mp hr).1
 refine⟨fun a o e=>?_,?_,g.fL,g.fa,g.nL,g.nd,by rw[List.length_set];exact g.len,fun i d s e1 e2=>?_⟩
 ·rw[aN (fun z=>by have h:=g.fa c hm;rw[<-z,e] at h;cases h)];exact g.same a o e
 ·rw[aN (fun z=>g.nL (by rw[z];exact hm))];exact g.hL
 ·by_cases hik:k=i
  ·subst hik
   rw[hc] at e1;cases e1
   rw[List.getElem?_set_self hk] at e2;cases e2
   rw[aU,List.map_append];rfl
  ·rw[List.getElem?_set_ne hik] at e2
   have hdc:d≠c:=fun z=>by
    subst z
    obtain⟨l1,e3⟩:=List.getElem?_eq_some_iff.mp hc
    obtain⟨l2,e4⟩:=List.getElem?_eq_some_iff.mp e1
    exact hik ((List.getElem_inj g.nd).mp (e3.trans e4.symm))
   rw[aN hdc]
   exact g.row i d s e1 e2
end
def jD(rows:List (List Int))(c:Int)(pr:Int×Int):List (List Int):=rows.set pr.1.toNat (rows.getD pr.1.toNat []++[c])
def eu(rows:List (List Int))(c:Int)(prs:ak):List (List Int):=prs.foldl (fun rs pr=>jD rs c pr) rows
def cQ(n:Nat)(cs:List ak)(i:Nat):List (List Int):=(List.range i).foldl (fun rs (c:Nat)=>eu rs c (cs.getD c [])) (List.replicate n [])
theorem Ox{rows:List (List Int)}{c:Int}{prs:ak}{pr:Int×Int}:eu rows c (prs++[pr])=jD (eu rows c prs) c pr:=by unfold eu;rw[List.foldl_append];rfl
theorem Cy{rows:List (List Int)}{c:Int}{prs:ak}:(eu rows c prs).length=rows.length:=by
 unfold eu
 induction prs generalizing rows with
 |nil=>rfl
 |cons p r ih=>rw[List.foldl_cons,ih];unfold jD;rw[List.length_set]
theorem A0{n:Nat}{cs:List ak}{i:Nat}{prs:ak}(h:cs[i]?=some prs):cQ n cs (i+1)=eu (cQ n cs i) i prs:=by
 unfold cQ
 rw[List.range_succ,List.foldl_append]
 show eu _ _ (cs.getD i [])=_
 rw[List.getD_eq_getElem?_getD,h];rfl
theorem rR{n:Nat}{cs:List ak}{i:Nat}:(cQ n cs i).length=n:=by
 unfold cQ
 induction i with
 |zero=>simp
 |succ i ih=>rw[List.range_succ,List.foldl_append];show(eu _ _ _).length=n;rw[Cy];exact ih
def Short(rows:List (List Int))(m:Nat):Prop:=∀r∈rows,r.length<=m
def pO:Sp:=fun vs H Q _=>∃(nb:Addr->Prop) (p n:Int) (cs:List ak) (v:V),vs=[v]/\jd nb H/\ah nb H (cS p n cs) v/\0<=n/\n<=1000/\(∀prs∈cs,∀pr∈prs,0<=pr.1/\pr.1<n)/\
 (∀i m:Nat,∀prs,cs[i]?=some prs->Short (eu (cQ n.toNat cs i) i (prs.take m)) 10000)/\
 ∀(L:Addr) (as:List Addr) (H':Hp),ie H H' L as (cQ n.toNat cs cs.length)->Q (.ref L) H'
theorem MB{K:PySem.W.Frag}{D:Ends}{H:Hp}{v:V}(h:pO [v] H D.rt E0):
  pK (rM 1 (jE (o5 (aS (bX (cO K) (bq 0) (tC (.int 1))) bh)) (dW 0) kX (kQ bh) [none]))
   (pK (m9 (vo K (bX (cO K) (bq 0) (tC (.int 2)))) (mw K 2 (lU (dW 2) (lU (dW 3) oR)))
    (m9 (nh K (bq 3)) (mw K 2 (lU (dW 4) (lU (dW 5) oR))) (qN (lN K "list" uY (bX (bI K) (bq 1) (bq 4)) (aS (bq 2) bh)))))
    (mz (bq 1))) D [some v,none,none,none,none,none] H:=by
 obtain⟨nb,p,n,cs,v',e,hlive,hv,n0,n1,hpl,hsh,q⟩:=h
 cases e
 obtain⟨tp,xs3,rfl,ntp,htp,hds⟩:=hv.ofT
 unfold af at hds
 obtain⟨vp,r1,rfl,_,hds⟩:=hds
 unfold af at hds
 obtain⟨vn,r2,rfl,hvn,hds⟩:=hds
 unfold af at hds
 obtain⟨vL,r3,rfl,Yg,hds⟩:=hds
 unfold af at hds
 subst hds
 have hvn:=hvn.bD
 subst hvn
 obtain⟨NL,ys,rfl,nNL,Ci,hys⟩:=Yg.cU
 have hyl:=hys.length
 rw[List.length_map] at hyl
 refine⟨.ref tp,rfl,tp,_,1, .int n,rfl,rfl, .of htp,rfl,n,rfl,by omega,by omega,fun acc hacc=>?_⟩
 refine R.wV (fun j σ H1=>∃as,as.length=j/\ie H H1 acc as (List.replicate j [])) ?_ ?_ ?_
 ·refine⟨[],rfl,fun a o e=>?_,aU,hacc,fun _ z=>(by cases z),by simp,List.nodup_nil,rfl,fun i c r e=>by simp at e⟩
  rw[aN (fun z=>by rw[z,hacc] at e;cases e)];exact e
 ·rintro j σ H1 hj ⟨as,hal,g⟩
  refine⟨by decide,fun q1 hq1=>?_⟩
  have Ah:q1≠acc:=fun z=>by have h:=g.hL;rw[<-z,hq1] at h;cases h
  have B5:q1∉as:=fun z=>by
   obtain⟨i,hi⟩:=List.getElem?_of_mem z
   have h:=g.row i q1 [] hi (by rw[List.getElem?_replicate,if_pos (by have:=(List.getElem?_eq_some_iff.mp hi).1;omega)])
   rw[hq1] at h;cases h
  have Pg:H q1=none:=by
   cases e:H q1 with
   |none=>rfl
   |some o=>have h:=g.same q1 o e;rw[hq1] at h;cases h
  refine⟨as.map V.ref,by rw[aN (Ne.symm Ah)];exact g.hL,by rw[List.length_map];exact Nat.lt_of_lt_of_le (show as.length<10000 by omega) (by decide),as++[q1],by simp[hal],fun a o e=>?_,?_,g.fL,fun c hc=>?_,?_,?_,by simp[hal],fun i c r e1 e2=>?_⟩
  ·have h:=g.same a o e
   rw[aN (fun z=>by rw[z,hacc] at e;cases e),aN (fun z=>by rw[z,hq1] at h;cases h)];exact h
  ·rw[aU,List.map_append];rfl
  ·rcases List.mem_append.mp hc with z|z
   ·exact g.fa c z
   ·rw[List.mem_singleton.mp z];exact Pg
  ·intro z
   rcases List.mem_append.mp z with z|z
   ·exact g.nL z
   ·exact Ah (List.mem_singleton.mp z).symm
  ·rw[List.nodup_append]
   exact⟨g.nd,by simp,fun a ha b hb z=>by rw[List.mem_singleton.mp hb] at z;exact B5 (z▸ha)⟩
  ·rw[List.getElem?_replicate] at e2
   split at e2
   ·cases e2
    by_cases hi:i<as.length
    ·rw[List.getElem?_append_left hi] at e1
     have hm:=List.mem_of_getElem? e1
     have h:=g.row i c [] e1 (by rw[List.getElem?_replicate,if_pos (by omega)])
     rw[aN (fun z=>g.nL (by rw[<-z];exact hm)),aN (fun z=>B5 (by rw[<-z];exact hm))];exact h
    ·have:i=as.length:=by omega
     subst this
     rw[List.getElem?_append_right (Nat.le_refl _),Nat.sub_self] at e1
     cases e1
     rw[aN Ah,aU];rfl
   ·cases e2
 rintro σ1 H1 ⟨as,hal,g⟩
 refine⟨.ref tp,rfl,tp,_,2, .ref NL,rfl,rfl, .of (g.same _ _ htp),rfl,NL,rfl,⟨ys, .of (g.same _ _ Ci)⟩,?_⟩
 refine Vz (xs:=ys) (fun i σ H2=>∃x2 x3 x4 x5:Option V,σ=[some (.ref tp),some (.ref acc),x2,x3,x4,x5]/\ie H H2 acc as (cQ n.toNat cs i)) ⟨_,_,_,_,rfl,g⟩ ?_ ?_ ?_
 ·rintro i σ H2 hi ⟨_,_,_,_,_,g2⟩
  exact .of (g2.same _ _ Ci)
 ·rintro i x σ H2 pp hx ⟨x2,x3,x4,x5,rfl,g2⟩ hpp
  have hil:i<cs.length:=by have:=(List.getElem?_eq_some_iff.mp hx).1;omega
  obtain⟨prs,lq⟩:∃prs,cs[i]?=some prs:=⟨_,List.getElem?_eq_getElem hil⟩
  obtain⟨x',e1,e2⟩:=hys.get (i:=i) (d:=dg prs) (by rw[List.getElem?_map,lq];rfl)
  rw[hx] at e1;cases e1
  obtain⟨PL,zs,rfl,nPL,FE,hzs⟩:=e2.cU
  have Gm:=hzs.length
  rw[List.length_map] at Gm
  have g3:=g2.new (o:= .tup [.int i, .ref PL]) hpp
  refine⟨pp,[.int i, .ref PL],rfl, .of aU,rfl, .int i,[.ref PL],rfl, .ref PL,[],rfl,rfl,?_⟩
  refine⟨.ref PL,rfl,PL,rfl,⟨zs, .of (g3.same _ _ FE)⟩,?_⟩
  refine zx (xs:=zs) (fun m σ H4=>∃x4 x5:Option V,σ=[some (.ref tp),some (.ref acc),some (.int i),some (.ref PL),x4,x5]/\ie H H4 acc as (eu (cQ n.toNat cs i) i (prs.take m))) ⟨_,_,rfl,by simpa[eu] using g3⟩ ?_ ?_ ?_
  ·rintro m σ H4 hm ⟨_,_,_,g4⟩
   exact .of (g4.same _ _ FE)
  ·rintro m z σ H4 hz ⟨x4,x5,rfl,g4⟩
   have hml:m<prs.length:=by have:=(List.getElem?_eq_some_iff.mp hz).1;omega
   obtain⟨pr,yE⟩:∃pr,prs[m]?=some pr:=⟨_,List.getElem?_eq_getElem hml⟩
   obtain⟨z',e3,e4⟩:=hzs.get (i:=m) (d:=pairD pr) (by rw[List.getElem?_map,yE];rfl)
   rw[hz] at e3;cases e3
   obtain⟨t,rfl,nt,ht⟩:=HE e4
   obtain⟨k0,k1⟩:=hpl prs (List.mem_of_getElem? lq) pr (List.mem_of_getElem? yE)
   have hrl:(eu (cQ n.toNat cs i) (i:Int) (prs.take m)).length=n.toNat:=by rw[Cy,rR]
   have aaW:=g4.len
   have hk:pr.1.toNat<as.length:=by omega
   have hk2:pr.1.toNat<(eu (cQ n.toNat cs i) (i:Int) (prs.take m)).length:=by omega
   obtain⟨c,hc⟩:∃c,as[pr.1.toNat]?=some c:=⟨_,List.getElem?_eq_getElem hk⟩
   obtain⟨r,hr⟩:∃r,(eu (cQ n.toNat cs i) (i:Int) (prs.take m))[pr.1.toNat]?=some r:=⟨_,List.getElem?_eq_getElem hk2⟩
   have hcl:=g4.row _ _ _ hc hr
   have hrs:=hsh i m prs lq r (List.mem_of_getElem? hr)
   refine⟨t,_,rfl, .of (g4.same _ _ ht),rfl,_,_,rfl,_,_,rfl,rfl,?_⟩
   refine⟨.ref acc,rfl, .int pr.1,rfl,acc,as.map V.ref,pr.1, .ref c,rfl,rfl, .of g4.hL,gC k0 (by rw[List.getElem?_map,hc];rfl), .inl ⟨rfl,_,aQ.of hcl⟩, .int i,rfl,c,r.map V.int, .int i,rfl,rfl,hcl,by rw[List.length_map];exact Nat.lt_of_le_of_lt hrs (by decide),_,_,rfl,?_⟩
   rw[take_snoc yE,Ox]
   unfold jD
   rw[List.getD_eq_getElem?_getD,hr]
   exact g4.app hc hr
  ·rintro σ H4 ⟨x4,x5,rfl,g4⟩
   rw[Gm,List.take_length] at g4
   refine⟨_,_,_,_,rfl,?_⟩
   rw[A0 lq]
   exact g4
 ·rintro σ H2 ⟨x2,x3,x4,x5,rfl,g2⟩
  rw[hyl] at g2
  exact⟨.ref acc,rfl,q acc as H2 g2⟩
theorem af.Et{S:Addr->Prop}{H:Hp}:∀{ds:List PyData} {xs:List V},ds.length=xs.length->(∀(i:Nat) d x,ds[i]?=some d->xs[i]?=some x->ah S H d x)->af S H ds xs
 |[],[],_,_=> .nil
 |[],_::_,h,_=>by simp at h
 |_::_,[],h,_=>by simp at h
 |d::ds,x::xs,h,q=> .cons (q 0 d x rfl rfl) (af.Et (by simpa using h) fun i d' x' e1 e2=>q (i+1) d' x' (by simpa using e1) (by simpa using e2))
section
variable{H0 H H':Hp}{L:Addr}{as:List Addr}{rows:List (List Int)}
theorem ie.LJ(g:ie H0 H L as rows){S:Addr->Prop}(hS:∀a,S a->H0 a≠none):ah S H (.list (rows.map iR)) (.ref L):=by
 refine .lst (fun z=>hS L z g.fL) g.hL (af.Et (by rw[List.length_map,List.length_map,g.len]) fun i d x e1 e2=>?_)
 obtain⟨r,hr,rfl⟩:=cW e1
 rw[List.getElem?_map] at e2
 obtain⟨c,hc,rfl⟩:=Option.map_eq_some_iff.mp e2
 exact .lst (fun z=>hS c z (g.fa c (List.mem_of_getElem? hc))) (g.row i c r hc hr) (pT r)
end
def CO(n:Int)(cs:List ak):Prop:=0<=n/\n<=1000/\(∀prs∈cs,∀pr∈prs,0<=pr.1/\pr.1<n)/\∀i m:Nat,∀prs,cs[i]?=some prs->Short (eu (cQ n.toNat cs i) i (prs.take m)) 10000
section
variable{G:Gx}{ρ:Rh}{Φ:Pd}{te:TE}{E:DE}{K:PySem.W.Frag}
theorem Ev.G0(h:Ev G ρ te fun _ x=>∃(p n:Int) (cs:List ak),x=cS p n cs/\CO n cs/\Φ true (.list ((cQ n.toNat cs cs.length).map iR))):Ev G ρ (eS pO [] E0 (aS te bh)) Φ:=fun nb σ H Q W z=>
 h nb σ H _ W fun f v H1 d ⟨p,n,cs,e,⟨h1,h2,h3,h4⟩,q⟩ s1 hv=>by
  subst e
  have W1:=W.step s1
  refine⟨G.S nb f,p,n,cs,v,rfl,W1.fJ,hv,h1,h2,h3,h4,fun L as H' g=>?_⟩
  exact z true _ H' _ q (s1.trans (.same W1.aA fun a o e=>g.same a o e)) (g.LJ fun a q=>W1.fJ a q)
end
theorem MM{rows:List (List Int)}{b:Nat}{c:Int}{pr:Int×Int}(h:Short rows b):Short (jD rows c pr) (b+1):=fun r hr=>by
 unfold jD at hr
 rcases List.mem_or_eq_of_mem_set hr with z|z
 ·have:=h r z;omega
 ·subst z
  rw[List.length_append,List.length_singleton]
  by_cases hk:pr.1.toNat<rows.length
  ·have:(rows.getD pr.1.toNat []).length<=b:=by
    rw[List.getD_eq_getElem?_getD,List.getElem?_eq_getElem hk];exact h _ (List.getElem_mem hk)
   omega
  ·rw[List.getD_eq_getElem?_getD,List.getElem?_eq_none (by omega)]
   simp
theorem AN{c:Int}:∀{prs:ak} {rows:List (List Int)} {b:Nat},Short rows b->Short (eu rows c prs) (b+prs.length)
  |[],rows,b,h=>h
  | pr :: prs, rows, b, h => by
    have:=AN (c:=c) (prs:=prs) (MM (c:=c) (pr:=pr) h)
    show Short (eu (jD rows c pr) c prs) _
    rw[List.length_cons,show b+(prs.length+1)=b+1+prs.length by omega]
    exact this
end L2
set_option maxRecDepth 100000
namespace L2
open PySem PySem.Spec PyProof.Rows
section
variable{κ:Type}[DecidableEq κ]
def dQ(kvs:List (κ×V))(k:κ):Option V:=(kvs.find? fun kv=>decide (kv.1=k)).map (·.2)
def putK(kvs:List (κ×V))(k:κ)(v:V):List (κ×V):=
 if(kvs.any fun kv=>decide (kv.1=k))=true then kvs.map (fun kv=>if kv.1=k then(kv.1,v) else kv) else kvs++[(k,v)]
def jl(kvs:List (κ×V))(k:κ):List (κ×V):=kvs.filter fun kv=>decide (kv.1≠k)
theorem US{k:κ}:dQ ([]:List (κ×V)) k=none:=rfl
theorem rz{p:κ×V}{r:List (κ×V)}{k:κ}(e:p.1=k):dQ (p::r) k=some p.2:=by simp[dQ,List.find?_cons,e]
theorem sy{p:κ×V}{r:List (κ×V)}{k:κ}(e:¬p.1=k):dQ (p::r) k=dQ r k:=by simp[dQ,List.find?_cons,e]
theorem rV(k:κ):∀kvs:List (κ×V),(kvs.any fun kv=>decide (kv.1=k))=(dQ kvs k).isSome
  |[]=>rfl
  | p :: r => by
    rw[List.any_cons]
    by_cases e:p.1=k
    · simp only[rz e,decide_eq_true e,Bool.true_or,Option.isSome_some]
    · rw[sy e,decide_eq_false e,Bool.false_or];exact rV k r
theorem Ig(kvs:List (κ×V))(k:κ)(v:V):(putK kvs k v).length<=kvs.length+1:=by
 unfold putK
 split
 ·rw[List.length_map];omega
 ·rw[List.length_append,List.length_cons,List.length_nil];omega
theorem eK.qj{o:Option V}{u:Option Value}(r:eK o u):o.isSome=u.isSome:=by
  cases o with
  | none => cases u with
    |none=>rfl
    |some _=>exact(show False from r).elim
  | some _ => cases u with
    |none=>exact(show False from r).elim
    |some _=>rfl
theorem eK.getD{o:Option V}{u:Option Value}{d:V}{d':Value}(r:eK o u)(rd:RelV d d'):RelV (o.getD d) (u.getD d'):=by
  cases o with
  | none => cases u with
    |none=>exact rd
    |some _=>exact(show False from r).elim
  | some _ => cases u with
    |none=>exact(show False from r).elim
    |some _=>exact r
theorem KV.val{kvs:List (κ×V)}{vs:List (κ×Value)}(r:KV kvs vs)(k:κ):eK (dQ kvs k) (valueAt vs k):=by
  unfold KV at r
  induction r with
  |nil=>exact True.intro
  | @cons p q ps qs h t ih =>
    obtain⟨h1,h2⟩:=h
    by_cases e:p.1=k
    · have e':q.1=k:=h1.symm.trans e
      have b:valueAt (q::qs) k=some q.2:=by simp[valueAt,List.find?_cons,e']
      rw[rz e,b];exact h2
    · have e':¬q.1=k:=fun z=>e (h1.trans z)
      have b:valueAt (q::qs) k=valueAt qs k:=by simp[valueAt,List.find?_cons,e']
      rw[sy e,b];exact ih
theorem KV.any{kvs:List (κ×V)}{vs:List (κ×Value)}(r:KV kvs vs)(k:κ):(kvs.any fun kv=>decide (kv.1=k))=vs.any fun kv=>decide (kv.1=k):=by
 unfold KV at r
 induction r with
 |nil=>rfl
 |cons h t ih=>rw[List.any_cons,List.any_cons,ih,h.1]
theorem KV.repl{kvs:List (κ×V)}{vs:List (κ×Value)}(r:KV kvs vs)(k:κ){y:V}{u:Value}(ry:RelV y u):
    KV (kvs.map fun kv=>if kv.1=k then(kv.1,y) else kv) (vs.map fun kv=>if kv.1=k then(kv.1,u) else kv):=by
  unfold KV at r⊢
  induction r with
  |nil=>exact .nil
  | @cons p q ps qs h t ih =>
    rw[List.map_cons,List.map_cons]
    refine .cons ?_ ih
    obtain⟨h1,h2⟩:=h
    by_cases e:p.1=k
    · rw[if_pos e,if_pos (h1.symm.trans e)];exact⟨h1,ry⟩
    · rw[if_neg e,if_neg (fun z=>e (h1.trans z))];exact⟨h1,h2⟩
theorem KV.put{kvs:List (κ×V)}{vs:List (κ×Value)}(r:KV kvs vs)(k:κ){y:V}{u:Value}(ry:RelV y u):KV (putK kvs k y) (stored vs k u):=by
 unfold putK stored
 rw[r.any k]
 by_cases e:(vs.any fun kv=>decide (kv.1=k))=true
 ·rw[if_pos e,if_pos e];exact r.repl k ry
 ·rw[if_neg e,if_neg e];exact Paired.snoc r ⟨rfl,ry⟩
theorem KV.drop{kvs:List (κ×V)}{vs:List (κ×Value)}(r:KV kvs vs)(k:κ):KV (jl kvs k) (without vs k):=by
  unfold KV at r⊢
  unfold jl without
  induction r with
  |nil=>exact .nil
  | @cons p q ps qs h t ih =>
    obtain⟨h1,h2⟩:=h
    rw[List.filter_cons,List.filter_cons]
    by_cases e:p.1=k
    · have a:¬decide (p.1≠k)=true:=by simp[e]
      have b:¬decide (q.1≠k)=true:=by simp[h1.symm.trans e]
      rw[if_neg a,if_neg b];exact ih
    · have e':¬q.1=k:=fun z=>e (h1.trans z)
      have a:decide (p.1≠k)=true:=by simp[e]
      have b:decide (q.1≠k)=true:=by simp[e']
      rw[if_pos a,if_pos b];exact .cons ⟨h1,h2⟩ ih
theorem KV.keys{kvs:List (κ×V)}{vs:List (κ×Value)}(r:KV kvs vs):kvs.map (·.1)=vs.map (·.1):=by
 unfold KV at r
 induction r with
 |nil=>rfl
 |cons h t ih=>rw[List.map_cons,List.map_cons,ih,h.1]
theorem KV.length{kvs:List (κ×V)}{vs:List (κ×Value)}(r:KV kvs vs):kvs.length=vs.length:=Paired.length r
theorem Ie(kvs:List (κ×V))(k:κ):(jl kvs k).length<=kvs.length:=List.length_filter_le _ _
end
theorem jm{P:Program}{w:World}{k:Key}{u:Value}(r:RelV (kV k) u):(cT P w).is k u=true:=by
 cases k with
 |inl i=>obtain⟨t,e⟩:=(show∃t,u=Value.int i t from r);subst e;exact TN P w i t
 |inr x=>obtain⟨t,e⟩:=(show∃t,u=Value.str x t from r);subst e;exact J4 P w x t
theorem Dl{P:Program}{w:World}:∀{ks:List Key} {us:List Value},Vals (ks.map kV) us->ItemsAre (cT P w) ks us
  |[],_,r=>by rw[List.map_nil] at r;cases r;exact .nil
  | k :: ks, _, r => by
    rw[List.map_cons] at r
    cases r with
    |cons h t=>exact .cons (jm h) (Dl t)
abbrev KT(H:Hp):List (List Key×V)->List (List Key×Addr×Value)->Prop:=Paired fun p q=>p.1=q.1/\H q.2.1=some (.tup (p.1.map kV))/\RelV p.2 q.2.2
theorem KT.val{H:Hp}{kvs:List (List Key×V)}{xs:List (List Key×Addr×Value)}(r:KT H kvs xs)(k:List Key):eK (dQ kvs k) ((atKey xs k).map (·.2)):=by
  induction r with
  |nil=>exact True.intro
  | @cons p q ps qs h t ih =>
    obtain⟨h1,_,h2⟩:=h
    by_cases e:p.1=k
    · have e':q.1=k:=h1.symm.trans e
      have b:atKey (q::qs) k=some q.2:=by simp[atKey,List.find?_cons,e']
      rw[rz e,b];exact h2
    · have e':¬q.1=k:=fun z=>e (h1.trans z)
      have b:atKey (q::qs) k=atKey qs k:=by simp[atKey,List.find?_cons,e']
      rw[sy e,b];exact ih
section
variable{P:Program}{w:World}{H:Hp}{h:Heap}{a:Addr}
theorem BZ{u:HO}(ok:cK P w H h)(e:Rd H a u):bK P w H h a u:=e.ok ok
theorem kF{kvs:List (Key×V)}(ok:cK P w H h)(e:Rd H a (.dK kvs)):kvs.length<=sizeLine/\(a==sysModules)=false/\∃vs,KV kvs vs/\h.DictOf (cT P w) a vs:=
 show bK P w H h a (.dK kvs) from BZ ok e
theorem pJ{kvs:List (Key×V)}(ok:cK P w H h)(e:H a=some (.dK kvs)):kvs.length<=sizeLine/\(a==sysModules)=false/\∃vs,KV kvs vs/\h.DictOf (cT P w) a vs:=kF ok (.inl e)
theorem yJ{ks:List Key}(ok:cK P w H h)(e:H a=some (.tup (ks.map kV))):(tupleKind (cT P w)).is h ks a:=by
 obtain⟨_,its,r,o,h1,h2,n,h3⟩:=(show bK P w H h a (.tup (ks.map kV)) from ok a _ e)
 exact⟨o,its.toArray,n,h1,h2,h3,by simpa using Dl r⟩
theorem CB{kvs:List (List Key×V)}(ok:cK P w H h)(e:Rd H a (.dT kvs)):kvs.length<=sizeLine/\(a==sysModules)=false/\
    ∃xs,KT H kvs xs/\h.DictOfH (tupleKind (cT P w)) a xs:=by
  obtain⟨z,y,xs,r,o,es,ep,h1,h2,h3,h4,h5⟩:=(show bK P w H h a (.dT kvs) from BZ ok e)
  refine⟨z,y,xs,r,o,es,ep,h1,h2,h3,h4,fun x hx=>?_,h5⟩
  have all:∀{l:List (List Key×V)} {m:List (List Key×Addr×Value)},KT H l m->∀x∈m,(tupleKind (cT P w)).is h x.1 x.2.1:=by
    intro l m q
    induction q with
    |nil=>intro x hx;exact nomatch hx
    | @cons p q ps qs hq t ih =>
      intro x hx
      rcases List.mem_cons.mp hx with e|hx
      · subst e
        exact yJ ok (by rw[<-hq.1];exact hq.2.1)
      · exact ih x hx
  exact all r x hx
end
def nK(H:Hp)(a:Addr)(y:V)(r:Option V):Prop:=
 (∃kvs k,Rd H a (.dK kvs)/\y=kV k/\r=dQ kvs k)\/∃kvs k b,Rd H a (.dT kvs)/\y= .ref b/\H b=some (.tup (k.map kV))/\r=dQ kvs k
theorem nK.k{H:Hp}{a:Addr}{kvs:List (Key×V)}{k:Key}(e:H a=some (.dK kvs)):nK H a (kV k) (dQ kvs k):= .inl ⟨kvs,k, .inl e,rfl,rfl⟩
section
variable{X:Cx}{pins:List (Addr×Obj)}{σ:St}{H:Hp}{s:Shared}{a:Addr}{y v:V}{u r:Value}{o:Option V}{A:Around}{E:Value->Shared->Prop}
theorem Inv.big(I:Inv X pins σ H s):sysModules<s.heap.objs.size:=by
 have h:mainGlobals<s.heap.objs.size:=(I.mod.glob.keeps I.bk).lt
 exact Nat.lt_trans (by decide) h
theorem QJ{Q:Value->Shared->Prop}(hu:A.units+1<cLine)(I:Inv X pins σ H s)(g:nK H a y o)(ry:RelV y u)(h:∀s',Inv X pins σ H s'->Q (.bool o.isSome) s'):
  wpAny (model X.prog X.w) A (compareOp .In u (.ref a)) Q E s:=by
 rcases g with ⟨kvs,k,e,ey,l⟩|⟨kvs,k,b,e,ey,eb,l⟩
 ·subst ey
  obtain⟨z,hd,vs,rel,dd⟩:=kF I.hok e
  refine wpAny_in_of (jm ry) hd dd.mapOf ?_
  rw[<-(rel.val k).qj,<-l]
  exact h _ (I.tok _)
 ·subst ey
  cases (show u=Value.ref b from ry)
  obtain⟨z,hd,xs,rel,dd⟩:=CB I.hok e
  refine wpAny_in_heap (tupleKind_room_in1 hu) (yJ I.hok eb) hd dd ?_
  have q:=(rel.val k).qj
  rw[Option.isSome_map] at q
  rw[<-q,<-l]
  exact h _ (I.tok _)
theorem O2{Q:Value->Shared->Prop}(hu:A.units+1<cLine)(I:Inv X pins σ H s)(g:nK H a y o)(ry:RelV y u)(h:∀s',Inv X pins σ H s'->Q (.bool (!o.isSome)) s'):
  wpAny (model X.prog X.w) A (compareOp .NotIn u (.ref a)) Q E s:=by
 rcases g with ⟨kvs,k,e,ey,l⟩|⟨kvs,k,b,e,ey,eb,l⟩
 ·subst ey
  obtain⟨z,hd,vs,rel,dd⟩:=kF I.hok e
  refine wpAny_notIn_of (jm ry) hd dd.mapOf ?_
  rw[<-(rel.val k).qj,<-l]
  exact h _ (I.tok _)
 ·subst ey
  cases (show u=Value.ref b from ry)
  obtain⟨z,hd,xs,rel,dd⟩:=CB I.hok e
  refine wpAny_notIn_heap (tupleKind_room_in1 hu) (yJ I.hok eb) hd dd ?_
  have q:=(rel.val k).qj
  rw[Option.isSome_map] at q
  rw[<-q,<-l]
  exact h _ (I.tok _)
theorem uM{h':Heap}{t':Nat}{ob:HO}(I:Inv X pins σ H s)(mu:pW (H a))(hs:Heap.SameBut a s.heap h')(he:∃q,h'.get? a=some q)(new:bK X.prog X.w (upd H a ob) h' a ob):
  Inv X pins σ (upd H a ob) {s with heap:=h',toks:=t'}:=
 I.write (x:=a) (e:=a) mu (.inl rfl) (fun b q hb z=>(hs.2 b hb).trans z) he new
theorem tR{P:Program}{w:World}{H':Hp}{h':Heap}{kvs:List (Key×V)}{vs:List (Key×Value)}(z:kvs.length<=sizeLine)(hd:(a==sysModules)=false)(rel:KV kvs vs)(dd:h'.DictOf (cT P w) a vs):
  bK P w H' h' a (.dK kvs):=⟨z,hd,vs,rel,dd⟩
end
section
variable{X:Cx}{pins:List (Addr×Obj)}{σ:St}{H:Hp}{s:Shared}{a:Addr}{kvs:List (Key×V)}{k:Key}{u:Value}{A:Around}{E:Value->Shared->Prop}
theorem aaS{Q:Unit->Shared->Prop}(I:Inv X pins σ H s)(e:H a=some (.dK kvs))(ry:RelV (kV k) u)(l:(dQ kvs k).isSome=true)(h:∀s',Inv X pins σ (upd H a (.dK (jl kvs k))) s'->Q () s'):
  wpAny (model X.prog X.w) A (delItem (.ref a) u) Q E s:=by
 obtain⟨z,hd,vs,rel,dd⟩:=pJ I.hok e
 refine wpAny_delItem_slot dd.typeIs (by decide) PySem.F.slot_dict_delitem
  (call_meetsIn PySem.F.slot_dict_delitem dd.typeIs PySem.F.entry_dict_delitem (PySem.F.args_dict_delitem_2 _ _) (meets_dict_delitem_pairs (cT X.prog X.w) a (jm ry)) ⟨vs,dd,by rw[<-rel.length];exact z,by rw[<-(rel.val k).qj];exact l,fun h' jP hs=>h _ ?_⟩)
 have he:∃q,h'.get? a=some q:=let ⟨q,_,_,hq,_⟩:=jP;⟨q,hq⟩
 exact uM I (by rw[e];exact True.intro) hs he (tR (Nat.le_trans (Ie kvs k) z) hd (rel.drop k) jP)
theorem Ut{v:V}{more:List Value}{Q:Value->Shared->Prop}(I:Inv X pins σ H s)(e:H a=some (.dK kvs))(ry:RelV (kV k) u)(l:dQ kvs k=some v)(hm:more=[]\/∃x,more=[x])
  (h:∀w' s',Inv X pins σ (upd H a (.dK (jl kvs k))) s'->RelV v w'->Q w' s'):wpAny (model X.prog X.w) A (call (.builtin "dict.pop") (.ref a::u::more)) Q E s:=by
 obtain⟨z,hd,vs,rel,dd⟩:=pJ I.hok e
 obtain⟨w',hw,rw'⟩:=eK.some_of (v:=v) (o:=valueAt vs k) (by rw[<-l];exact rel.val k)
 have hp:(keyPart u).isSome=true:=by
  cases k with
  |inl i=>obtain⟨t,q⟩:=(show∃t,u=Value.int i t from ry);subst q;rfl
  |inr x=>obtain⟨t,q⟩:=(show∃t,u=Value.str x t from ry);subst q;rfl
 have ha:argsOk "dict.pop" ⟨.ref a::u::more,[]⟩:=by
  rcases hm with q|⟨x,q⟩
  ·subst q;exact PySem.F.args_dict_pop_2 _ _
  ·subst q;exact PySem.F.args_dict_pop_3 _ _ _
 refine call_meetsIn PySem.F.slot_dict_pop dd.typeIs PySem.F.entry_dict_pop ha (meets_dict_pop_there (cT X.prog X.w) a (jm ry) more hm hp)
  ⟨vs,w',dd,by rw[<-rel.length];exact z,hw,fun h' jP hs=>h w' _ ?_ rw'⟩
 have he:∃q,h'.get? a=some q:=let ⟨q,_,_,hq,_⟩:=jP;⟨q,hq⟩
 exact uM I (by rw[e];exact True.intro) hs he (tR (Nat.le_trans (Ie kvs k) z) hd (rel.drop k) jP)
theorem Jl{Q:Value->Shared->Prop}(I:Inv X pins σ H s)(e:Rd H a (.dK kvs))(h:∀t s',Inv X pins σ H s'->Q (.int kvs.length t) s'):wpAny (model X.prog X.w) A (call (.builtin "len") [.ref a]) Q E s:=by
 obtain⟨z,hd,vs,rel,dd⟩:=kF I.hok e
 refine call_len_dict hd dd (by rw[<-rel.length];rw[sizeLine_eq] at z;omega) ?_
 rw[<-rel.length]
 exact h _ _ (I.tok _)
end
theorem WC{P:Program}{w:World}{H:Hp}(h:Heap)(hb:sysModules<h.objs.size):bK P w H (h.push {cls:= .type "dict",data:= .dict #[]}) h.objs.size (.dK []):=
 ⟨Nat.zero_le _,beq_eq_false_iff_ne.mpr (Ne.symm (Nat.ne_of_lt hb)),[], .nil,Heap.DictOf.new h⟩
def Gh:TE:=fun _ H Q=>∀p,H p=none->Q (.ref p) (upd H p (.dK []))
section
variable{X:Cx}{pos:Pos}
theorem zq:PE X (.Dict [] [] pos) Gh:=fun pins s σ H Q I h=>
 wpAny_Dict_empty ⟨.ref s.heap.objs.size,_,I.laid (a:=s.heap.objs.size) (o:= .dK []) (t':=s.toks) (fun _ _ q=>Heap.get?_push_of_some _ q) (Nat.le_refl _) (WC s.heap I.big),rfl,h _ (I.hok.fresh (Nat.le_refl _))⟩
end
def jU(kvs more:List (Key×V)):List (Key×V):=more.foldl (fun acc kv=>putK acc kv.1 kv.2) kvs
theorem KV.merge:∀{more:List (Key×V)} {rs:List (Key×Value)} {kvs:List (Key×V)} {vs:List (Key×Value)},KV more rs->KV kvs vs->KV (jU kvs more) (merged vs rs):=by
  intro more rs kvs vs r
  unfold KV at r
  induction r generalizing kvs vs with
  |nil=>intro q;exact q
  | @cons p q ps qs h t ih =>
    intro r0
    have e:KV (putK kvs p.1 p.2) (stored vs q.1 q.2):=by
      have:=r0.put p.1 h.2
      rw[<-h.1];exact this
    exact ih e
theorem Il:∀(more kvs:List (Key×V)),(jU kvs more).length<=kvs.length+more.length
  |[],kvs=>by show kvs.length<=kvs.length+0;omega
  | p :: r, kvs => by
    have h1:=Il r (putK kvs p.1 p.2)
    have h2:=Ig kvs p.1 p.2
    show(jU (putK kvs p.1 p.2) r).length<=_
    rw[List.length_cons];omega
end L2
/-THE LAST THEOREM (shape;LID,My.*are yours):
   My.Adr:a structure of the addresses that your layer names (classes,functions);My.Txt K t:a structure (Prop) of the equations over K;
   My.txt_mk:{K} {implicit addresses ..} (e1:nsIn K mainGlobals "law"=some (some (.ref f))) (e2:K.lookup f=some ⟨oc,od, .func (fnOf "law" "law" params body scope dV kV doc pm an cdv ct),sl⟩) (e3:codeIn K cdv "law"=true) .. :∃t,My.Txt K t
set_option maxRecDepth 100000 in
set_option maxHeartbeats 0 in
(the tactic k_is has no namespace:write k_is)-/
namespace L2
open PySem PySem.Spec PyProof.Rows
section
variable{X:Cx}
theorem LW:dB X (.builtin "len") (fun xs H Q=>∃a kvs,xs=[V.ref a]/\H a=some (.dK kvs)/\Q (.int kvs.length) H):=by
 intro pins s σ H xs us Q I r h
 obtain⟨a,kvs,rfl,ha,q⟩:=h
 obtain⟨u,rfl,ru⟩:=vals1 r
 cases ru
 exact Jl I (.inl ha) fun t s' I'=>⟨.int kvs.length,H,I',⟨t,rfl⟩,q⟩
end
end L2
set_option maxRecDepth 100000
set_option maxHeartbeats 4000000
namespace L2
open PySem PySem.Spec PyProof.Rows
section
variable{prog:Program}{w:World}{A:Around}{E:Value->Shared->Prop}{s:Shared}
theorem Jo{T:String}{r d:Addr}{n:Nat}{P:Nat->Value->Prop}{OK:Heap->Prop}{Q:List Value->Shared->Prop}(K:PySem.W.KdlSrc prog w T r d n P OK)(hh:A.handled=none)(hok:OK s.heap)(hn:n<=sizeLine)
  (hQ:∀h' tk' items,(∀b o,s.heap.get? b=some o->h'.get? b=some o)->s.heap.objs.size<=h'.objs.size->items.length=n->(∀(i:Nat) v,items[i]?=some v->P i v)->Q items {s with heap:=h',toks:=tk'}):wpAny (model prog w) A (collect (.ref r)) Q E s:=by
 obtain⟨lr,ld⟩:=K.there _ hok
 unfold collect
 refine wpAny_bind (wpAny_runValue (codeAny_builtin PySem.F.entry_proto_collect ?_))
 rw[Around.under_plainId PySem.F.plain_proto_collect _]
 show wpAny _ A.in1 (newList []>>=fun l=>again (.builtin "list.__iadd__" ⟨[l, .ref r],[]⟩)) _ _ s
 refine wpAny_bind (wpAny_newObj_type ?_)
 refine wpAny_pure ⟨plainId_quiet PySem.F.plain_list_iadd _,codeAny_builtin PySem.F.entry_list_iadd ?_⟩
 rw[Around.under_plainId PySem.F.plain_list_iadd _]
 have gL:(s.heap.push ({cls:= .type "list",data:= .seq ([]:List Value).toArray}:Obj)).get? s.heap.objs.size=some {cls:= .type "list",data:= .seq ([]:List Value).toArray}:=Heap.get?_push_size _ rfl
 show wpAny _ A.in1 (Builtin.List.listExtendWith (.ref s.heap.objs.size) (.ref r) (.ref s.heap.objs.size)) _ _ {s with heap:=s.heap.push ({cls:= .type "list",data:= .seq ([]:List Value).toArray}:Obj)}
 refine PySem.W.kdl_extend (A:=A) (R:=fun r s'=>match r with
    | .ok (.ret v)=>wpAny (model prog w) A (match v with| .ref x=>(do match(<-load x).data with| .seq xs _=>pure xs.toList|_=>unsupported "internal:collect")|_=>unsupported "internal:collect") Q E s'
    | .ok _=>False
    | .error e=>E e s') (s:={s with heap:=s.heap.push ({cls:= .type "list",data:= .seq ([]:List Value).toArray}:Obj)}) K hh (K.keep _ _ hok fun b _ o e=>Heap.get?_push_of_some _ e) s.heap.objs.size (Nat.ne_of_gt lr) (Nat.ne_of_gt ld) _ _ gL (fun h' tk acc' c' hk hS hacc=>?_) hn
 refine wpAny_bind (wpAny_load hS (wpAny_pure ?_))
 refine hQ h' tk acc'.toList (fun b o e=>hk b o (Nat.ne_of_lt (Heap.lt_size e)) (Heap.get?_push_of_some _ e)) (Nat.le_of_lt (Heap.lt_size hS)) (by rw[Array.length_toList];exact hacc.1) fun i v e=>hacc.2 i v (by rw[<-Array.getElem?_toList];exact e)
theorem Sh{a:Addr}{vs:List (Key×Value)}{ms:List Int}{Q:Value->Shared->Prop}(hh:A.handled=none)(lo:(a==sysModules)=false)(hd:s.heap.DictOf (cT prog w) a vs)(hk:vs.map (·.1)=ms.map Sum.inl)(h64:ms.length<64)
    (h:∀h' tk' (l:Addr) (out:List Value) (ns:List Int) (e:Nat),(∀b o,s.heap.get? b=some o->h'.get? b=some o)->s.heap.objs.size<=l->h'.get? l=some (seqObj "list" out.toArray e)->IntsAre out ns->ns.Pairwise (· <= ·)->ns.Perm ms->
      Q (.ref l) {s with heap:=h',toks:=tk'}):wpAny (model prog w) A (call (.builtin "sorted") [.ref a]) Q E s:=by
  obtain⟨ep,hat⟩:=hd.dictAt
  have hvl:vs.length=ms.length:=by have:=congrArg List.length hk;simpa using this
  refine Calls.call_function_entry kind_sorted plain_sorted entry_sorted (args_sorted1 _) ?_
  unfold Builtin.«sorted»
  refine wpAny_bind (m:=checkCount "sorted" 1 1 _) (wpAny_pure (wpAny_bind ?_))
  refine Jo (A:=A.in1) (PySem.W.kdl_dict lo) hh hat (by rw[hvl];exact Nat.le_trans (Nat.le_of_lt h64) (by decide)) fun h1 wu items k1 k2 hil hit=>?_
  have hI:IntsAre items ms:=by
    have key:∀(its:List Value) (us:List (Key×Value)) (ms:List Int),us.map (·.1)=ms.map Sum.inl->its.length=us.length->(∀(i:Nat) v,its[i]?=some v->∃k x,us[i]?=some (k,x)/\(cT prog w).is k v=true)->IntsAre its ms:=by
      intro its
      induction its with
      | nil =>
        intro us ms e l _
        cases us with
        | nil => cases ms with
          |nil=>exact .nil
          |cons _ _=>cases e
        |cons _ _=>cases l
      | cons v its ih =>
        intro us ms e l hp
        cases us with
        |nil=>cases l
        | cons u us => cases ms with
          |nil=>cases e
          | cons m ms =>
            have e1:u.1=Sum.inl m:=by injection e
            have e2:us.map (·.1)=ms.map Sum.inl:=by injection e
            obtain⟨k,x,q1,q2⟩:=hp 0 v rfl
            have q1:u=(k,x):=by simpa using q1
            subst q1
            have e1:k=Sum.inl m:=e1
            subst e1
            obtain⟨t,rfl⟩:=Value.isInt_shape (k:=m) (v:=v) q2
            exact .cons m t (ih us ms e2 (by simpa using l) fun i v q=>by simpa using hp (i+1) v (by simpa using q))
    exact key items vs ms hk hil hit
  have hlen:items.length=ms.length:=by rw[hil,hvl]
  refine wpAny_bind (wpAny_newList ?_)
  have gL:(h1.push (seqObj "list" items.toArray 0)).get? h1.objs.size=some (seqObj "list" items.toArray 0):=Heap.get?_push_size _ rfl
  refine wpAny_bind (wpAny_holding (wpAny_call_entry slot_list_sort ⟨_,gL,rfl⟩ entry_list_sort (list_sort_tree gL hI (by omega) fun out ns' a1 a2 a3=>⟨_,rfl,?_⟩) (args_list_sort _)))
  obtain⟨e,he⟩:=sortedHeap_at (out:=out) gL
  refine wpAny_pure ⟨_,rfl,h _ wu h1.objs.size out.toList ns' e (fun b o q=>?_) k2 (by simpa using he) a1 a3 a2⟩
  have lb:=Heap.lt_size (k1 b o q)
  rw[sortedHeap_old (Nat.ne_of_lt lb) (by rw[Heap.size_push];exact Nat.lt_succ_of_lt lb)]
  exact Heap.get?_push_of_some _ (k1 b o q)
end
def nP:List V->Hp->VK->Prop:=fun xs H Q=>∃a,∃kvs:List (Key×V),∃ms:List Int,xs=[.ref a]/\Rd H a (.dK kvs)/\kvs.map (·.1)=ms.map Sum.inl/\ms.length<64/\
 ∀l (rs:List Int),H l=none->rs.Pairwise (· <= ·)->rs.Perm ms->Q (.ref l) (upd H l (.lst (rs.map V.int)))
theorem vO{X:Cx}(hc:X.calm=true):dB X (.builtin "sorted") nP:=by
 intro pins s σ H xs us Q I rv h
 obtain⟨a,kvs,ms,rfl,hH,hk,h64,q⟩:=h
 obtain⟨u,rfl,ru⟩:=vals1 rv
 cases ru
 obtain⟨z,hd,vs,rel,dd⟩:=kF I.hok hH
 refine Sh (I.ok.hd hc) hd dd (by rw[<-rel.keys];exact hk) h64 fun h' tk' l out ns e kp hl gl hI pw pp=>?_
 have new:bK X.prog X.w (upd H l (.lst (ns.map V.int))) h' l (.lst (ns.map V.int)):=by
  refine⟨?_,out,e,zQ hI,gl⟩
  rw[List.length_map,pp.length_eq];exact Nat.le_trans (Nat.le_of_lt h64) (by decide)
 exact⟨.ref l,_,I.laid (t':=tk') kp hl new,rfl,q _ _ (I.hok.fresh hl) pw pp⟩
section
variable{X:Cx}
def xW:R2:=fun x y H Q=>∃a kvs k v,x= .ref a/\y=kV k/\Rd H a (.dK kvs)/\dQ kvs k=some v/\Q v H
theorem YV:iQ X xW:=by
 intro value slice pins s σ H x y v u Q I rx ry h hs
 obtain⟨a,kvs,k,z,rfl,rfl,hH,hv,q⟩:=h
 cases rx
 obtain⟨hz,hd,vs,rel,dd⟩:=kF I.hok hH
 have hT:=dd.typeIs (s:=s)
 obtain⟨w',hw,rw'⟩:=eK.some_of (v:=z) (o:=valueAt vs k) (by rw[<-hv];exact rel.val k)
 unfold subscriptTail
 refine wpAny_bind ?_
 rw[getitemInPython_of_ne hT.not_modules]
 refine wpAny_bind (wpAny_specialOf hT PySem.F.slot_dict_getitem.lookup ?_)
 have fin:wpAny (model X.prog X.w) X.A (subscripted slice false (.ref a) u) (fun r s₃=>wpAny (model X.prog X.w) X.A (letTemporaryGo value (.ref a) r>>=fun _=>pure r) (EP X pins σ Q) X.xe s₃) X.xe s:=by
  rw[hs]
  refine wpAny_operating (wpAny_getItem_of (jm ry) dd.mapOf hw ?_)
  exact wpAny_bind (wpAny_letTemporaryGo (wpAny_pure ⟨z,H,I.tok _,rw',q⟩))
 first
  |exact wpAny_pure (wpAny_bind fin)
  |exact wpAny_bind (wpAny_pure (wpAny_bind fin))
  |exact wpAny_bind fin
def CM:V->V->V->Hp->(Hp->Prop)->Prop:=fun o i v H Q=>∃a kvs k,o= .ref a/\i=kV k/\H a=some (.dK kvs)/\kvs.length<sizeLine/\Q (upd H a (.dK (putK kvs k v)))
theorem set_dict:qP X CM:=by
 intro pins s σ H o i v ov iv u Q I ro ri rv h
 obtain⟨a,kvs,k,rfl,rfl,hH,hl0,q⟩:=h
 cases ro
 obtain⟨z,hd,vs,rel,dd⟩:=pJ I.hok hH
 have hz:vs.length<=sizeLine:=by rw[<-rel.length];exact z
 have hl:(putK kvs k v).length<=sizeLine:=by have:=Ig kvs k v;omega
 refine wpAny_setItem_pairs (hsz:=hz) (jm ri) dd fun h' jP hs=>?_
 have he:∃q,h'.get? a=some q:=let ⟨q,_,_,hq,_⟩:=jP;⟨q,hq⟩
 exact⟨_,uM I (by rw[hH];exact True.intro) hs he (tR hl hd (rel.put k rv) jP),q⟩
def DK:V->List V->Hp->VK->Prop:=fun x vs H Q=>∃a kvs k d,x= .ref a/\vs=[kV k,d]/\Rd H a (.dK kvs)/\Q ((dQ kvs k).getD d) H
theorem Y8:oB X "dict.get" DK:=by
  intro pins s σ H x xs v us Q I rx rv h
  obtain⟨a,kvs,k,d,rfl,rfl,hH,q⟩:=h
  cases rx
  cases rv with
  | cons r1 r2 =>
    obtain⟨r,rfl,rd⟩:=vals1 r2
    obtain⟨z,hd,vs,rel,dd⟩:=kF I.hok hH
    refine call_meetsIn PySem.F.slot_dict_get dd.typeIs PySem.F.entry_dict_get (PySem.F.args_dict_get_3 _ _ _) (meets_dict_get_default (cT X.prog X.w) a (jm r1) hd r) ⟨_,dd.mapOf,?_⟩
    exact⟨_,H,I.tok _,(rel.val k).getD rd,q⟩
end
end L2
set_option maxRecDepth 100000
set_option maxHeartbeats 4000000
set_option maxRecDepth 100000
set_option maxHeartbeats 4000000
namespace L2
abbrev Cn:=List (Int×Int)
structure FN(cs:Cn):Prop where
 jT:∀c∈cs,0<=c.1/\c.1<=12/\0<=c.2/\c.2<=10^7
 nd:(cs.map (·.1)).Nodup
 len:cs.length<=14
 pos:∃c∈cs,0<c.1/\0<c.2
def Iw:Cn->Rat->Rat
 |[],_=>0
 |c::r,v=>(if 0<c.1 then((c.1*c.2:Int):Rat)*v^(c.1.toNat-1) else 0)+Iw r v
def Ga:Cn->Int
 |[]=>0
 |c::r=>c.1*c.2+Ga r
def HJ(cs:Cn)(v:Rat):Rat:=Iw cs v/(Ga cs:Int)
def V7(l c:Cn)(s v:Rat):Rat:=s*HJ l (1-HJ c (1-v))
section
variable{l c:Cn}{s:Rat}(hl:FN l)(hc:FN c)(s0:0<=s)
include hl hc s0
end
def G7(x:Rat):Int:= -((-x).floor)
end L2
namespace L2
structure Gw where
 l:Cn
 c:Cn
 s:Rat
 u:Int
def Gw.gr(g:Gw)(x:Int):Rat:=V7 g.l g.c g.s ((x:Rat)/g.u)*g.u
def Gw.lo(g:Gw):Nat->Int
 |0=>(g.s*g.u).floor
 |k+1=>(g.gr (g.lo k)).floor
def Gw.hi(g:Gw):Nat->Int
 |0=>G7 (g.s*g.u)
 |k+1=>G7 (g.gr (g.hi k))
end L2
set_option maxRecDepth 100000
set_option maxHeartbeats 4000000
namespace L2
open PySem PySem.Spec PyProof.Rows
@[reducible] def bdD(g:Gw)(k:Nat):PyData:= .tuple [.int (g.lo k), .int (g.hi k)]
@[reducible] def aa2(n:Nat):PyData:= .tuple [.str "falls", .int n]
@[reducible] def aav(x:Int):PyData:= .tuple [.str "stays", .int x]
@[reducible] def aba:PyData:= .tuple [.str "open"]
section
variable{prog:Program}{w:World}{A:Around}{E:Value->Shared->Prop}{s:Shared}
theorem Dg{it t:Addr}{items:Array Value}(hne:t≠it):∀(n i:Nat) (s:Shared) (Q:List Value->Shared->Prop),s.heap.IsListIter it t i->s.heap.IsList t items->i+n<=items.size->
    (∀h',h'.IsListIter it t (i+n)->Heap.SameBut it s.heap h'->Q ((items.toList.drop i).take n) {s with heap:=h'})->wpAny (model prog w) A (draw (.ref it) n) Q E s
  | 0, i, s, Q, hit, _, _, hQ => by
    show wpAny _ _ (pure []) Q E s
    exact wpAny_pure (by simpa using hQ s.heap hit (Heap.SameBut.refl ..))
  | n + 1, i, s, Q, hit, ht, hle, hQ => by
    have hlt:i<items.size:=by omega
    show wpAny _ _ (pyNext (.ref it)>>=_) Q E s
    refine wpAny_bind (wpAny_pyNext_list_item hit ht (x:=items[i]) (by simp[hlt]) fun h₁ BG hs₁=>?_)
    refine wpAny_bind (wpAny_holding (Dg hne n (i+1) _ _ BG (ht.at fun o e=>(hs₁.2 t hne).trans e) (by omega) fun h₂ YI hs₂=>wpAny_pure ?_))
    have hd:items.toList.drop i=items[i]::items.toList.drop (i+1):=by simp[List.drop_eq_getElem_cons,hlt]
    have:=hQ h₂ (by rw[show i+(n+1)=i+1+n by omega];exact YI) (hs₁.trans hs₂)
    rw[hd,List.take_succ_cons] at this
    exact this
theorem Jy{t:Addr}{items:Array Value}{Q:List Value->Shared->Prop}(hh:A.handled=none)(ht:s.heap.IsList t items)
  (hQ:∀h',Heap.ExtBut s.heap.objs.size s.heap h'->Q items.toList {s with heap:=h'}):wpAny (model prog w) A (unpackItems (.ref t) items.size none) Q E s:=by
 have hlt:t≠s.heap.objs.size:=by obtain⟨o,ho,_⟩:=ht;exact Nat.ne_of_lt (Heap.lt_size ho)
 unfold unpackItems
 refine wpAny_bind ?_
 ·unfold notIterableAtAll
  refine wpAny_bind (wpAny_specialOf ht.typeIs F.slot_list_iter.lookup ?_)
  refine wpAny_pure ?_
  simp only[Bool.false_eq_true,if_false]
  refine wpAny_bind (wpAny_holding (wpAny_pyIter_list ht ?_))
  refine wpAny_bind (wpAny_holding (Dg hlt items.size 0 _ _ ⟨_,Heap.get?_push_size _ rfl,rfl,rfl⟩ (ht.push _) (by omega) fun h₁ BG hs₁=>?_))
  have hall:List.take items.size (List.drop 0 items.toList)=items.toList:=by
   rw[List.drop_zero];exact List.take_of_length_le (by simp)
  rw[hall]
  rw[if_neg (by simp)]
  have ht₁:h₁.IsList t items:=(ht.push _).at fun o e=>(hs₁.2 t hlt).trans e
  refine wpAny_bind (wpAny_holding (wpAny_pyNext_list_end hh BG ht₁ (by simp) fun h₂ OC=>?_))
  simp only[Option.isSome_none,Bool.false_eq_true,if_false]
  refine wpAny_pure (hQ h₂ fun b o hb e=>OC b o hb (hs₁.extBut b o hb (Heap.get?_push_of_some _ e)))
theorem Q0{env:Env}{elts:List Expr}{x1}{pos:Pos}{t:Addr}{items:Array Value}{Q:Unit->Shared->Prop}(hh:A.handled=none)(ht:s.heap.IsList t items)
  (hn:(assignEach elts env).length=items.size) (hstar:(assignEach elts env).findIdx? (·.1)=none)
  (h:∀h',Heap.ExtBut s.heap.objs.size s.heap h'->wpAny (model prog w) A (assignInOrder ((assignEach elts env).map (·.2)) items.toList) Q E {s with heap:=h'}):
  wpAny (model prog w) A (assign (.Tuple elts x1 pos) env (.ref t)) Q E s:=by
 rw[assign_Tuple]
 refine wpAny_bind (wpAny_standAt ?_)
 unfold unpack
 rw[hn,hstar]
 exact wpAny_bind (wpAny_holding (Jy hh ht h))
end
def C1(K:PySem.W.Frag)(n:Nat)(t:fN):TG:=fun v σ H Q=>∃a xs,v= .ref a/\aQ K H a xs/\xs.length=n/\t xs σ H Q
theorem Lh{X:Cx}{K:PySem.W.Frag}{es:List Expr}{k:Nat}{t:fN}{n:Nat}{pos:Pos}(hK:X.K=K)(hc:X.calm=true)(h:nX X es t)(hn:(assignEach es X.env).length=n:=by rfl)(hst:(assignEach es X.env).findIdx? (·.1)=none:=by rfl):PG X (.Tuple es k pos) (C1 K n t):=by
 subst hK
 intro pins s σ H v u Q I r hw
 obtain⟨a,xs,e1,hq,hl,hw⟩:=hw
 subst e1
 cases r
 obtain⟨its,rv,ht,hz⟩:=I.list hq
 refine Q0 (I.ok.hd hc) ht.isList (by simp[hn,<-hl,rv.length]) hst fun h' hx=>?_
 have I1:Inv X pins σ H {s with heap:=h'}:=I.kept (t':=s.toks) fun b o e=>hx b o (Nat.ne_of_lt (Heap.lt_size e)) e
 exact h pins _ σ H xs _ Q I1 (by simpa using rv) hw
theorem Gv.lst{G:Gx}{ρ:Rh}{f:Bool}{ds:List PyData}{K:PySem.W.Frag}{Θ:Rh->Prop}{n:Nat}{u:fN}(hl:ds.length=n)(h:jO G ρ u f ds Θ):Gv G ρ (C1 K n u) f (.list ds) Θ:=fun nb σ H v Q W hv z=>by
 obtain⟨a,xs,rfl,m,hx,hd⟩:=hv.cU
 exact⟨a,xs,rfl, .of hx,by rw[hd.length];exact hl,h nb σ H xs Q W hd z⟩
end L2
set_option maxRecDepth 100000
set_option maxHeartbeats 4000000
namespace L2
open PySem PySem.Spec PyProof.Rows PySem.W
section
variable{n:Nat}{cmp:Nat->Nat->(Bool->Shared->Prop)->Shared->Prop}{s:Shared}
variable(h0:0<n)(hc:∀i j C,i<n->j<n->(∀b,C b s)->cmp i j C s)
include h0 hc
end
end L2
set_option maxRecDepth 100000
set_option maxHeartbeats 4000000
namespace L2
open PySem PySem.Spec PyProof.Rows PySem.W
section
variable{n:Nat}{key:Nat->Int}{cmp:Nat->Nat->(Bool->Shared->Prop)->Shared->Prop}{s:Shared}
variable(h0:0<n)(hc:∀i j C,i<n->j<n->C (decide (key i<key j)) s->cmp i j C s)
include h0 hc
end
end L2
set_option maxRecDepth 100000
set_option maxHeartbeats 4000000
set_option maxRecDepth 100000
set_option maxHeartbeats 4000000
namespace L2
open PySem PySem.Spec PyProof.Rows
@[reducible] def aa7(l c:Cn)(u p:Int):Gw:=⟨l,c,(p:Rat)/u,u⟩
end L2
set_option maxRecDepth 100000
set_option maxHeartbeats 4000000
set_option maxRecDepth 100000
set_option maxHeartbeats 4000000
namespace L2
open PySem PySem.Spec PyProof.Rows
theorem V5:typeLookup (.type "list") "keys"=pure none:=by rw[typeLookup_type,builtinLookup_eq_fast];kernel_rfl
theorem Oe:typeLookup (.type "list") "__getattr__"=pure none:=by rw[typeLookup_type,builtinLookup_eq_fast];kernel_rfl
section
variable{prog:Program}{w:World}{A:Around}{E:Value->Shared->Prop}{h:Heap}{g:Array GenState}{d:Drawn}{t:Nat}{os:OsState}{a:Addr}{o:Obj}
theorem S5{tk:Tok}{Q:Fin->Shared->Prop}{xs:Array Value}{n:Nat}(hh:A.handled=none)(hx:h.get? a=some (seqObj "list" xs n))
  (hq:∀h' tk e,Heap.NewAttrErr h h' e (.ref a) "keys" ->E (.ref e) ⟨h',g,d,tk,os⟩):
  wpAny (model prog w) A (Builtin.«object.__getattribute__» ⟨[.ref a, .str "keys" tk],[]⟩) Q E ⟨h,g,d,t,os⟩:=by
 have hT:(⟨h,g,d,t,os⟩:Shared).TypeIs (.ref a) "list":=⟨_,hx,rfl⟩
 have f4:=V5
 unfold Builtin.«object.__getattribute__»
 repeat (any_goals (first|assumption|wp_step))
 exact wpAny_raiseAttrError hh hq (attrMsg_fits (by decide+kernel) (by size_fits))
theorem WB{tk:Tok}{R:Result->Shared->Prop}{xs:Array Value}{n:Nat}(hh:A.handled=none)(hx:h.get? a=some (seqObj "list" xs n))(hq:∀h' tk e,Heap.NewAttrErr h h' e (.ref a) "keys" ->R (.error (.ref e)) ⟨h',g,d,tk,os⟩):
  codeAny (model prog w) A (.call (.builtin "list.__getattribute__") ⟨[.ref a, .str "keys" tk],[]⟩) R ⟨h,g,d,t,os⟩:=
 codeAny_call_builtin PySem.F.slot_list_getattribute.plain PySem.F.entry_list_ga (PySem.F.slot_list_getattribute.check _ _ _ _ _ _ _ _ (show(⟨h,g,d,t,os⟩:Shared).TypeIs (.ref a) "list" from⟨_,hx,rfl⟩) (PySem.F.args_list_getattribute_2 _ _) (S5 (by exact hh) hx hq))
theorem Jj{Q:Option Value->Shared->Prop}{xs:Array Value}{n:Nat}(hh:A.handled=none)(hx:h.get? a=some (seqObj "list" xs n))
  (hq:∀h' tk,(∀b ob,h.get? b=some ob->h'.get? b=some ob)->Q none ⟨h',g,d,tk,os⟩):wpAny (model prog w) A (getAttr? (.ref a) "keys") Q E ⟨h,g,d,t,os⟩:=by
 have hT:(⟨h,g,d,t,os⟩:Shared).TypeIs (.ref a) "list":=⟨_,hx,rfl⟩
 have f1:=sub_AttributeError
 have f2:=PySem.F.slot_list_getattribute.lookup
 have f3:=PySem.F.slot_list_getattribute.bind (.ref a)
 have f5:=Oe
 unfold getAttr? getAttrBy? getAttrBy
 repeat (any_goals (first|assumption|wp_step))
 refine WB hh hx fun h' tk e hx'=>?_
 obtain⟨t',u',he⟩:=hx'.there
 unfold getattributeRaised
 repeat (any_goals (first|assumption|wp_step))
 exact hq _ _ hx'.keeps
end
end L2
set_option maxRecDepth 100000
set_option maxHeartbeats 4000000
namespace L2
open PySem PySem.Spec PyProof.Rows
theorem G1:entryFor table "dict.update.loop"=some Builtin.«dict.update.loop» :=entryFor_of_tree (by kernel_rfl)
theorem qu:plainId "dict.update.loop"=true:=by decide+kernel
def rW(P:Program)(w:World)(h:Heap)(v:Value)(p:Key×Value):Prop:=∃a o m ku,v= .ref a/\h.get? a=some o/\o.cls= .type "tuple" /\o.data= .seq #[ku,p.2] m/\(cT P w).is p.1 ku=true
section
variable{prog:Program}{w:World}{A:Around}{E:Value->Shared->Prop}{s:Shared}
theorem ZA{R:Result->Shared->Prop}{d it l:Addr}{its:List Value}{ps:List (Key×Value)}(hh:A.in1.handled=none)(hdl:d≠l)(hdi:d≠it)(hil:l≠it)(hlen:its.length=ps.length)(hsz:its.length<=10000):
    ∀(k i:Nat) (s:Shared) (t:Tok),its.length-i=k->i<=its.length->s.heap.IsListIter it l i->s.heap.IsList l its.toArray->(∀(j:Nat) (v:Value) (p:Key×Value),its[j]?=some v->ps[j]?=some p->rW prog w s.heap v p)->(∀(j:Nat) (v:Value),its[j]?=some v->v≠Value.ref d/\v≠Value.ref it)->
      s.heap.DictOf (cT prog w) d (merged [] (ps.take i))->(merged [] (ps.take i)).length<=i->
      (∀h' tk,(∀b o,b≠d->b≠it->s.heap.get? b=some o->h'.get? b=some o)->h'.DictOf (cT prog w) d (merged [] ps)->R (.ok (.ret .none)) {s with heap:=h',toks:=tk})->
      codeAny (model prog w) A (.builtin "dict.update.loop" ⟨[.ref d, .ref it, .int i t, .none],[]⟩) R s:=by
  intro k
  induction k with
  | zero =>
    intro i s t hk hi hit hl hp hne hD rG hR
    have hin:i=its.length:=by omega
    subst hin
    refine codeAny_builtin G1 ?_
    rw[Around.under_plainId qu _]
    show wpAny _ A.in1 (pyNext (.ref it)>>=_) _ _ s
    refine wpAny_bind (wpAny_pyNext_list_end hh hit hl (by simp) fun h' he=>?_)
    show wpAny _ A.in1 (ret Value.none) _ _ _
    rw[hlen,List.take_length] at hD
    exact wpAny_pure (hR h' s.toks (fun b o _ n e=>he b o n e) (hD.extBut he hdi))
  | succ k ih =>
    intro i s t hk hi hit hl hp hne hD rG hR
    have hlt:i<its.length:=by omega
    obtain⟨v,hv⟩:∃v,its[i]?=some v:=⟨_,List.getElem?_eq_getElem hlt⟩
    obtain⟨p,hpp⟩:∃p,ps[i]?=some p:=⟨_,List.getElem?_eq_getElem (by omega)⟩
    obtain⟨hn1,hn2⟩:=hne i v hv
    obtain⟨a,o,m,ku,rfl,g1,g2,g3,g4⟩:=hp i v p hv hpp
    have had:a≠d:=fun z=>hn1 (by rw[z])
    have hai:a≠it:=fun z=>hn2 (by rw[z])
    refine codeAny_builtin G1 ?_
    rw[Around.under_plainId qu _]
    show wpAny _ A.in1 (pyNext (.ref it)>>=_) _ _ s
    refine wpAny_bind (wpAny_pyNext_list_item hit hl (x:= .ref a) (by simpa using hv) fun h1 SR xG=>?_)
    have mU:h1.get? a=some o:=(xG.2 a hai).trans g1
    have hT:(⟨h1,s.gens,s.drawn,s.toks,s.os⟩:Shared).TypeIs (.ref a) "tuple":=⟨o,mU,g2⟩
    show wpAny _ A.in1 (holding [Value.ref a] _>>=_) _ _ _
    refine wpAny_bind (wpAny_holding (wpAny_bind (wpAny_tryCatch ?_)))
    show wpAny _ A.in1 (Builtin.Dict.pairItems (.ref a)) _ _ _
    unfold Builtin.Dict.pairItems
    refine wpAny_bind (wpAny_typeOf hT ?_)
    rw[if_pos (by decide)]
    refine wpAny_bind (wpAny_seqItems mU g3 (wpAny_pure ?_))
    show wpAny _ A.in1 (holding [ku,p.2] (dictSet d ku p.2)) _ _ _
    have n5:h1.DictOf (cT prog w) d (merged [] (ps.take i)):=hD.sameBut xG hdi
    refine wpAny_holding (wpAny_dictSet_pairs (s:=⟨h1,s.gens,s.drawn,s.toks,s.os⟩) g4 n5 (fun h2 nD EF=>?_) (Nat.le_trans rG (Nat.le_trans hi (Nat.le_trans hsz (by decide)))))
    have e:stored (merged [] (ps.take i)) p.1 p.2=merged [] (ps.take (i+1)):=by rw[take_snoc hpp];unfold merged;rw[List.foldl_append];rfl
    rw[e] at nD
    have kk:∀b o,b≠d->b≠it->s.heap.get? b=some o->h2.get? b=some o:=fun b o n1 n2 z=>(EF.2 b n1).trans ((xG.2 b n2).trans z)
    refine wpAny_pure ⟨plainId_quiet qu _,ih (i+1) ⟨h2,s.gens,s.drawn,s.toks+1,s.os⟩ _ (by omega) hlt ?_ ?_ ?_ hne nD ?_ fun h' tk k' j4=>?_⟩
    · exact SR.at fun o z=>(EF.2 it (Ne.symm hdi)).trans z
    · exact hl.at fun o z=>kk l o (Ne.symm hdl) hil z
    · intro j v' p' hv' hp'
      obtain⟨hn1,hn2⟩:=hne j v' hv'
      obtain⟨a,o,m,ku,rfl,q1,q2,q3,q4⟩:=hp j v' p' hv' hp'
      exact⟨a,o,m,ku,rfl,kk a o (fun z=>hn1 (by rw[z])) (fun z=>hn2 (by rw[z])) q1,q2,q3,q4⟩
    · rw[<-e]
      unfold stored
      split
      · rw[List.length_map];omega
      · rw[List.length_append,List.length_singleton];omega
    · exact hR h' tk (fun b o n1 n2 z=>k' b o n1 n2 (kk b o n1 n2 z)) j4
theorem T7{l:Addr}{its:List Value}{n:Nat}{ps:List (Key×Value)}{Q:Value->Shared->Prop}(hh:A.handled=none)(hlo:s.heap.get? l=some (seqObj "list" its.toArray n))(hlen:its.length=ps.length)(hsz:its.length<=10000)
  (hp:∀(j:Nat) (v:Value) (p:Key×Value),its[j]?=some v->ps[j]?=some p->rW prog w s.heap v p)
  (h:∀h' tk,h'.DictOf (cT prog w) s.heap.objs.size (merged [] ps)->(∀b o,s.heap.get? b=some o->h'.get? b=some o)->Q (.ref s.heap.objs.size) {s with heap:=h',toks:=tk}):
  wpAny (model prog w) A (call (.type "dict") [.ref l]) Q E s:=by
 refine callType_codes (Q₁:=fun obj s₁=>obj= .ref s.heap.objs.size/\s₁={s with heap:=s.heap.push {cls:= .type "dict",data:= .dict #[]}}) PySem.F.kt_called_dict (PySem.F.kt_typeCall_dict_1 _) PySem.F.entry_dict_init (kt_code_dict_new _ ⟨rfl,rfl⟩) ?_
 rintro obj s₁ ⟨rfl,rfl⟩
 have hnew:(s.heap.push {cls:= .type "dict",data:= .dict #[]}).DictOf (cT prog w) s.heap.objs.size []:=Heap.DictOf.new s.heap
 have hl1:(s.heap.push {cls:= .type "dict",data:= .dict #[]}).get? l=some (seqObj "list" its.toArray n):=Heap.get?_push_of_some _ hlo
 have oW:l<s.heap.objs.size:=Heap.lt_size hlo
 refine⟨hnew.typeIs,PySem.F.args_dict_init_2 _ _,?_⟩
 unfold Builtin.«dict.__init__»
 refine wpAny_bind ?_
 unfold Builtin.Dict.selfAndRest
 refine wpAny_bind (wpAny_notOrdered_dict hnew.typeIs ?_)
 show wpAny _ _ (pure (s.heap.objs.size,[Value.ref l])) _ _ _
 refine wpAny_pure ?_
 show wpAny _ _ (Builtin.Dict.updateFrom "dict.__init__" s.heap.objs.size (.ref l) [] .none) _ _ _
 unfold Builtin.Dict.updateFrom
 refine wpAny_bind (wpAny_typeOf (T:="list") ⟨_,hl1,rfl⟩ ?_)
 rw[if_pos (by decide)]
 refine wpAny_bind (Jj (A:=A.in1.in1) hh hl1 fun h1 tk k1=>?_)
 rw[if_pos (show(none:Option Value).isNone=true from rfl)]
 refine wpAny_bind (wpAny_rule (wpAny_bind ?_))
 have hl2:h1.get? l=some (seqObj "list" its.toArray n):=k1 _ _ hl1
 have n5:h1.DictOf (cT prog w) s.heap.objs.size []:=let ⟨o',es,ep,ho,r⟩:=hnew;⟨o',es,ep,k1 _ _ ho,r⟩
 have hs1:s.heap.objs.size<h1.objs.size:=by obtain⟨o',es,ep,ho,_⟩:=n5;exact Heap.lt_size ho
 have BY:h1.IsList l its.toArray:=⟨_,hl2,rfl,n,rfl⟩
 refine wpAny_pyIter_list BY ?_
 refine wpAny_pure ⟨plainId_quiet qu _,?_⟩
 refine ZA (A:=A.in1) (its:=its) (ps:=ps) hh (Ne.symm (Nat.ne_of_lt oW)) (Nat.ne_of_lt hs1) (Nat.ne_of_lt (Nat.lt_trans oW hs1)) hlen hsz its.length 0 _ _ (by omega) (Nat.zero_le _) ⟨_,Heap.get?_push_size _ rfl,rfl,rfl⟩ (BY.push _) ?_ ?_ (n5.push _) (Nat.le_refl _) fun h' tk' k' j4=>?_
 ·intro j v p hv hpp
  obtain⟨a,o,m,ku,rfl,q1,q2,q3,q4⟩:=hp j v p hv hpp
  exact⟨a,o,m,ku,rfl,Heap.get?_push_of_some _ (k1 _ _ (Heap.get?_push_of_some _ q1)),q2,q3,q4⟩
 ·intro j v hv
  obtain⟨p,hpp⟩:∃p,ps[j]?=some p:=⟨_,List.getElem?_eq_getElem (by have:=(List.getElem?_eq_some_iff.mp hv).1;omega)⟩
  obtain⟨a,o,m,ku,rfl,q1,_⟩:=hp j v p hv hpp
  have la:=Heap.lt_size q1
  refine⟨fun z=>?_,fun z=>?_⟩
  ·cases z;exact absurd la (Nat.lt_irrefl _)
  ·have z':a=h1.objs.size:=by cases z;rfl
   rw[z'] at la
   exact absurd (Nat.lt_trans la hs1) (Nat.lt_irrefl _)
 ·refine⟨rfl,h h' tk' j4 fun b o z=>?_⟩
  have lb:=Heap.lt_size z
  exact k' b o (Nat.ne_of_lt lb) (Nat.ne_of_lt (Nat.lt_trans lb hs1)) (Heap.get?_push_of_some _ (k1 _ _ (Heap.get?_push_of_some _ z)))
end
def wm:List V->Hp->VK->Prop:=fun xs H Q=>∃(l:Addr) (ys:List V) (kvs:List (Key×V)),xs=[.ref l]/\H l=some (.lst ys)/\ys.length=kvs.length/\ys.length<=10000/\
 (∀(j:Nat) (y:V) (p:Key×V),ys[j]?=some y->kvs[j]?=some p->∃a,y= .ref a/\H a=some (.tup [kV p.1,p.2]))/\∀d,H d=none->Q (.ref d) (upd H d (.dK (jU [] kvs)))
theorem SS{X:Cx}(hc:X.calm=true):dB X (.type "dict") wm:=by
  intro pins s σ H xs us Q I rv h
  obtain⟨l,ys,kvs,rfl,hH,hlen,hsz,hy,q⟩:=h
  obtain⟨u,rfl,ru⟩:=vals1 rv
  cases ru
  obtain⟨_,its,n,rs,h1⟩:=(show bK X.prog X.w H s.heap l (.lst ys) from I.hok l _ hH)
  have hli:=rs.length
  have key:∃ps:List (Key×Value),KV kvs ps/\∀(j:Nat) (v:Value) (p:Key×Value),its[j]?=some v->ps[j]?=some p->rW X.prog X.w s.heap v p:=by
    have gen:∀(ys:List V) (its:List Value) (kvs:List (Key×V)),Vals ys its->ys.length=kvs.length->(∀(j:Nat) (y:V) (p:Key×V),ys[j]?=some y->kvs[j]?=some p->∃a,y= .ref a/\H a=some (.tup [kV p.1,p.2]))->∃ps:List (Key×Value),KV kvs ps/\∀(j:Nat) (v:Value) (p:Key×Value),its[j]?=some v->ps[j]?=some p->rW X.prog X.w s.heap v p:=by
      intro ys
      induction ys with
      | nil =>
        intro its kvs r e _
        cases r
        cases kvs with
        |nil=>exact⟨[], .nil,fun j v p z=>by simp at z⟩
        |cons _ _=>cases e
      | cons y ys ih =>
        intro its kvs r e hq
        cases r with
        | cons r1 r2 =>
          cases kvs with
          |nil=>cases e
          | cons kv kvs =>
            obtain⟨ps,g1,g2⟩:=ih _ kvs r2 (by simpa using e) fun j y p a b=>hq (j+1) y p (by simpa using a) (by simpa using b)
            obtain⟨a,rfl,ha⟩:=hq 0 y kv rfl rfl
            cases r1
            obtain⟨_,its2,Vj,o,w1,w2,m,w3⟩:=(show bK X.prog X.w H s.heap a (.tup [kV kv.1,kv.2]) from I.hok a _ ha)
            cases Vj with
            | cons x1 x2 =>
              cases x2 with
              | cons y1 y2 =>
                cases y2
                refine⟨(kv.1,_)::ps, .cons ⟨rfl,y1⟩ g1,fun j v p a b=>?_⟩
                cases j with
                | zero =>
                  simp at a b
                  subst a b
                  exact⟨_,o,m,_,rfl,w1,w2,w3,jm x1⟩
                |succ j=>exact g2 j v p (by simpa using a) (by simpa using b)
    exact gen ys its kvs rs hlen hy
  obtain⟨ps,rel,hps⟩:=key
  have hpl:=rel.length
  refine T7 (I.ok.hd hc) h1 (by omega) (by omega) hps fun h' tk' hD k=>?_
  have hml:=Il kvs []
  have new:bK X.prog X.w (upd H s.heap.objs.size (.dK (jU [] kvs))) h' s.heap.objs.size (.dK (jU [] kvs)):=by
    refine tR (Nat.le_trans hml (Nat.le_trans (show _<=10000 by simp;omega) (by decide))) ?_ (rel.merge .nil) hD
    have hb:=I.big
    have:s.heap.objs.size≠sysModules:=Nat.ne_of_gt hb
    simpa using this
  exact⟨.ref s.heap.objs.size,_,I.laid (t':=tk') k (Nat.le_refl _) new,rfl,q _ (I.hok.fresh (Nat.le_refl _))⟩
end L2
set_option maxRecDepth 100000
set_option maxHeartbeats 4000000
namespace L2
open PySem PySem.Spec PyProof.Rows
abbrev Ks:=List (Int×PyData)
def fK(ks:Ks)(k:Int):Option PyData:=(ks.find? fun p=>decide (p.1=k)).map (·.2)
def fR(ks:Ks)(k:Int):Bool:=ks.any fun p=>decide (p.1=k)
def gH(ks:Ks)(k:Int)(d:PyData):Ks:=if fR ks k then ks.map fun p=>if p.1=k then(p.1,d) else p else ks++[(k,d)]
def nj(ks:Ks)(k:Int):Ks:=ks.filter fun p=>decide (p.1≠k)
theorem DI(ks:Ks)(k:Int):(fK ks k).isSome=fR ks k:=by
  unfold fK fR
  rw[Option.isSome_map]
  induction ks with
  |nil=>rfl
  | cons p r ih =>
    rw[List.find?_cons,List.any_cons]
    by_cases h:p.1=k
    · simp[h]
    · simp only[h,decide_false,Bool.false_or];exact ih
theorem rE{ks:Ks}{k:Int}:fR ks k=true↔k∈ks.map (·.1):=by
 unfold fR
 rw[List.any_eq_true,List.mem_map]
 constructor
 ·rintro⟨p,h1,h2⟩;exact⟨p,h1,by simpa using h2⟩
 ·rintro⟨p,h1,h2⟩;exact⟨p,h1,by simpa using h2⟩
theorem U5{k:Int}:fK [] k=none:=rfl
theorem nV{p:Int×PyData}{r:Ks}{k:Int}:fK (p::r) k=if p.1=k then some p.2 else fK r k:=by
 unfold fK
 rw[List.find?_cons]
 by_cases h:p.1=k<;>simp[h]
theorem aa4{ks:Ks}{k j:Int}{d:PyData}:fK (ks++[(k,d)]) j=match fK ks j with|some x=>some x|none=>if j=k then some d else none:=by
  induction ks with
  | nil =>
    rw[List.nil_append,nV,U5]
    by_cases h:k=j
    · subst h;simp
    · have h':¬j=k:=fun z=>h z.symm
      simp[h,h']
  | cons p r ih =>
    rw[List.cons_append,nV,nV,ih]
    by_cases h:p.1=j<;>simp[h]
section
variable{S:Addr->Prop}{H:Hp}
theorem au.val:∀{ks:Ks} {ps:List (Key×V)} (k:Int),au S H (ks.map bY) ps->match fK ks k with|some d=>∃v,dQ ps (Sum.inl k)=some v/\ah S H d v|none=>dQ ps (Sum.inl k)=none
  |[],ps,k,h=>by unfold au at h;subst h;exact US
  | p :: r, ps, k, h => by
    rw[List.map_cons] at h
    unfold au at h
    obtain⟨q,qs,rfl,h1,h2⟩:=h
    unfold cC at h1
    obtain⟨h3,h4⟩:=h1
    have h3:q.1=Sum.inl p.1:=h3
    rw[nV]
    have ih:=au.val k h2
    by_cases e:p.1=k
    · rw[if_pos e]
      refine⟨q.2,?_,h4⟩
      rw[rz (by rw[h3,e])]
    · rw[if_neg e,sy (fun z=>e (by rw[h3] at z;exact Sum.inl.inj z))]
      exact ih
theorem au.snoc:∀{ks:Ks} {ps:List (Key×V)} {k:Int} {d:PyData} {v:V},au S H (ks.map bY) ps->ah S H d v->au S H ((ks++[(k,d)]).map bY) (ps++[(Sum.inl k,v)])
  | [], ps, k, d, v, h, hd => by
    unfold au at h;subst h
    show au S H [bY (k,d)] [(Sum.inl k,v)]
    unfold au
    exact⟨_,_,rfl,by unfold cC;exact⟨rfl,hd⟩,by unfold au;rfl⟩
  | p :: r, ps, k, d, v, h, hd => by
    rw[List.map_cons] at h
    unfold au at h
    obtain⟨q,qs,rfl,h1,h2⟩:=h
    rw[List.cons_append,List.map_cons,List.cons_append]
    unfold au
    exact⟨q,_,rfl,h1,au.snoc h2 hd⟩
theorem au.repl:∀{ks:Ks} {ps:List (Key×V)} {k:Int} {d:PyData} {v:V},au S H (ks.map bY) ps->ah S H d v->au S H ((ks.map fun p=>if p.1=k then(p.1,d) else p).map bY) (ps.map fun kv=>if kv.1=Sum.inl k then(kv.1,v) else kv)
  |[],ps,k,d,v,h,hd=>by unfold au at h;subst h;simp only[List.map_nil];unfold au;rfl
  | p :: r, ps, k, d, v, h, hd => by
    rw[List.map_cons] at h
    unfold au at h
    obtain⟨q,qs,rfl,h1,h2⟩:=h
    rw[List.map_cons,List.map_cons,List.map_cons]
    unfold cC at h1
    obtain⟨h3,h4⟩:=h1
    have h3:q.1=Sum.inl p.1:=h3
    unfold au
    refine⟨_,_,rfl,?_,au.repl h2 hd⟩
    by_cases e:p.1=k
    · rw[if_pos e,if_pos (by rw[h3,e])]
      unfold cC
      exact⟨h3,hd⟩
    · rw[if_neg e,if_neg (fun z=>e (by rw[h3] at z;exact Sum.inl.inj z))]
      unfold cC
      exact⟨h3,h4⟩
theorem au.any:∀{ks:Ks} {ps:List (Key×V)} (k:Int),au S H (ks.map bY) ps->(ps.any fun kv=>decide (kv.1=Sum.inl k))=fR ks k:=fun{ks ps} k h=>by
 rw[rV,<-DI]
 have:=au.val k h
 cases hv:fK ks k with
 |none=>rw[hv] at this;rw[this];rfl
 |some d=>rw[hv] at this;obtain⟨v,e,_⟩:=this;rw[e];rfl
theorem au.put{ks:Ks}{ps:List (Key×V)}{k:Int}{d:PyData}{v:V}(h:au S H (ks.map bY) ps)(hd:ah S H d v):au S H ((gH ks k d).map bY) (putK ps (Sum.inl k) v):=by
 unfold gH putK
 rw[au.any k h]
 split
 ·exact au.repl h hd
 ·exact au.snoc h hd
theorem au.len:∀{ks:Ks} {ps:List (Key×V)},au S H (ks.map bY) ps->ps.length=ks.length
  |[],ps,h=>by unfold au at h;subst h;rfl
  | p :: r, ps, h => by
    rw[List.map_cons] at h
    unfold au at h
    obtain⟨q,qs,rfl,_,h2⟩:=h
    simp[au.len h2]
theorem au.keys:∀{ks:Ks} {ps:List (Key×V)},au S H (ks.map bY) ps->ps.map (·.1)=(ks.map (·.1)).map Sum.inl
  |[],ps,h=>by unfold au at h;subst h;rfl
  | p :: r, ps, h => by
    rw[List.map_cons] at h
    unfold au at h
    obtain⟨q,qs,rfl,h1,h2⟩:=h
    unfold cC at h1
    have h3:q.1=Sum.inl p.1:=h1.1
    simp[au.keys h2,h3]
end
def jG(G:Gx)(ρ:Rh)(te:TE)(Φ:Bool->Ks->Prop):Prop:=∀nb σ H (Q:VK),Wd G nb ρ σ H->
 (∀f a ps H' ks,Φ f ks->Step G.B H H'->H a=none->H' a=some (.dK ps)->au (fun x=>G.S nb f x\/x=a) H' (ks.map bY) ps->Q (.ref a) H')->te σ H Q
section
variable{G:Gx}{ρ cg:Rh}{Φ Ψ:Pd}{ta tb te:TE}{t:TA}{i:Nat}{f g:Bool}{d e:PyData}{ks:Ks}{K:PySem.W.Frag}{E:DE}{Θ:Bool->Ks->Prop}
theorem Wd.grow{nb:Addr->Prop}{σ:St}{H H1:Hp}{a:Addr}{o:HO}(W:Wd G nb ρ σ H)(s1:Step G.B H H1)(ha:H a=none)(e:H1 a=some o):Wd G (fun x=>nb x\/x=a) ρ σ H1/\NB G.B a/\∀f x,G.S (fun x=>nb x\/x=a) f x->(G.S nb f x\/x=a):=by
  have hN:NB G.B a:=NB.new W.aA ha
  have hA:∀f x,G.S (fun x=>nb x\/x=a) f x->(G.S nb f x\/x=a):=fun f x z=>by
    rcases z with (z|z)|z|z|z
    · exact .inl (.inl z)
    · exact .inr z
    · exact .inl (.inr (.inl z))
    · exact .inl (.inr (.inr (.inl z)))
    · exact .inl (.inr (.inr (.inr z)))
  have W1:=W.step s1
  refine⟨?_,hN,hA⟩
  refine⟨W1.aA,fun x n=>?_,W1.old,fun x n q=>?_,W.gA,W.len,W.gB,fun h m=>(((W.eW h m).fresh ha).keep (s1.but fun x z=> .inl (.inr (.inr (.inl z))))).av (hA h.1),fun j s e'=>?_,W.apart,W.dY,W.dh⟩
  · rcases n with n|n
    · exact W1.live x n
    · subst n;rw[e];exact Option.some_ne_none _
  · rcases n with n|n
    · exact W.cR x n q
    · subst n
      cases z:G.H0 x with
      |none=>rfl
      |some o=>rw[W.old x o q z] at ha;cases ha
  · obtain⟨x,e1,h⟩:=W.ok j s e'
    refine⟨x,e1,?_⟩
    cases s with
    |no=>trivial
    |d f d=>obtain⟨v,e,h⟩:=h;exact⟨v,e,((h.fresh ha).keep (s1.but fun x z=> .inl (.inr (.inr (.inl z))))).av (hA f)⟩
    |own c f es=>obtain⟨e,n,q,xs,hx,hd⟩:=h;exact⟨e, .inl n,q,xs,s1.1 _ _ q hx,((hd.fresh ha).keep (s1.but fun x z=> .inl (.inr (.inr (.inl z))))).av (hA f)⟩
    |aA=>exact h
    |raw v=>exact h
    |aX c f es=>obtain⟨e,n,q,xs,hx,hd⟩:=h;exact⟨e, .inl n,q,xs,s1.1 _ _ q hx,((hd.fresh ha).keep (s1.but fun x z=> .inl (.inr (.inr (.inl z))))).av (hA f)⟩
    | cu c =>
      obtain⟨e,n,q⟩:=h
      refine⟨e,fun a ha=>⟨.inl (n a ha).1,(n a ha).2⟩,c.av (hA c.f) (c.keep (.of fun x o hx e=>s1.1 x o ?_ e) (c.fresh ha q))⟩
      rcases hx with hx|hx
      · exact Classical.byContradiction fun z=>hx (.inl (.inr (.inr (.inl z))))
      · exact(n x hx).2
theorem N5{nb:Addr->Prop}{σ:St}{H H1:Hp}{a:Addr}{ps:List (Key×V)}(W:Wd G nb ρ σ H)(s1:Step G.B H H1)(ha:H a=none)(e:H1 a=some (.dK ps))(hd:au (fun x=>G.S nb f x\/x=a) H1 (ks.map bY) ps):
  Wd G (fun x=>nb x\/x=a) (ρ.set i (.aX a f ks)) (σ.set i (some (.ref a))) H1:=by
 obtain⟨W2,hN,hA⟩:=W.grow s1 ha e
 refine W2.set ⟨rfl, .inr rfl,hN,ps,e,hd.av (hA f)⟩ (fun _ _ _ z=>by cases z) ?_ (fun x hx j t hj ht hc=>?_)
 rotate_left
 ·have hx:x=a:=List.mem_singleton.mp hx
  subst hx
  rcases hc with ⟨c,z⟩|⟨c,rfl⟩
  ·cases z
  ·exact fun z=>W.live x ((W.ok j _ ht).choose_spec.2.2.1 x z).1 ha
 rintro a' f' ds' ⟨rfl,rfl,rfl⟩ j c g cs hj hc z
 subst z
 obtain⟨x,e1,h1,h2,h3,ys,hy,_⟩:=W.ok j _ hc
 rw[hy] at ha;cases ha
theorem Sv.qQ(h:jG G ρ te fun f ks=>∀a,E.nx (ρ.set i (.aX a f ks))):Sv G ρ (fW te (dW i)) E:=fun nb σ H D W K=>h nb σ H _ W fun f a ps H1 ks q s1 ha e hd=>K.nx _ _ _ H1 (q a) (N5 W s1 ha e hd)
theorem jG.new(h:Θ true []):jG G ρ Gh Θ:=fun nb σ H Q W z p hp=>z true p [] _ [] h (.same W.aA (bW hp)) hp aU (by unfold au;rfl)
@[reducible] def sD(p:Int×PyData):PyData:= .tuple [.int p.1,p.2]
def mh(ks:Ks)(more:Ks):Ks:=more.foldl (fun acc p=>gH acc p.1 p.2) ks
theorem ES{S:Addr->Prop}{H:Hp}:∀{more:Ks} {ms:List (Key×V)} {ks:Ks} {ps:List (Key×V)},au S H (more.map bY) ms->au S H (ks.map bY) ps->au S H ((mh ks more).map bY) (jU ps ms)
  |[],ms,ks,ps,h,g=>by unfold au at h;subst h;exact g
  | p :: r, ms, ks, ps, h, g => by
    rw[List.map_cons] at h
    unfold au at h
    obtain⟨q,qs,rfl,h1,h2⟩:=h
    unfold cC at h1
    obtain⟨k,v⟩:=q
    have h3:k=Sum.inl p.1:=h1.1
    subst h3
    show au S H ((mh (gH ks p.1 p.2) r).map bY) (jU (putK ps (Sum.inl p.1) v) qs)
    exact ES (more:=r) h2 (au.put g h1.2)
theorem jG.YF(h:Ev G ρ te fun f x=>∃es:Ks,x= .list (es.map sD)/\es.length<=10000/\Θ f (mh [] es)):jG G ρ (dw wm (aS te bh)) Θ:=fun nb σ H Q W z=>
  h nb σ H _ W fun f v H1 x ⟨es,ex,hl,q⟩ s1 hv=>by
    subst ex
    obtain⟨a,xs,rfl,n,hx,hd⟩:=hv.cU
    have key:∀{es:Ks} {xs:List V},af (G.S nb f) H1 (es.map sD) xs->∃kvs:List (Key×V),xs.length=kvs.length/\(∀(j:Nat) (y:V) (p:Key×V),xs[j]?=some y->kvs[j]?=some p->∃a,y= .ref a/\H1 a=some (.tup [kV p.1,p.2]))/\au (G.S nb f) H1 (es.map bY) kvs:=by
      intro es
      induction es with
      |nil=>intro xs h;unfold af at h;subst h;exact⟨[],rfl,fun j y p z=>by simp at z,by simp only[List.map_nil];unfold au;rfl⟩
      | cons e es ih =>
        intro xs h
        rw[List.map_cons] at h
        unfold af at h
        obtain⟨y,ys,rfl,h1,h2⟩:=h
        obtain⟨kvs,g1,g2,g3⟩:=ih h2
        obtain⟨b,ws,rfl,aM,hb,hws⟩:=h1.ofT
        unfold af at hws
        obtain⟨w1,wr,rfl,k1,hws⟩:=hws
        unfold af at hws
        obtain⟨w2,wr,rfl,k2,hws⟩:=hws
        unfold af at hws
        subst hws
        rw[k1.bD] at hb
        refine⟨(Sum.inl e.1,w2)::kvs,by simp[g1],fun j y p a b'=>?_,?_⟩
        · cases j with
          |zero=>simp at a b';subst a b';exact⟨b,rfl,hb⟩
          |succ j=>exact g2 j y p (by simpa using a) (by simpa using b')
        · rw[List.map_cons]
          unfold au
          exact⟨_,_,rfl,by unfold cC;exact⟨rfl,k2⟩,g3⟩
    obtain⟨kvs,g1,g2,g3⟩:=key hd
    have hlx:=hd.length
    rw[List.length_map] at hlx
    refine⟨a,xs,kvs,rfl,hx,g1,by omega,g2,fun p hp=>?_⟩
    have Tr:au (G.S nb f) H1 (([]:Ks).map bY) []:=by simp only[List.map_nil];unfold au;rfl
    exact z f p _ _ _ q (s1.trans (.same s1.2 (bW hp))) (W.none_of s1 hp) aU (((ES g3 Tr).fresh hp).keep (aP.of (bW hp)))
theorem FU{nb:Addr->Prop}{σ:St}{H:Hp}{a:Addr}{ps:List (Key×V)}{ks':Ks}(W:Wd G nb ρ σ H)(e:ρ[i]?=some (.aX a f ks))(hd:au (G.S nb g) H (ks'.map bY) ps):Wd G nb (ρ.set i (.aX a g ks')) σ (upd H a (.dK ps)):=by
 obtain⟨x,e1,h1,h2,h3,ys,hy,_⟩:=W.ok i _ e
 subst h1
 have hil:i<ρ.length:=(List.getElem?_eq_some_iff.mp e).1
 have W0:Wd G nb (ρ.set i .no) (σ.set i (some (.ref a))) H:=W.set trivial fun _ _ _ z=>by cases z
 have W1:Wd G nb (ρ.set i .no) (σ.set i (some (.ref a))) (upd H a (.dK ps)):=W0.write h2 h3 (fun j c f' cs hc z=>by
   subst z
   have hij:i≠j:=fun z=>by subst z;rw[List.getElem?_set_self hil] at hc;cases hc
   rw[List.getElem?_set_ne hij] at hc
   obtain⟨_,_,_,_,_,ps,hp,_⟩:=W.ok j _ hc
   rw[hy] at hp;cases hp) (fun j c f' cs hc=>by
   by_cases hij:i=j
   ·subst hij;rw[List.getElem?_set_self hil] at hc;cases hc
   ·rw[List.getElem?_set_ne hij] at hc
    exact(W.dY i j _ _ _ _ _ _ hij e hc).symm) (fun j c hc z=>by
   have hij:i≠j:=fun z=>by subst z;rw[List.getElem?_set_self hil] at hc;cases hc
   rw[List.getElem?_set_ne hij] at hc
   exact W.dh j i c _ (Ne.symm hij) hc e a z (List.mem_singleton.mpr rfl))
 have W2:=W1.set (i:=i) (s:= .aX a g ks') (x:=some (.ref a)) ⟨rfl,h2,h3,ps,aU,hd.keep (aP.set (.inl h2))⟩ (fun _ _ _ z=>by cases z) (by
  rintro a' f' ds' ⟨rfl,rfl,rfl⟩ j c g' cs hj hc
  rw[List.getElem?_set_ne (Ne.symm hj)] at hc
  exact W.dY i j _ _ _ _ _ _ (Ne.symm hj) e hc) (fun x hx j t hj ht hc z=>by
  rw[List.getElem?_set_ne (Ne.symm hj)] at ht
  have hx:x=a:=List.mem_singleton.mp hx
  subst hx
  rcases hc with ⟨c,q⟩|⟨c,rfl⟩
  ·cases q
  ·exact W.dh j i c _ hj ht e x z (List.mem_singleton.mpr rfl))
 rw[List.set_set,List.set_set] at W2
 have:σ.set i (some (.ref a))=σ:=by
  apply List.ext_getElem?
  intro j
  by_cases hij:i=j
  ·subst hij;rw[List.getElem?_set_self (by rw[W.len];exact hil),e1]
  ·rw[List.getElem?_set_ne hij]
 rwa[this] at W2
theorem Sv.uz{a:Addr}(e:ρ[i]?=some (.aX a f ks))(h:Ev G ρ te fun g d=>Ev G ρ tb fun _ y=>∃k,y= .int k/\ks.length<10000/\E.nx (ρ.set i (.aX a (f && g) (gH ks k d)))):Sv G ρ (fW te (qa (bq i) tb CM)) E:=fun nb σ H D W KK=>
 h nb σ H _ W fun g v H1 d q s1 hv=>by
  obtain⟨x,e1,h1,h2,h3,ps,hp,hd⟩:=(W.step s1).ok i _ e
  subst h1
  refine⟨.ref a,e1,q nb σ H1 _ (W.step s1) fun g' u H2 y ⟨k,ey,hl,p⟩ s2 hu=>?_⟩
  subst ey
  have W2:=(W.step s1).step s2
  have hlen:=hd.len
  refine⟨a,ps, .inl k,rfl,hu.bD,s2.1 _ _ h3 hp,Nat.lt_of_lt_of_le (by rw[hlen];exact hl) (by decide),KK.nx nb _ _ _ p (FU W2 e ?_)⟩
  exact au.put ((hd.keep s2.cH).av (bU (fun z=>(Bool.and_eq_true _ _▸z).1) fun _ z=>z)) ((hv.keep s2.cH).av (bU (fun z=>(Bool.and_eq_true _ _▸z).2) fun _ z=>z))
namespace Ev
theorem Rc{a:Addr}(e:ρ[i]?=some (.aX a f ks))(h:Ev G ρ tb fun _ y=>∃k,y= .int k/\∃d,fK ks k=some d/\Φ f d):Ev G ρ (bX xW (bq i) tb) Φ:=fun nb σ H Q W z=>by
 obtain⟨x,e1,h1,h2,h3,ps,hp,hd⟩:=W.ok i _ e
 subst h1
 refine⟨.ref a,e1,h nb σ H _ W fun g w H1 y ⟨k,ey,d,hv,p⟩ s1 hw=>?_⟩
 subst ey
 have:=au.val k (hd.keep s1.cH)
 rw[hv] at this
 obtain⟨v,hv',hD⟩:=this
 exact⟨a,ps, .inl k,v,rfl,hw.bD, .inl (s1.1 _ _ h3 hp),hv',z f _ H1 _ p s1 hD⟩
theorem QI{a:Addr}(e:ρ[i]?=some (.aX a f ks))(h:Ev G ρ ta fun _ y=>∃k,y= .int k/\Ev G ρ tb fun g x=>Φ (f && g) ((fK ks k).getD x)):Ev G ρ (lN K "dict" DK (bq i) (aS ta (aS tb bh))) Φ:=fun nb σ H Q W z=>by
  obtain⟨x,e1,h1,h2,h3,ps,hp,hd⟩:=W.ok i _ e
  subst h1
  refine⟨.ref a,e1, .inr (.inr (.inl ⟨rfl, .inl ⟨_,hp⟩⟩)),?_⟩
  refine h nb σ H _ W fun g w H1 y ⟨k,ey,q⟩ s1 hw=>q nb σ H1 _ (W.step s1) fun g' u H2 x p s2 hu=>?_
  subst ey
  have hd2:=(hd.keep s1.cH).keep s2.cH
  have hv:=au.val k hd2
  refine⟨a,ps, .inl k,u,rfl,by rw[hw.bD];rfl, .inl (s2.1 _ _ h3 (s1.1 _ _ h3 hp)),?_⟩
  cases hk:fK ks k with
  | none =>
    rw[hk] at hv p
    rw[hv]
    exact z _ _ H2 _ p (s1.trans s2) (hu.av (bU (fun z=>(Bool.and_eq_true _ _▸z).2) fun _ z=>z))
  | some d =>
    rw[hk] at hv p
    obtain⟨v,e',hD⟩:=hv
    rw[e']
    exact z _ _ H2 _ p (s1.trans s2) (hD.av (bU (fun z=>(Bool.and_eq_true _ _▸z).1) fun _ z=>z))
end Ev
end
def sZ(ng:Bool):R2:=fun x y H Q=>∃a o,y= .ref a/\nK H a x o/\Q (.bl (o.isSome !=ng)) H
theorem vA{X:Cx}(hu:X.A.units+64<cLine):cI X (compareOp .In) (sZ false):=by
 intro pins s σ H x y v u Q I rx ry h
 obtain⟨a,o,rfl,g,q⟩:=h
 cases ry
 exact QJ (by omega) I g rx fun s' I'=>⟨.bl o.isSome,H,I',rfl,by simpa using q⟩
theorem VV{X:Cx}(hu:X.A.units+64<cLine):cI X (compareOp .NotIn) (sZ true):=by
 intro pins s σ H x y v u Q I rx ry h
 obtain⟨a,o,rfl,g,q⟩:=h
 cases ry
 exact O2 (by omega) I g rx fun s' I'=>⟨.bl (!o.isSome),H,I',rfl,by simpa using q⟩
section
variable{G:Gx}{ρ:Rh}{Φ:Pd}{ta tb te:TE}{i:Nat}{f:Bool}{ks:Ks}{K:PySem.W.Frag}{E:DE}
theorem Ev.zg{a:Addr}{ng:Bool}(e:ρ[i]?=some (.aX a f ks))(h:Ev G ρ ta fun _ y=>∃k,y= .int k/\Φ true (.bool (fR ks k !=ng))):Ev G ρ (bX (sZ ng) ta (bq i)) Φ:=fun nb σ H Q W z=>
 h nb σ H _ W fun g w H1 y ⟨k,ey,p⟩ s1 hw=>by
  obtain⟨x,e1,h1,h2,h3,ps,hp,hd⟩:=(W.step s1).ok i _ e
  subst h1 ey
  refine⟨.ref a,e1,a,_,rfl,by rw[hw.bD];exact nK.k (k:= .inl k) hp,?_⟩
  have:(dQ ps (Sum.inl k)).isSome=fR ks k:=by rw[<-rV];exact au.any k hd
  rw[this]
  exact z true _ H1 _ p s1 (.bl _)
theorem E4{nb:Addr->Prop}{σ:St}{H:Hp}{a:Addr}(W:Wd G nb ρ σ H)(e:ρ[i]?=some (.aX a f ks)):Wd G (fun x=>nb x/\x≠a) (ρ.set i (.d f (.dict (ks.map bY)))) σ H:=by
  obtain⟨x,e1,h1,h2,h3,xs,hx,hd⟩:=W.ok i _ e
  subst h1
  have hil:i<ρ.length:=(List.getElem?_eq_some_iff.mp e).1
  have W0:Wd G nb (ρ.set i .no) (σ.set i (some (.ref a))) H:=W.set trivial fun _ _ _ z=>by cases z
  have W1:Wd G (fun x=>nb x/\x≠a) (ρ.set i .no) (σ.set i (some (.ref a))) H:=by
    refine⟨W0.aA,fun x n=>W0.live x n.1,W0.old,fun x n=>W0.cR x n.1,W0.gA,W0.len,W0.gB,fun h m=>(W0.eW h m).av (bU (fun z=>z) fun _ z=>z.1),fun j s e'=>?_,W0.apart,W0.dY,W0.dh⟩
    obtain⟨x,jJ,h⟩:=W0.ok j s e'
    refine⟨x,jJ,?_⟩
    have hij:s≠ .no->i≠j:=fun n z=>by subst z;rw[List.getElem?_set_self hil] at e';cases e';exact n rfl
    cases s with
    |no=>trivial
    |d f d=>obtain⟨v,e,h⟩:=h;exact⟨v,e,h.av (bU (fun z=>z) fun _ z=>z.1)⟩
    | own c f es =>
      obtain⟨e2,n,q,ys,hy,hd'⟩:=h
      have hca:c≠a:=fun z=>by subst z;rw[hx] at hy;cases hy
      exact⟨e2,⟨n,hca⟩,q,ys,hy,hd'.av (bU (fun z=>z) fun _ z=>z.1)⟩
    |aA=>exact h
    |raw v=>exact h
    | aX c f es =>
      obtain⟨e2,n,q,ps,hp,hd'⟩:=h
      have hij:=hij (by intro z;cases z)
      rw[List.getElem?_set_ne hij] at e'
      exact⟨e2,⟨n,(W.dY i j _ _ _ _ _ _ hij e e').symm⟩,q,ps,hp,hd'.av (bU (fun z=>z) fun _ z=>z.1)⟩
    | cu c =>
      obtain⟨e2,n,q⟩:=h
      have hij:=hij (by intro z;cases z)
      rw[List.getElem?_set_ne hij] at e'
      exact⟨e2,fun x hx=>⟨⟨(n x hx).1,fun z=>W.dh j i c _ (Ne.symm hij) e' e x hx (by rw[z];exact List.mem_singleton.mpr rfl)⟩,(n x hx).2⟩,c.av (bU (fun z=>z) fun _ z=>z.1) q⟩
  have W2:=W1.lu (i:=i) (f:=f) (d:= .dict (ks.map bY)) (v:= .ref a) (by
    unfold ah
    refine⟨a,xs,rfl,fun z=>?_, .inl hx,hd.av (bU (fun z=>z) fun _ z=>z.1)⟩
    rcases z with z|z|z|z
    · exact z.2 rfl
    · exact W.gA a z (W.cR a h2 h3)
    · exact z h3
    · exact z.2 (W.cR a h2 h3))
  rw[List.set_set,List.set_set] at W2
  have:σ.set i (some (.ref a))=σ:=by
    apply List.ext_getElem?
    intro j
    by_cases hij:i=j
    · subst hij;rw[List.getElem?_set_self (by rw[W.len];exact hil),e1]
    · rw[List.getElem?_set_ne hij]
  rwa[this] at W2
theorem Ev.WM{ng:Bool}(h:Ev G ρ ta fun _ y=>∃k,y= .int k/\Ev G ρ tb fun _ x=>∃ks:Ks,x= .dict (ks.map bY)/\Φ true (.bool (fR ks k !=ng))):Ev G ρ (bX (sZ ng) ta tb) Φ:=
 Ev.iD (h.mono fun f x ⟨k,ex,q⟩=>q.mono fun g y ⟨ks,ey,p⟩ nb σ H u v Q W hu hv z=>by
  subst ex ey
  unfold ah at hv
  obtain⟨a,ps,rfl,n,hp,hd⟩:=hv
  refine⟨a,_,rfl,by rw[hu.bD];exact .inl ⟨ps, .inl k,hp,rfl,rfl⟩,?_⟩
  have:(dQ ps (Sum.inl k)).isSome=fR ks k:=by rw[<-rV];exact au.any k hd
  rw[this]
  exact z true _ H _ p (.refl W.aA) (.bl _))
end
end L2
set_option maxRecDepth 100000
set_option maxHeartbeats 4000000
namespace L2
open PySem PySem.Spec PyProof.Rows
theorem ay.DO{G:Gx}{ρ:Rh}{i:Nat}{a:Addr}{f:Bool}{ks:Ks}{Θ:Bool->List PyData->Prop}(e:ρ[i]?=some (.aX a f ks))(hl:ks.length<64)(h:∀rs:List Int,rs.Pairwise (· <= ·)->rs.Perm (ks.map (·.1))->Θ true (rs.map .int)):
  ay G ρ (dw nP (aS (bq i) bh)) Θ:=fun nb σ H Q W z=>by
 obtain⟨x,e1,h1,h2,h3,ps,hp,hd⟩:=W.ok i _ e
 subst h1
 refine⟨.ref a,e1,a,ps,ks.map (·.1),rfl, .inl hp,au.keys hd,by rw[List.length_map];exact hl,fun l rs hl' hw fU=>?_⟩
 exact ay.fin (f:=true) W (.refl W.aA) hl' (pT rs) (h rs hw fU) z
def tU:List V->Hp->VK->Prop:=fun xs H Q=>∃a kvs,xs=[V.ref a]/\H a=some (.dK kvs)/\Q (.int kvs.length) H
theorem Di{X:Cx}:dB X (.builtin "len") tU:=LW
theorem Ev.Ey{G:Gx}{ρ:Rh}{Φ:Pd}{i:Nat}{a:Addr}{f:Bool}{ks:Ks}(e:ρ[i]?=some (.aX a f ks))(h:Φ true (.int ks.length)):Ev G ρ (dw tU (aS (bq i) bh)) Φ:=fun nb σ H Q W z=>by
 obtain⟨x,e1,h1,h2,h3,ps,hp,hd⟩:=W.ok i _ e
 subst h1
 refine⟨.ref a,e1,a,ps,rfl,hp,?_⟩
 rw[hd.len]
 exact z true _ H _ h (.refl W.aA) (.int _)
end L2
set_option maxRecDepth 100000
set_option maxHeartbeats 4000000
namespace L2
open PySem PySem.Spec PyProof.Rows
structure KU(n:Int)(cs:List ak):Prop where
 n0:1<=n
 n1:n<=10
 c0:cs≠[]
 c1:cs.length<=8
 ok:∀prs∈cs,prs≠[]/\prs.length<=4/\(prs.map (·.1)).Pairwise (· < ·)/\∀pr∈prs,0<=pr.1/\pr.1<n
section
variable{n:Int}{cs:List ak}(h:KU n cs)
include h
end
end L2
set_option maxRecDepth 100000
set_option maxHeartbeats 4000000
set_option maxRecDepth 100000
set_option maxHeartbeats 4000000
set_option maxRecDepth 100000
set_option maxHeartbeats 4000000
namespace L2
open PySem PySem.Spec PyProof.Rows
def oQ(p d:Addr):HO:= .ext fun h=>h.IsValuesView p d
def DG:V->List V->Hp->VK->Prop:=fun x vs H Q=>∃a kvs,x= .ref a/\vs=[]/\H a=some (.dK kvs)/\∀p,H p=none->Q (.ref p) (upd H p (oQ p a))
def yy:List V->Hp->VK->Prop:=fun xs H Q=>∃p a kvs,xs=[.ref p]/\H p=some (oQ p a)/\H a=some (.dK kvs)/\∀l,H l=none->Q (.ref l) (upd H l (.lst (kvs.map (·.2))))
theorem KV.vals:∀{kvs:List (Key×V)} {vs:List (Key×Value)},KV kvs vs->Vals (kvs.map (·.2)) (vs.map (·.2))
 |[],[],_=> .nil
 |a::r,b::t, .cons h1 h2=> .cons h1.2 (KV.vals h2)
section
variable{X:Cx}
theorem IM:oB X "dict.values" DG:=by
 intro pins s σ H x vs v us Q I rx rv h
 obtain⟨a,kvs,rfl,rfl,hH,q⟩:=h
 cases rx
 have Bp:=rv.zero
 subst Bp
 obtain⟨z,hd,ps,rel,dd⟩:=pJ I.hok hH
 refine call_meetsIn PySem.F.slot_dict_values dd.typeIs PySem.F.entry_dict_values (PySem.F.args_dict_values_1 _) (meets_dict_values (cT X.prog X.w) a hd) ⟨⟨ps,dd⟩,?_⟩
 have new:bK X.prog X.w (upd H s.heap.objs.size (oQ s.heap.objs.size a)) (s.heap.push {cls:= .type "dict_values",data:= .fields #[.ref a]}) s.heap.objs.size (oQ s.heap.objs.size a):=by
  refine⟨⟨_,Heap.get?_push_size _ rfl,rfl,rfl⟩,⟨_,Heap.get?_push_size _ rfl⟩,fun h1 h2 z k=>?_⟩
  obtain⟨o,ho,r⟩:=z
  exact⟨o,k o ho,r⟩
 exact⟨.ref s.heap.objs.size,_,I.laid (t':=s.toks) (fun b o e=>Heap.get?_push_of_some _ e) (Nat.le_refl _) new,rfl,q _ (I.hok.fresh (Nat.le_refl _))⟩
theorem WA(hc:X.calm=true):dB X (.type "list") yy:=by
 intro pins s σ H xs us Q I rv h
 obtain⟨p,a,kvs,rfl,hp,hH,q⟩:=h
 obtain⟨u,rfl,ru⟩:=vals1 rv
 cases ru
 obtain⟨z,hd,ps,rel,dd⟩:=pJ I.hok hH
 obtain⟨hv,_,_⟩:=I.hok p _ hp
 obtain⟨ep,hat⟩:=dd.dictAt
 have hz:ps.length<=sizeLine:=by rw[<-rel.length];exact z
 refine PySem.W.kdl_call (PySem.W.kdl_values (knd:=cT X.prog X.w) (kvs:=ps) (ep:=ep)) (I.ok.hd hc) ⟨hv,hat⟩ hz fun h' tk acc' c' hk hS hacc=>?_
 have e:acc'.toList=ps.map (·.2):=PySem.W.kdl_vals_eq acc'.toList (by rw[Array.length_toList];exact hacc.1) fun j v e=>hacc.2 j v (by rw[<-Array.getElem?_toList];exact e)
 have new:bK X.prog X.w (upd H s.heap.objs.size (.lst (kvs.map (·.2)))) h' s.heap.objs.size (.lst (kvs.map (·.2))):=by
  refine⟨by rw[List.length_map];exact z,ps.map (·.2),c',KV.vals rel,?_⟩
  rw[<-e,Array.toArray_toList];exact hS
 exact⟨.ref s.heap.objs.size,_,I.laid (t':=tk) hk (Nat.le_refl _) new,rfl,q _ (I.hok.fresh (Nat.le_refl _))⟩
end
theorem au.vals{S:Addr->Prop}{H:Hp}:∀{ks:Ks} {ps:List (Key×V)},au S H (ks.map bY) ps->af S H (ks.map (·.2)) (ps.map (·.2))
  |[],ps,h=>by unfold au at h;subst h;exact .nil
  | p :: r, ps, h => by
    rw[List.map_cons] at h
    unfold au at h
    obtain⟨q,qs,rfl,h1,h2⟩:=h
    unfold cC at h1
    exact .cons h1.2 (au.vals h2)
section
variable{G:Gx}{ρ:Rh}{ta tb te:TE}{t:TA}{E:DE}{i j:Nat}{f:Bool}{K:PySem.W.Frag}{Φ:Pd}{Θ:Bool->List PyData->Prop}
theorem ay.Pz{a:Addr}{ks:Ks}(e:ρ[i]?=some (.aX a f ks))(h:Θ (f||dP (ks.map (·.2))) (ks.map (·.2))):ay G ρ (dw yy (aS (lN K "dict" DG (bq i) bh) bh)) Θ:=fun nb σ H Q W z=>by
 obtain⟨x,e1,h1,h2,h3,ps,hp,hd⟩:=W.ok i _ e
 subst h1
 refine⟨.ref a,e1, .inr (.inr (.inl ⟨rfl, .inl ⟨_,hp⟩⟩)),a,ps,rfl,rfl,hp,fun p Ir=>?_⟩
 have hne:a≠p:=fun z=>by rw[z,Ir] at hp;cases hp
 refine⟨p,a,ps,rfl,aU,by rw[aN hne];exact hp,fun l hl=>?_⟩
 have s1:Step G.B H (upd H p (oQ p a)):= .same W.aA (bW Ir)
 exact ay.fin (f:=f) W s1 hl ((au.vals hd).keep s1.cH) h z
end
def jh(G:Gx)(ρ:Rh)(te:TE)(Φ:PyData->Prop):Prop:=∀nb σ H (Q:VK),Wd G nb ρ σ H->(∀v H' d,Φ d->Step G.B H H'->ah (fun a=>H a≠none) H' d v->Q v H')->te σ H Q
section
variable{G:Gx}{ρ:Rh}{ta tb te:TE}{t:TA}{E:DE}{i j k m:Nat}{f:Bool}{K:PySem.W.Frag}{Φ:PyData->Prop}
theorem Wd.GG{nb:Addr->Prop}{σ:St}{H H1:Hp}{a:Addr}(W:Wd G nb ρ σ H)(s:Step G.B H H1)(h:H a≠none):H1 a≠none:=fun e=>h (W.none_of s e)
theorem jh.gZ{n:Nat}{F:DF}(hm:cJ F)(e:ρ[i]?=some .aA)(h:Av G ρ t fun es=>es.length+1=n/\F (es.map (·.2)) fun f d=>f=true/\Φ d):jh G ρ (eS (eB n F) [] E0 (aS (bq i) t)) Φ:=fun nb σ H Q W z=>by
 obtain⟨b,l,hB,e1,B⟩:=W.qH e
 refine⟨.ref b,e1,h nb σ H _ W fun es vs H1 ⟨hl,p⟩ s1 q1=>?_⟩
 have W1:=W.step s1
 show eB n F ((V.ref b::vs)++[]) H1 Q E0
 rw[List.append_nil]
 have hb:∀f,G.S nb f b:=fun f=> .inr (.inr (.inl fun n=>n b l hB rfl))
 refine⟨by rw[List.length_cons,q1.len,hl],b,l,vs,G.S nb (gP es),es.map (·.2),rfl,W1.aA b l hB,W1.fJ,hb _,q1.all fun z=>z,hm _ _ _ p fun f d ⟨hf,hp⟩ v H' bt B' hd=>z v H' d hp (s1.trans (.qI hB bt B')) (hd.av fun a q=>?_)⟩
 exact .inr ⟨hf,W.GG s1 q⟩
theorem jh.cZ{n:Nat}{F:DF}(hm:cJ F)(h:Av G ρ t fun es=>es.length=n/\F (es.map (·.2)) fun f d=>f=true/\Φ d):jh G ρ (eS (bJ n F) [] E0 t) Φ:=fun nb σ H Q W z=>
 h nb σ H _ W fun es vs H1 ⟨hl,p⟩ s1 q1=>by
  have W1:=W.step s1
  rw[List.append_nil]
  refine⟨by rw[q1.len,hl],G.S nb (gP es),es.map (·.2),W1.fJ,q1.all fun z=>z,hm _ _ _ p fun f d ⟨hf,hp⟩ v H' sm hd=>z v H' d hp (s1.trans (.same W1.aA sm)) (hd.av fun a q=>?_)⟩
  exact .inr ⟨hf,W.GG s1 q⟩
end
end L2
set_option maxRecDepth 100000
set_option maxHeartbeats 1000000
set_option maxRecDepth 100000
set_option maxHeartbeats 4000000
namespace L2
open PySem PySem.Spec PyProof.Rows
def br(ai:List Int)(prs:ak):Nat:=(prs.filter fun pr=>decide (pr.1∈ai)).length
def dI(cs:List ak)(ai:List Int):Bool:=cs.all fun prs=>decide (br ai prs≠1)
def Lr(rows:List (List Int))(ai:List Int):List Int:=ai.flatMap fun p=>rows.getD p.toNat []
def pZ(L:List Int):Bool:=L.all fun c=>decide (L.count c≠1)
def tot(cs:List ak):Nat:=(cs.map List.length).sum
structure lg(n:Int)(cs:List ak):Prop where
 n0:1<=n
 n1:n<=400
 cl:cs.length<=400
 tl:tot cs<=9000
 ok:∀prs∈cs,∀pr∈prs,0<=pr.1/\pr.1<n
theorem CV{cs:List ak}{i:Nat}{prs:ak}(e:cs[i]?=some prs):tot (cs.take (i+1))=tot (cs.take i)+prs.length:=by
 unfold tot
 rw[take_snoc e,List.map_append,List.sum_append]
 simp
theorem J6{cs:List ak}:∀i,tot (cs.take i)<=tot cs:=fun i=>by
 have:tot cs=tot (cs.take i)+tot (cs.drop i):=by
  unfold tot
  rw[<-List.sum_append,<-List.map_append,List.take_append_drop]
 omega
theorem IJ{n:Nat}{cs:List ak}:∀i,i<=cs.length->Short (cQ n cs i) (tot (cs.take i))
  | 0, _ => fun r hr => by
    unfold cQ at hr
    rw[List.eq_of_mem_replicate hr];simp
  | i + 1, hi => by
    have ih:=IJ (n:=n) (cs:=cs) i (by omega)
    have e:cs[i]?=some cs[i]:=List.getElem?_eq_getElem (by omega)
    rw[A0 e,CV e]
    exact AN (c:=(i:Int)) (prs:=cs[i]) ih
theorem lg.HR{n:Int}{cs:List ak}(h:lg n cs):CO n cs:=by
 have h0:=h.n0
 have h1:=h.n1
 refine⟨by omega,by omega,h.ok,fun i m prs e r hr=>?_⟩
 have hi:=(List.getElem?_eq_some_iff.mp e).1
 have a1:=AN (c:=(i:Int)) (prs:=prs.take m) (IJ (n:=n.toNat) (cs:=cs) i (by omega)) r hr
 have a3:(prs.take m).length<=prs.length:=by rw[List.length_take];omega
 have a4:=CV e
 have a5:=J6 (cs:=cs) (i+1)
 have:=h.tl
 omega
theorem AX{k:Nat}{place:Int}(e:place=(k:Int)):∀{L:ak},(∀x∈L,0<=x.1)->(L.map fun pr=>pr.1.toNat).count k=(L.map (·.1)).count place
  |[],_=>rfl
  | x :: L, h => by
    have h0:=h x (List.mem_cons_self ..)
    rw[List.map_cons,List.count_cons,List.map_cons,List.count_cons,AX e fun y hy=>h y (List.mem_cons_of_mem _ hy)]
    congr 1
    by_cases e':x.1=place
    · rw[if_pos (by simp;omega),if_pos (by simp[e'])]
    · rw[if_neg (by simp;omega),if_neg (by simpa using e')]
theorem HK{c x:Int}:∀{prs:ak} {rows:List (List Int)} {g:Nat->Nat},(∀(k:Nat) r,rows[k]?=some r->r.count x=g k)->∀(k:Nat) r,(eu rows c prs)[k]?=some r->r.count x=g k+if x=c then(prs.map fun pr=>pr.1.toNat).count k else 0
  |[],rows,g,h,k,r,e=>by simpa using h k r e
  | pr :: prs, rows, g, h, k, r, e => by
    have:=HK (c:=c) (x:=x) (prs:=prs) (rows:=jD rows c pr) (g:=fun k=>g k+if pr.1.toNat=k then(if x=c then 1 else 0) else 0) (fun k r e=>by
      unfold jD at e
      by_cases hk:pr.1.toNat=k
      · rw[if_pos hk]
        subst hk
        by_cases hl:pr.1.toNat<rows.length
        · rw[List.getElem?_set_self hl] at e
          cases e
          have:=h _ _ (List.getElem?_eq_getElem hl)
          rw[List.getD_eq_getElem?_getD,List.getElem?_eq_getElem hl,List.count_append,<-this]
          congr 1
          by_cases hx:x=c
          · simp[hx]
          · rw[if_neg hx,List.count_singleton,if_neg (by simpa using fun z=>hx z.symm)]
        · rw[List.getElem?_eq_none (by rw[List.length_set];omega)] at e;cases e
      · rw[if_neg hk]
        rw[List.getElem?_set_ne hk] at e
        exact h k r e) k r e
    rw[List.map_cons,List.count_cons]
    by_cases hk:pr.1.toNat=k
    · by_cases hx:x=c
      · simp[hk,hx] at this⊢;omega
      · simp[hk,hx] at this⊢;omega
    · simp[hk] at this⊢;omega
theorem qz{n:Nat}{cs:List ak}{x:Int}:∀i,i<=cs.length->∀(k:Nat) r,(cQ n cs i)[k]?=some r->r.count x=if 0<=x/\x<i then((cs.getD x.toNat []).map fun pr=>pr.1.toNat).count k else 0
  | 0, _, k, r, e => by
    unfold cQ at e
    have:=List.mem_of_getElem? e
    rw[List.eq_of_mem_replicate this,if_neg (by omega)];rfl
  | i + 1, hi, k, r, e => by
    obtain⟨prs,lq⟩:∃prs,cs[i]?=some prs:=⟨_,List.getElem?_eq_getElem (by omega)⟩
    rw[A0 lq] at e
    have h1:=HK (qz (x:=x) i (by omega)) k r e
    rw[h1]
    by_cases hx:x=(i:Int)
    · subst hx
      have e1:((i:Int)).toNat=i:=Int.toNat_natCast i
      rw[if_neg (by omega),if_pos rfl,if_pos (by omega),e1,List.getD_eq_getElem?_getD,lq]
      simp
    · rw[if_neg hx,Nat.add_zero]
      by_cases h2:0<=x/\x<i
      · rw[if_pos h2,if_pos (by omega)]
      · rw[if_neg h2,if_neg (by omega)]
theorem Hs{n:Nat}{cs:List ak}{k:Nat}{r:List Int}{x:Int}(e:(cQ n cs cs.length)[k]?=some r)(h:x∈r):0<=x/\x<cs.length:=by
 have h1:=qz (x:=x) cs.length (Nat.le_refl _) k r e
 have h2:=List.count_pos_iff.mpr h
 by_cases c:0<=x/\x<cs.length
 ·exact c
 ·rw[if_neg c] at h1;omega
theorem Cq:∀{ai:List Int} {prs:ak},ai.Nodup->(ai.map fun p=>(prs.map (·.1)).count p).sum=br ai prs
  | [], prs, _ => by
    unfold br
    rw[List.filter_eq_nil_iff.mpr (fun x _=>by simp)];rfl
  | a :: ai, prs, nd => by
    obtain⟨n1,n2⟩:=List.nodup_cons.mp nd
    rw[List.map_cons,List.sum_cons,Cq n2]
    unfold br
    clear n2 nd
    induction prs with
    |nil=>rfl
    | cons pr prs ih =>
      rw[List.map_cons,List.count_cons,List.filter_cons,List.filter_cons]
      by_cases h1:pr.1=a
      · have h2:pr.1∉ai:=by rw[h1];exact n1
        rw[if_pos (by simp[h1]),if_neg (by simpa using h2),if_pos (by simp[h1]),List.length_cons]
        omega
      · by_cases h2:pr.1∈ai
        · rw[if_neg (by simpa using h1),if_pos (by simpa using h2),if_pos (by simp[h2]),List.length_cons,List.length_cons]
          omega
        · rw[if_neg (by simpa using h1),if_neg (by simpa using h2),if_neg (by simp[h1,h2])]
          omega
theorem FZ{n:Int}{cs:List ak}{ai:List Int}(h:lg n cs)(nd:ai.Nodup)(hl:∀p∈ai,0<=p/\p<n)(x:Int):(Lr (cQ n.toNat cs cs.length) ai).count x=if 0<=x/\x<cs.length then br ai (cs.getD x.toNat []) else 0:=by
 have h1:=h.n0
 have key:∀p∈ai,((cQ n.toNat cs cs.length).getD p.toNat []).count x=if 0<=x/\x<cs.length then((cs.getD x.toNat []).map (·.1)).count p else 0:=fun p hp=>by
  obtain⟨p0,p1⟩:=hl p hp
  have hk:p.toNat<(cQ n.toNat cs cs.length).length:=by rw[rR];omega
  rw[List.getD_eq_getElem?_getD,List.getElem?_eq_getElem hk]
  have:=qz (x:=x) cs.length (Nat.le_refl _) p.toNat _ (List.getElem?_eq_getElem hk)
  show List.count x (cQ n.toNat cs cs.length)[p.toNat]=_
  rw[this]
  by_cases c:0<=x/\x<cs.length
  ·rw[if_pos c,if_pos c]
   refine AX (by omega) fun y hy=>?_
   have hx:x.toNat<cs.length:=by omega
   rw[List.getD_eq_getElem?_getD,List.getElem?_eq_getElem hx] at hy
   exact(h.ok _ (List.getElem_mem hx) y hy).1
  ·rw[if_neg c,if_neg c]
 unfold Lr
 rw[List.count_flatMap]
 by_cases c:0<=x/\x<cs.length
 ·rw[if_pos c,<-Cq nd]
  congr 1
  apply List.map_congr_left
  intro p hp
  show List.count x _=_
  rw[key p hp,if_pos c]
 ·rw[if_neg c]
  have:ai.map (List.count x∘fun p=>(cQ n.toNat cs cs.length).getD p.toNat [])=ai.map fun _=>0:=by
   apply List.map_congr_left
   intro p hp
   show List.count x _=_
   rw[key p hp,if_neg c]
  rw[this]
  clear this key nd hl
  induction ai with
  |nil=>rfl
  |cons a l ih=>simpa using ih
theorem JZ{n:Int}{cs:List ak}{ai:List Int}(h:lg n cs)(nd:ai.Nodup)(hl:∀p∈ai,0<=p/\p<n):pZ (Lr (cQ n.toNat cs cs.length) ai)=dI cs ai:=by
 unfold pZ dI
 rw[Bool.eq_iff_iff,List.all_eq_true,List.all_eq_true]
 constructor
 ·intro g prs hp
  obtain⟨i,hi⟩:=List.getElem?_of_mem hp
  have hil:=(List.getElem?_eq_some_iff.mp hi).1
  refine decide_eq_true fun z=>?_
  have e:=FZ h nd hl (i:Int)
  rw[if_pos (by omega),Int.toNat_natCast,List.getD_eq_getElem?_getD,hi] at e
  have e':(Lr (cQ n.toNat cs cs.length) ai).count (i:Int)=1:=by rw[e];exact z
  have:=of_decide_eq_true (g (i:Int) (List.count_pos_iff.mp (by omega)))
  exact this e'
 ·intro g x hx
  refine decide_eq_true fun z=>?_
  have e:=FZ h nd hl x
  rw[z] at e
  by_cases c:0<=x/\x<cs.length
  ·rw[if_pos c] at e
   have hi:x.toNat<cs.length:=by omega
   rw[List.getD_eq_getElem?_getD,List.getElem?_eq_getElem hi] at e
   exact of_decide_eq_true (g _ (List.getElem_mem hi)) e.symm
  ·rw[if_neg c] at e;omega
def gx(L:List Int)(ks:Ks):Prop:=∃ms:List Int,ms.Nodup/\(∀c,c∈ms↔c∈L)/\ks=ms.map fun c=>(c,PyData.int (L.count c))
theorem BQ{g:Int->PyData}{c:Int}:∀{ms:List Int},fK (ms.map fun c=>(c,g c)) c=if c∈ms then some (g c) else none
  |[]=>rfl
  | m :: ms => by
    rw[List.map_cons,nV,BQ]
    by_cases h:m=c
    · subst h;simp
    · have h':¬c=m:=fun z=>h z.symm
      simp[h,h']
theorem gx.nil:gx [] []:=⟨[],List.nodup_nil,fun _=>Iff.rfl,rfl⟩
theorem gx.get{L:List Int}{ks:Ks}(h:gx L ks)(c:Int):(fK ks c).getD (.int 0)= .int (L.count c):=by
 obtain⟨ms,nd,hm,rfl⟩:=h
 rw[BQ]
 by_cases e:c∈ms
 ·rw[if_pos e];rfl
 ·rw[if_neg e]
  have:L.count c=0:=List.count_eq_zero.mpr fun z=>e ((hm c).mpr z)
  rw[this];rfl
theorem gx.put{L:List Int}{ks:Ks}(h:gx L ks)(c:Int):gx (L++[c]) (gH ks c (.int ((L.count c:Int)+1))):=by
 obtain⟨ms,nd,hm,rfl⟩:=h
 have hcc:∀x,(L++[c]).count x=L.count x+if c=x then 1 else 0:=fun x=>by
  rw[List.count_append,List.count_singleton]
  by_cases e:c=x
  ·subst e;simp
  ·simp[e]
 unfold gH
 have hk:fR (ms.map fun c=>(c,PyData.int (L.count c))) c=decide (c∈ms):=by
  rw[Bool.eq_iff_iff,rE,List.map_map,decide_eq_true_eq]
  have:(ms.map ((·.1)∘fun c=>(c,PyData.int (L.count c))))=ms:=List.map_id'' (fun _=>rfl) ms
  rw[this]
 rw[hk]
 by_cases e:c∈ms
 ·rw[if_pos (decide_eq_true e)]
  refine⟨ms,nd,fun x=>?_,?_⟩
  ·rw[List.mem_append,List.mem_singleton,hm x]
   exact⟨.inl,fun z=>z.elim id fun z=>by rw[z];exact(hm c).mp e⟩
  ·rw[List.map_map]
   apply List.map_congr_left
   intro x hx
   show(if x=c then(x,PyData.int ((L.count c:Int)+1)) else(x, .int (L.count x)))=_
   rw[hcc x]
   by_cases z:x=c
   ·subst z;simp
   ·rw[if_neg z,if_neg (fun w=>z w.symm)];rfl
 ·rw[if_neg (by simpa using e)]
  refine⟨ms++[c],?_,fun x=>?_,?_⟩
  ·rw[List.nodup_append]
   exact⟨nd,by simp,fun a ha b hb z=>by rw[List.mem_singleton.mp hb] at z;exact e (z▸ha)⟩
  ·rw[List.mem_append,List.mem_append,hm x]
  ·rw[List.map_append]
   congr 1
   ·apply List.map_congr_left
    intro x hx
    rw[hcc x,if_neg (fun w=>by subst w;exact e hx)];rfl
   ·show[(c,PyData.int ((L.count c:Int)+1))]=[(c,PyData.int (((L++[c]).count c:Nat):Int))]
    rw[hcc c,if_pos rfl];rfl
theorem gx.len{L:List Int}{ks:Ks}(h:gx L ks){m:Nat}(hb:∀c∈L,0<=c/\c<m):ks.length<=m:=by
 obtain⟨ms,nd,hm,rfl⟩:=h
 rw[List.length_map]
 have:=List.Nodup.length_le_of_subset (l₂:=(List.range m).map fun(i:Nat)=>(i:Int)) nd fun k hk=>by
  obtain⟨a,b⟩:=hb k ((hm k).mp hk)
  exact List.mem_map.mpr ⟨k.toNat,List.mem_range.mpr (by omega),by omega⟩
 simpa using this
theorem gx.vals{L:List Int}{ks:Ks}(h:gx L ks):∃ns:List Int,ks.map (·.2)=ns.map PyData.int/\(decide ((1:Int)∈ns) !=true)=pZ L:=by
 obtain⟨ms,nd,hm,rfl⟩:=h
 refine⟨ms.map fun c=>(L.count c:Int),by rw[List.map_map,List.map_map];rfl,?_⟩
 unfold pZ
 have hb:∀b:Bool,(b !=true)=!b:=by decide
 rw[hb,Bool.eq_iff_iff,List.all_eq_true,Bool.not_eq_true',decide_eq_false_iff_not,List.mem_map]
 constructor
 ·intro g c hc
  exact decide_eq_true fun z=>g ⟨c,(hm c).mpr hc,by rw[z];rfl⟩
 ·rintro g ⟨c,hc,e⟩
  exact of_decide_eq_true (g c ((hm c).mp hc)) (by omega)
theorem Sb(rows:List (List Int))(ai:List Int)(p:Int):Lr rows (ai++[p])=Lr rows ai++rows.getD p.toNat []:=by unfold Lr;simp
structure tQ(n:Int)(l:List Int):Prop where
 nd:l.Nodup
 rg:∀x∈l,0<=x/\x<n
theorem tQ.len{n:Int}{l:List Int}(h:tQ n l)(hn:n<=400):l.length<=400:=by
 have:=List.Nodup.length_le_of_subset (l₂:=(List.range n.toNat).map fun(i:Nat)=>(i:Int)) h.nd fun k hk=>by
  obtain⟨a,b⟩:=h.rg k hk
  exact List.mem_map.mpr ⟨k.toNat,List.mem_range.mpr (by omega),by omega⟩
 rw[List.length_map,List.length_range] at this
 omega
theorem qU(ai:List Int)(prs:ak)(pr:Int×Int):(prs++[pr]).filter (fun pr=>decide (pr.1∈ai))=prs.filter (fun pr=>decide (pr.1∈ai))++if pr.1∈ai then[pr] else[]:=by
 rw[List.filter_append]
 congr 1
 by_cases h:pr.1∈ai
 ·simp[h]
 ·simp[h]
theorem CT(q:Int->Bool){xs:List Int}{j:Nat}{x:Int}(e:xs[j]?=some x):(xs.take (j+1)).filter q=(xs.take j).filter q++if q x=true then[x] else[]:=by
 rw[take_snoc e,List.filter_append]
 congr 1
 rw[List.filter_cons,List.filter_nil]
end L2
set_option maxRecDepth 100000
set_option maxHeartbeats 4000000
namespace L2
open PySem PySem.Spec PyProof.Rows
section
variable{G:Gx}{ρ:Rh}{te:TE}{i:Nat}{f:Bool}{K:PySem.W.Frag}
theorem Tv.Ni{Θ:Bool->Prop}{a:Addr}{ds:List PyData}(e:ρ[i]?=some (.own a f ds))(h:Θ (!ds.isEmpty)):Tv G ρ (rP K (bq i)) Θ:=fun nb σ H Q W z=>by
 obtain⟨x,e1,h1,h2,h3,xs,hx,hd⟩:=W.ok i _ e
 subst h1
 have hl:=hd.length
 have:xs.isEmpty=ds.isEmpty:=by cases xs<;>cases ds<;>first|rfl|(simp at hl)
 refine⟨.ref a,e1,_, .inl ⟨xs, .of hx,rfl⟩,?_⟩
 rw[this]
 exact z _ H h (.refl W.aA)
theorem Tv.L7{Θ:Bool->Prop}(h:Ev G ρ te fun _ x=>∃ds,x= .list ds/\Θ (!ds.isEmpty)):Tv G ρ (rP K te) Θ:=fun nb σ H Q W z=>
 h nb σ H _ W fun f v H1 d ⟨ds,e,q⟩ s1 hv=>by
  subst e
  obtain⟨a,xs,rfl,n,hx,hd⟩:=hv.cU
  have hl:=hd.length
  have:xs.isEmpty=ds.isEmpty:=by cases xs<;>cases ds<;>first|rfl|(simp at hl)
  refine⟨_, .inl ⟨xs, .of hx,rfl⟩,?_⟩
  rw[this]
  exact z _ H1 q s1
end
end L2
set_option maxRecDepth 100000
set_option maxHeartbeats 4000000
namespace L2
open PySem PySem.Spec PyProof.Rows
def Cg:V->List V->Hp->VK->Prop:=fun x vs H Q=>∃a kvs k v,x= .ref a/\vs=[kV k]/\H a=some (.dK kvs)/\dQ kvs k=some v/\Q v (upd H a (.dK (jl kvs k)))
theorem Iu{X:Cx}:sj X "dict.pop" Cg:=by
 intro pins s σ H x vs v us Q I rx rv h
 obtain⟨a,kvs,k,w,rfl,rfl,hH,hv,q⟩:=h
 cases rx
 obtain⟨u,rfl,ru⟩:=rv.one
 exact Ut I hH ru hv (.inl rfl) fun w' s' I' r'=>⟨w,_,I',r',q⟩
theorem au.drop{S:Addr->Prop}{H:Hp}{k:Int}:∀{ks:Ks} {ps:List (Key×V)},au S H (ks.map bY) ps->au S H ((nj ks k).map bY) (jl ps (Sum.inl k))
  |[],ps,h=>by unfold au at h;subst h;unfold nj jl;simp only[List.filter_nil,List.map_nil];unfold au;rfl
  | p :: r, ps, h => by
    rw[List.map_cons] at h
    unfold au at h
    obtain⟨q,qs,rfl,h1,h2⟩:=h
    have ih:=au.drop (k:=k) h2
    have h0:=h1
    unfold cC at h1
    have h3:q.1=Sum.inl p.1:=h1.1
    unfold nj jl at ih⊢
    rw[List.filter_cons,List.filter_cons]
    by_cases e:p.1=k
    · rw[if_neg (by simpa using e),if_neg (by rw[h3,e];simp)]
      exact ih
    · rw[if_pos (by simpa using e),if_pos (by rw[h3];simpa using e),List.map_cons]
      unfold au
      exact⟨q,_,rfl,h0,ih⟩
section
variable{G:Gx}{ρ:Rh}{ta tb te:TE}{t:TA}{E:DE}{i j m n:Nat}{f:Bool}{K K2 K3:PySem.W.Frag}{Φ:Pd}
theorem Sv.CQ{a:Addr}{ks:Ks}(e:ρ[i]?=some (.aX a f ks))(h:Ev G ρ te fun _ y=>∃k,y= .int k/\fR ks k=true/\E.nx (ρ.set i (.aX a f (nj ks k)))):
  Sv G ρ (qN (lN K "dict" Cg (bq i) (aS te bh))) E:=fun nb σ H D W KK=>by
 obtain⟨x,e1,h1,h2,h3,ps,hp,hd⟩:=W.ok i _ e
 subst h1
 refine⟨.ref a,e1, .inr (.inr (.inl ⟨rfl, .inl ⟨_,hp⟩⟩)),h nb σ H _ W fun g v H1 y ⟨k,ey,hk,q⟩ s1 hv=>?_⟩
 subst ey
 have hk':=hv.bD
 subst hk'
 have hd1:=hd.keep s1.cH
 have:=au.val k hd1
 rw[<-DI] at hk
 obtain⟨d,ed⟩:=Option.isSome_iff_exists.mp hk
 rw[ed] at this
 obtain⟨v,hv',_⟩:=this
 exact⟨a,ps, .inl k,v,rfl,rfl,s1.1 _ _ h3 hp,hv',KK.nx nb _ _ _ q (FU (W.step s1) e (au.drop hd1))⟩
theorem jh.Po{Ψ:PyData->Prop}{a:Addr}{ks:Ks}(i:Nat)(e:ρ[i]?=some (.aX a f ks))(h:jh G (ρ.set i (.d f (.dict (ks.map bY)))) te Ψ):jh G ρ te Ψ:=fun nb σ H Q W z=>h _ σ H Q (E4 W e) z
theorem Ev.P9(h:jh G ρ te fun d=>Φ true d):Ev G ρ te Φ:=fun nb σ H Q W z=>h nb σ H Q W fun v H' d p st hd=>z true v H' d p st (hd.av fun a q=>W.fJ a q)
theorem ay.YG{Θ:Bool->List PyData->Prop}{a:Addr}{ds:List PyData}(i:Nat)(e:ρ[i]?=some (.own a f ds))(h:ay G (ρ.set i (.d f (.list ds))) te fun _ es=>es.all gQ=true/\Θ true es):ay G ρ te Θ:=fun nb σ H Q W z=>
 h _ σ H Q (Sv.share W e) fun f c xs H' es ⟨hs,p⟩ st hc hx hd=>z true c xs H' es p st hc hx (af.i9 hs hd)
def Hj:V->V->Hp->VK->Prop:=fun o i H Q=>∃a xs k v,o= .ref a/\i= .int k/\H a=some (.lst xs)/\0<=k/\bB xs k=some v/\Q v H
theorem Sv.WG{a:Addr}{ds:List PyData}{g:Int->Int->Int}{c:Int}(e:ρ[i]?=some (.own a f ds))(h:Ev G ρ tb fun _ y=>∃k m x,y= .int k/\0<=k/\fG ds.length k=some m/\bB ds k=some (.int x)/\E.nx (ρ.set i (.own a f (ds.set m (.int (g x c)))))):
  Sv G ρ (Gk (bq i) tb (tC (.int c)) Hj (Dz g) pD) E:=fun nb σ H D W KK=>by
 obtain⟨x,e1,h1,h2,h3,xs,hx,hd⟩:=W.ok i _ e
 subst h1
 refine⟨.ref a,e1,h nb σ H _ W fun g' u H2 y ⟨k,m,x,ey,k0,hm,ha,p⟩ s2 hu=>?_⟩
 subst ey
 have hk:=hu.bD
 subst hk
 have EV:=s2.1 _ _ h3 hx
 have hd2:=hd.keep s2.cH
 obtain⟨w,hw,hD⟩:=hd2.bB ha
 have Yi:=hD.bD
 subst Yi
 refine⟨a,xs,k,_,rfl,rfl,EV,k0,hw,x,c,rfl,rfl,a,xs,k,m,rfl,rfl,EV,by rw[hd.length];exact hm,KK.nx nb _ _ _ p (vH (W.step s2) e ?_)⟩
 exact af.set' (.int _) m hd2
theorem Sv.NV{F:DF}{i0 q:Nat}{a aq:Addr}{f0 fq:Bool}{C0 ws cs:List PyData}{ks:Ks}{c:Int}{dd:PyData}(hm:cJ F)(LD:j≠q)
  (e0:ρ[i0]?=some (.d f0 (.tuple C0))) (e2:bB C0 2=some (.list cs)) (ej:ρ[j]?=some (.own a f (ws++[.int c]))) (eq:ρ[q]?=some (.aX aq fq ks)) (hc:bB cs c=some dd)
  (h:F [dd, .dict (ks.map bY)] fun g d=>g=true/\E.nx ((ρ.set j (.own a f ws)).set m (.d true d))):
  Sv G ρ (fW (eS (bJ 2 F) [] E0 (aS (bX (bI K) (bX (cO K2) (bq i0) (tC (.int 2))) (lN K3 "list" Fv (bq j) bh)) (aS (bq q) bh))) (dW m)) E:=fun nb σ H D W KK=>by
 obtain⟨x0,U0,v0,rfl,hd0⟩:=W.ok i0 _ e0
 obtain⟨a0,LL,rfl,n0,iJ,RI⟩:=hd0.ofT
 obtain⟨w2,Qt,nD⟩:=RI.bB e2
 obtain⟨aL,UT,rfl,nL,KI,hdL⟩:=nD.cU
 obtain⟨wc,QD,Xi⟩:=hdL.bB hc
 obtain⟨x,e1,h1,h2,h3,xs,hx,hd⟩:=W.ok j _ ej
 subst h1
 have hlx:=hd.length
 rw[List.length_append,List.length_singleton] at hlx
 obtain⟨vl,hvl,rG⟩:=hd.get (i:=ws.length) (d:= .int c) (by rw[List.getElem?_append_right (Nat.le_refl _),Nat.sub_self];rfl)
 have OT:=rG.bD
 subst OT
 have hne:aL≠a:=fun z=>nL (by rw[z];exact .inl h2)
 have hxs:xs.dropLast=xs.take ws.length:=by rw[List.dropLast_eq_take,hlx];rfl
 have T3:af (G.S nb f) H ws xs.dropLast:=by
  have:=hd.take ws.length
  rw[List.take_left] at this
  rw[hxs];exact this
 have W1:=vH W ej T3
 have eq':(ρ.set j (.own a f ws))[q]?=some (.aX aq fq ks):=by rw[List.getElem?_set_ne LD];exact eq
 obtain⟨y,e3,k1,k2,k3,ps,hp,hdp⟩:=W1.ok q _ eq'
 subst k1
 have S1:=E4 W1 eq'
 refine⟨.ref a0,U0,a0,LL,2, .ref aL,rfl,rfl, .of iJ,Qt, .ref a,e1, .inl ⟨rfl,_,aQ.of hx⟩,a,xs, .int c,rfl,rfl,hx,by rw[hlx,Nat.add_sub_cancel];exact hvl,?_⟩
 refine⟨aL,UT,c,wc,rfl,rfl, .of (by rw[aN hne];exact KI),QD, .ref aq,e3,?_⟩
 have MV:ah (G.S nb f0) (upd H a (.lst xs.dropLast)) dd wc:=Xi.keep (aP.set (.inl h2))
 have K4:((ρ.set j (.own a f ws)).set q (.d fq (.dict (ks.map bY))))[q]?=some (.d fq (.dict (ks.map bY))):=List.getElem?_set_self (by rw[List.length_set];exact(List.getElem?_eq_some_iff.mp eq).1)
 obtain⟨y',e4,v4,e5,R7⟩:=S1.ok q _ K4
 rw[e3] at e4
 cases e4
 cases e5
 refine⟨rfl,(fun x=>G.S (fun x=>nb x/\x≠aq) false x),[dd, .dict (ks.map bY)],S1.fJ, .cons (MV.av fun x z=>?_) (.cons (R7.av (bU (fun z=>by cases z) fun _ z=>z)) .nil),hm _ _ _ h fun g d ⟨hg,p⟩ v H' sm hv=>?_⟩
 ·rcases z with z|z|z|z
  ·exact .inl z.1
  ·exact .inr (.inl z)
  ·exact .inr (.inr (.inl z))
  ·cases z.1
 ·subst hg
  have st:Step G.B (upd H a (.lst xs.dropLast)) H':= .same W1.aA sm
  refine KK.nx nb _ _ _ p ((W1.step st).lu (i:=m) (f:=true) (hv.av fun x z=> .inr ⟨rfl,W1.fJ x z⟩))
end
theorem Y7{X:Cx}:EY X Hj:=by
 intro pins s σ H o i ov iv Q I ro ri h
 obtain⟨a,xs,k,v,rfl,rfl,hH,k0,hv,q⟩:=h
 cases ro
 obtain⟨t,rfl⟩:=ri
 obtain⟨its,r,pl,hz⟩:=I.list (aQ.of hH)
 obtain⟨j,h1,h2,h3,h4,h5⟩:=rK hv
 obtain⟨w,ew,rw'⟩:=r.get h2
 have hl:=r.length
 have hn:=lT
 have hj:k.toNat=j:=by
  rw[seqIndex_of k0 h5] at h1
  exact Option.some.inj h1
 exact wpAny_getItem_list pl.isList k0 (by omega) (by rw[hj];simpa using ew) ⟨v,H,I,rw',q⟩
structure gY(cs:List ak)(ai g:List Int):Prop where
 sub:∃q:Int->Bool,g=ai.filter q
 out:dI cs g=true
 max:∀T:List Int,(∀x∈T,x∈ai)->dI cs T=true->∀x∈T,x∈g
structure GI(cs:List ak)(ai S cn ws:List Int):Prop where
 sub:∃q:Int->Bool,S=ai.filter q
 cnt:cn=cs.map fun prs=>(br S prs:Int)
 nd:ws.Nodup
 rg:∀w∈ws,0<=w/\w<cs.length
 one:∀(c:Nat) prs,cs[c]?=some prs->br S prs=1->(c:Int)∈ws
 few:∀w∈ws,∀prs,cs[w.toNat]?=some prs->br S prs<=1
 max:∀T:List Int,(∀x∈T,x∈ai)->dI cs T=true->∀x∈T,x∈S
theorem GI.mem{cs:List ak}{ai S cn ws:List Int}(h:GI cs ai S cn ws):∀x∈S,x∈ai:=fun x hx=>by
 obtain⟨q,e⟩:=h.sub
 rw[e] at hx
 exact(List.mem_filter.mp hx).1
theorem GI.done{cs:List ak}{ai S cn:List Int}(h:GI cs ai S cn []):gY cs ai S:=by
 refine⟨h.sub,?_,h.max⟩
 unfold dI
 rw[List.all_eq_true]
 intro prs hp
 refine decide_eq_true fun z=>?_
 obtain⟨c,hc⟩:=List.getElem?_of_mem hp
 exact absurd (h.one c prs hc z) (by simp)
theorem GI.drop{cs:List ak}{ai S cn ws:List Int}{w:Int}{prs:ak}(h:GI cs ai S cn (ws++[w]))(hp:cs[w.toNat]?=some prs)(h0:br S prs=0):GI cs ai S cn ws:=by
 obtain⟨n1,_,n3⟩:=List.nodup_append.mp h.nd
 refine⟨h.sub,h.cnt,n1,fun x hx=>h.rg x (List.mem_append_left _ hx),fun c u hu h1=>?_,fun x hx=>h.few x (List.mem_append_left _ hx),h.max⟩
 rcases List.mem_append.mp (h.one c u hu h1) with z|z
 ·exact z
 ·have e:=List.mem_singleton.mp z
  rw[<-e,Int.toNat_natCast,hu] at hp
  cases hp
  omega
theorem AH{S T:List Int}(h:∀x∈T,x∈S)(prs:ak):br T prs<=br S prs:=by
  unfold br
  induction prs with
  |nil=>exact Nat.le_refl _
  | cons pr prs ih =>
    rw[List.filter_cons,List.filter_cons]
    by_cases c:pr.1∈T
    · rw[if_pos (by simpa using c),if_pos (by simpa using h _ c),List.length_cons,List.length_cons];omega
    · rw[if_neg (by simpa using c)]
      by_cases c2:pr.1∈S
      · rw[if_pos (by simpa using c2),List.length_cons];omega
      · rw[if_neg (by simpa using c2)];exact ih
theorem vD{S:List Int}{x:Int}(hx:x∈S)(prs:ak):br S prs=(prs.map (·.1)).count x+br (S.filter fun y=>decide (y≠x)) prs:=by
  unfold br
  induction prs with
  |nil=>rfl
  | cons pr prs ih =>
    rw[List.filter_cons,List.filter_cons,List.map_cons,List.count_cons]
    by_cases c:pr.1=x
    · rw[if_pos (by simp[c,hx]),if_pos (by simp[c]),if_neg (by simp[c]),List.length_cons,ih];omega
    · by_cases c2:pr.1∈S
      · rw[if_pos (by simpa using c2),if_neg (by simpa using c),if_pos (by simp[c,c2]),List.length_cons,List.length_cons,ih];omega
      · rw[if_neg (by simpa using c2),if_neg (by simpa using c),if_neg (by simp[c2]),ih];omega
theorem qT{T:List Int}{x:Int}{prs:ak}(hx:x∈T)(h:x∈prs.map (·.1)):1<=br T prs:=by
 obtain⟨pr,hp,e⟩:=List.mem_map.mp h
 unfold br
 exact List.length_pos_of_mem (List.mem_filter.mpr ⟨hp,by rw[e];simpa using hx⟩)
structure GJ(cs:List ak)(S row:List Int)(c0:Int)(m:Nat)(cn ws:List Int):Prop where
 len:cn.length=cs.length
 cnt:∀(c:Nat) prs,cs[c]?=some prs->cn[c]?=some ((br S prs:Int)-((row.take m).count (c:Int):Int))
 nd:ws.Nodup
 rg:∀w∈ws,0<=w/\w<cs.length
 one:∀(c:Nat),cn[c]?=some 1->(c:Int)∈ws\/(c:Int)=c0
 few:∀w∈ws,∀v,cn[w.toNat]?=some v->v<=1
theorem GI.start{cs:List ak}{ai S cn ws row:List Int}{c0:Int}(h:GI cs ai S cn (ws++[c0])):GJ cs S row c0 0 cn ws:=by
 obtain⟨n1,_,n3⟩:=List.nodup_append.mp h.nd
 have hcn:∀(c:Nat) v,cn[c]?=some v->∃prs,cs[c]?=some prs/\v=(br S prs:Int):=fun c v e=>by
  rw[h.cnt] at e
  exact cW e
 refine⟨by rw[h.cnt,List.length_map],fun c prs e=>?_,n1,fun x hx=>h.rg x (List.mem_append_left _ hx),fun c e=>?_,fun x hx v e=>?_⟩
 ·rw[h.cnt,List.getElem?_map,e]
  simp
 ·obtain⟨prs,e1,e2⟩:=hcn c 1 e
  rcases List.mem_append.mp (h.one c prs e1 (by omega)) with z|z
  ·exact .inl z
  ·exact .inr (List.mem_singleton.mp z)
 ·obtain⟨prs,e1,e2⟩:=hcn _ v e
  have:=h.few x (List.mem_append_left _ hx) prs e1
  omega
theorem GJ.at{cs:List ak}{S row cn ws:List Int}{c0:Int}{m:Nat}(h:GJ cs S row c0 m cn ws){c:Int}(h0:0<=c)(h1:c<cs.length):∃v,cn[c.toNat]?=some v:=by
 have:=h.len
 exact⟨_,List.getElem?_eq_getElem (by omega)⟩
theorem GJ.step{cs:List ak}{S row cn ws:List Int}{c0 c v:Int}{m:Nat}(h:GJ cs S row c0 m cn ws)(hm:row[m]?=some c)(h0:0<=c)(h1:c<cs.length)(hv:cn[c.toNat]?=some v):
  GJ cs S row c0 (m+1) (cn.set c.toNat (v-1)) (if v-1=1 then ws++[c] else ws):=by
 have zD:c.toNat<cn.length:=(List.getElem?_eq_some_iff.mp hv).1
 have hcc:((c.toNat:Nat):Int)=c:=by omega
 have Dj:∀w∈ws,∀u,(cn.set c.toNat (v-1))[w.toNat]?=some u->u<=1:=fun w hw u e=>by
  by_cases z:c.toNat=w.toNat
  ·rw[z,List.getElem?_set_self (by omega)] at e
   cases e
   rw[z] at hv
   have:=h.few w hw v hv
   omega
  ·rw[List.getElem?_set_ne z] at e
   exact h.few w hw u e
 refine⟨by rw[List.length_set];exact h.len,fun k prs e=>?_,?_,?_,fun k e=>?_,?_⟩
 ·have e0:=h.cnt k prs e
  rw[take_snoc hm,List.count_append,List.count_singleton]
  by_cases z:c.toNat=k
  ·subst z
   rw[List.getElem?_set_self zD,hcc]
   rw[e0,hcc] at hv
   cases hv
   rw[if_pos (by simp)]
   congr 1
   omega
  ·rw[List.getElem?_set_ne z,e0,if_neg (by simp;omega)]
   rfl
 ·split
  ·rename_i hone
   rw[List.nodup_append]
   refine⟨h.nd,by simp,fun a ha b hb z=>?_⟩
   rw[List.mem_singleton.mp hb] at z
   subst z
   have:=h.few a ha v hv
   omega
  ·exact h.nd
 ·split
  ·intro w hw
   rcases List.mem_append.mp hw with z|z
   ·exact h.rg w z
   ·rw[List.mem_singleton.mp z];exact⟨h0,h1⟩
  ·exact h.rg
 ·by_cases z:c.toNat=k
  ·subst z
   rw[List.getElem?_set_self zD] at e
   have e:=Option.some.inj e
   rw[if_pos e,hcc]
   exact .inl (List.mem_append_right _ (by simp))
  ·rw[List.getElem?_set_ne z] at e
   rcases h.one k e with q|q
   ·split
    ·exact .inl (List.mem_append_left _ q)
    ·exact .inl q
   ·exact .inr q
 ·split
  ·rename_i hone
   intro w hw u e
   rcases List.mem_append.mp hw with z|z
   ·exact Dj w z u e
   ·rw[List.mem_singleton.mp z,List.getElem?_set_self zD] at e
    cases e
    omega
  ·exact Dj
theorem GJ.fin{cs:List ak}{ai S cn iG ws j6 row:List Int}{c0 x:Int}{gX:ak}(h:GI cs ai S cn (ws++[c0]))(hp0:cs[c0.toNat]?=some gX)(hx:x∈S)(iJ:x∈gX.map (·.1))(z7:∀(c:Nat) prs,cs[c]?=some prs->row.count (c:Int)=(prs.map (·.1)).count x)
    (j:GJ cs S row c0 row.length iG j6):GI cs ai (S.filter fun y=>decide (y≠x)) iG j6:=by
  have hc0:=h.rg c0 (List.mem_append_right _ (by simp))
  have hfew:=h.few c0 (List.mem_append_right _ (by simp)) gX hp0
  have hone:=qT hx iJ
  have hn:∀prs,br (S.filter fun y=>decide (y≠x)) prs=br S prs-(prs.map (·.1)).count x:=fun prs=>by have:=vD hx prs;omega
  have hcn:∀(c:Nat) prs,cs[c]?=some prs->iG[c]?=some (br (S.filter fun y=>decide (y≠x)) prs:Int):=fun c prs e=>by
    rw[j.cnt c prs e,List.take_length,z7 c prs e]
    have:=vD hx prs
    congr 1
    omega
  refine⟨?_,?_,j.nd,j.rg,fun c prs e h1=>?_,fun w hw prs e=>?_,fun T hT ho y hy=>?_⟩
  · obtain⟨q,e⟩:=h.sub
    exact⟨_,by rw[e,List.filter_filter]⟩
  · apply List.ext_getElem?
    intro k
    rw[List.getElem?_map]
    cases e:cs[k]? with
    | none =>
      have:=List.getElem?_eq_none_iff.mp e
      rw[List.getElem?_eq_none (by have:=j.len;omega)];rfl
    |some prs=>rw[hcn k prs e];rfl
  · have e1:=hcn c prs e
    rw[h1] at e1
    rcases j.one c e1 with z|z
    · exact z
    · rw[<-z,Int.toNat_natCast,e] at hp0
      have e9:=Option.some.inj hp0
      subst e9
      have:=vD hx prs
      have hcp:0<(prs.map (·.1)).count x:=List.count_pos_iff.mpr iJ
      omega
  · have hw0:=j.rg w hw
    have e1:=hcn w.toNat prs e
    have:=j.few w hw _ e1
    omega
  · refine List.mem_filter.mpr ⟨h.max T hT ho y hy,decide_eq_true fun z=>?_⟩
    subst z
    have Wh:=h.max T hT ho
    have a1:=AH Wh gX
    have a2:=qT hy iJ
    unfold dI at ho
    rw[List.all_eq_true] at ho
    exact of_decide_eq_true (ho gX (List.mem_of_getElem? hp0)) (by omega)
theorem GI.init{cs:List ak}{ai ws:List Int}(hws:ws=((List.range cs.length).filter fun c=>decide (br ai (cs.getD c [])=1)).map fun(c:Nat)=>(c:Int)):GI cs ai ai (cs.map fun prs=>(br ai prs:Int)) ws:=by
 subst hws
 refine⟨⟨fun _=>true,(List.filter_eq_self.mpr fun _ _=>rfl).symm⟩,rfl,?_,fun w hw=>?_,fun c prs e h1=>?_,fun w hw prs e=>?_,fun T hT _ y hy=>hT y hy⟩
 ·rw[List.nodup_iff_pairwise_ne,List.pairwise_map]
  exact(List.pairwise_lt_range.filter _).imp fun h=>by omega
 ·obtain⟨c,hc,rfl⟩:=List.mem_map.mp hw
  have:=List.mem_range.mp (List.mem_filter.mp hc).1
  omega
 ·refine List.mem_map.mpr ⟨c,List.mem_filter.mpr ⟨List.mem_range.mpr (List.getElem?_eq_some_iff.mp e).1,?_⟩,rfl⟩
  rw[List.getD_eq_getElem?_getD,e]
  exact decide_eq_true h1
 ·obtain⟨c,hc,rfl⟩:=List.mem_map.mp hw
  have:=of_decide_eq_true (List.mem_filter.mp hc).2
  rw[Int.toNat_natCast] at e
  rw[List.getD_eq_getElem?_getD,e] at this
  have h1:br ai prs=1:=this
  omega
theorem GI.len{cs:List ak}{ai S cn ws:List Int}(h:GI cs ai S cn ws):ws.length<=cs.length:=by
 have:=List.Nodup.length_le_of_subset (l₂:=(List.range cs.length).map fun(i:Nat)=>(i:Int)) h.nd fun k hk=>by
  obtain⟨a,b⟩:=h.rg k hk
  exact List.mem_map.mpr ⟨k.toNat,List.mem_range.mpr (by omega),by omega⟩
 simpa using this
theorem GJ.ZL{cs:List ak}{S row cn ws:List Int}{c0:Int}{m:Nat}(h:GJ cs S row c0 m cn ws):ws.length<=cs.length:=by
 have:=List.Nodup.length_le_of_subset (l₂:=(List.range cs.length).map fun(i:Nat)=>(i:Int)) h.nd fun k hk=>by
  obtain⟨a,b⟩:=h.rg k hk
  exact List.mem_map.mpr ⟨k.toNat,List.mem_range.mpr (by omega),by omega⟩
 simpa using this
@[reducible] def bA(S:List Int):Ks:=S.map fun x=>(x,PyData.bool true)
theorem j3(S:List Int)(k:Int):fR (bA S) k=decide (k∈S):=by
 rw[Bool.eq_iff_iff,rE,List.map_map,decide_eq_true_eq]
 have:S.map ((·.1)∘fun x=>(x,PyData.bool true))=S:=List.map_id'' (fun _=>rfl) S
 rw[this]
theorem DR(S:List Int)(k:Int):nj (bA S) k=bA (S.filter fun y=>decide (y≠k)):=by
 unfold nj bA
 rw[List.filter_map]
 rfl
theorem S7{S:List Int}(nd:S.Nodup):mh [] (bA S)=bA S:=by
  have key:∀(S:List Int) (acc:List Int),(acc++S).Nodup->mh (bA acc) (bA S)=bA (acc++S):=by
    intro S
    induction S with
    |nil=>intro acc _;simp[mh,bA]
    | cons x S ih =>
      intro acc nd
      have hx:x∉acc:=fun z=>(List.nodup_append.mp nd).2.2 x z x (by simp) rfl
      show mh (gH (bA acc) x (.bool true)) (bA S)=_
      have e:gH (bA acc) x (.bool true)=bA (acc++[x]):=by
        unfold gH
        rw[j3,if_neg (by simpa using hx)]
        unfold bA
        rw[List.map_append];rfl
      rw[e,ih (acc++[x]) (by rw[List.append_assoc];exact nd),List.append_assoc]
      rfl
  have:=key S [] (by simpa using nd)
  simpa using this
end L2
set_option maxRecDepth 100000
set_option maxHeartbeats 4000000
namespace L2
open PySem PySem.Spec PyProof.Rows
theorem n9:∀{a b:List Int},a.Pairwise (· < ·)->b.Pairwise (· < ·)->(∀k,k∈a↔k∈b)->a=b
  |[],[],_,_,_=>rfl
  |[],y::b,_,_,h=>absurd ((h y).mpr (List.mem_cons_self ..)) (by simp)
  |x::a,[],_,_,h=>absurd ((h x).mp (List.mem_cons_self ..)) (by simp)
  | x :: a, y :: b, ha, hb, h => by
    obtain⟨ha1,ha2⟩:=List.pairwise_cons.mp ha
    obtain⟨hb1,hb2⟩:=List.pairwise_cons.mp hb
    have e:x=y:=by
      rcases List.mem_cons.mp ((h x).mp (List.mem_cons_self ..)) with z|z
      · exact z
      · rcases List.mem_cons.mp ((h y).mpr (List.mem_cons_self ..)) with w|w
        · exact w.symm
        · have:=hb1 x z;have:=ha1 y w;omega
    subst e
    have:a=b:=n9 ha2 hb2 fun k=>by
      constructor
      · intro hk
        rcases List.mem_cons.mp ((h k).mp (List.mem_cons_of_mem _ hk)) with z|z
        · have:=ha1 k hk;omega
        · exact z
      · intro hk
        rcases List.mem_cons.mp ((h k).mpr (List.mem_cons_of_mem _ hk)) with z|z
        · have:=hb1 k hk;omega
        · exact z
    rw[this]
theorem Ys{a b:List Int}(h:b.Pairwise (· < ·))(hs:a.Pairwise (· <= ·))(hp:a.Perm b):a=b:=by
 have nd:a.Nodup:=hp.nodup_iff.mpr (h.imp fun h=>by omega)
 have hlt:a.Pairwise (· < ·):=(hs.and nd).imp fun⟨h1,h2⟩=>by omega
 exact n9 hlt h fun k=>hp.mem_iff
theorem Tq{cs:List ak}{ai S:List Int}{prs:ak}{x:Int}(h:∀T:List Int,(∀x∈T,x∈ai)->dI cs T=true->∀x∈T,x∈S)(hp:prs∈cs)(h1:br S prs=1)(iJ:x∈prs.map (·.1)):
  ∀T:List Int,(∀x∈T,x∈ai)->dI cs T=true->∀y∈T,y∈S.filter fun y=>decide (y≠x):=fun T hT ho y hy=>by
 refine List.mem_filter.mpr ⟨h T hT ho y hy,decide_eq_true fun z=>?_⟩
 subst z
 have a1:=AH (h T hT ho) prs
 have a2:=qT hy iJ
 unfold dI at ho
 rw[List.all_eq_true] at ho
 exact of_decide_eq_true (ho prs hp) (by omega)
theorem Ws(cs:List ak):dI cs []=true:=by
 unfold dI
 rw[List.all_eq_true]
 intro prs _
 refine decide_eq_true fun z=>?_
 have:br [] prs=0:=by unfold br;rw[List.filter_eq_nil_iff.mpr (fun x _=>by simp)];rfl
 omega
theorem gY.mem{cs:List ak}{ai g:List Int}(h:gY cs ai g):∀x∈g,x∈ai:=fun x hx=>by
 obtain⟨q,e⟩:=h.sub
 rw[e] at hx
 exact(List.mem_filter.mp hx).1
theorem gY.up{cs:List ak}{ai g:List Int}(h:gY cs ai g)(hl:ai.Pairwise (· < ·)):g.Pairwise (· < ·):=by
 obtain⟨q,e⟩:=h.sub
 rw[e]
 exact hl.filter q
end L2
set_option maxRecDepth 100000
set_option maxHeartbeats 4000000
namespace L2
open PySem PySem.Spec PyProof.Rows
def E9(row:List Int):Int:=match row.getLast? with|none=>0|some l=>l+1
def Ko(n:Int)(row:List Int):List Int:=(List.range (n-E9 row).toNat).map fun(i:Nat)=>E9 row+(i:Int)
def ext(n:Int)(row:List Int):List (List Int):=(Ko n row).map fun p=>row++[p]
@[reducible] def aaV:Option (List Int)->PyData
 |none=> .none
 |some r=>iR r
theorem JW{α β:Type}{φ:α->β}{l1 l2:List β}(h:l1.Perm l2):∀xs:List α,l2=xs.map φ->∃ys:List α,l1=ys.map φ/\ys.Perm xs:=by
  induction h with
  |nil=>intro xs e;exact⟨[],rfl,by cases xs<;>first|exact .nil|cases e⟩
  | cons x _ ih =>
    intro xs e
    cases xs with
    |nil=>cases e
    | cons a xs =>
      obtain⟨e1,e2⟩:=List.cons.inj e
      obtain⟨ys,e3,p⟩:=ih xs e2
      exact⟨a::ys,by rw[e3,e1];rfl,p.cons a⟩
  | swap x y l =>
    intro xs e
    match xs,e with
    | a :: b :: xs, e =>
      obtain⟨e1,e2⟩:=List.cons.inj e
      obtain⟨e3,e4⟩:=List.cons.inj e2
      exact⟨b::a::xs,by rw[e1,e3,e4];rfl, .swap a b xs⟩
  | trans _ _ ih1 ih2 =>
    intro xs e
    obtain⟨ys,e1,p1⟩:=ih2 xs e
    obtain⟨zs,e2,p2⟩:=ih1 ys e1
    exact⟨zs,e2,p2.trans p1⟩
end L2
set_option maxRecDepth 100000
set_option maxHeartbeats 4000000
set_option maxRecDepth 100000
set_option maxHeartbeats 4000000
set_option maxRecDepth 100000
set_option maxHeartbeats 4000000
set_option maxRecDepth 100000
set_option maxHeartbeats 4000000
namespace L2
open PySem PySem.Spec PyProof.Rows
def gI(r:List Int)(i:Nat):Int:=r.getD i 0
def co(prs:ak)(j:Nat):Int:=(prs.map fun pr=>if pr.1.toNat=j then pr.2 else 0).sum
end L2
set_option maxRecDepth 100000
set_option maxHeartbeats 4000000
set_option maxRecDepth 100000
set_option maxHeartbeats 4000000
set_option maxRecDepth 100000
set_option maxHeartbeats 4000000
set_option maxRecDepth 100000
set_option maxHeartbeats 4000000
namespace L2
open PySem PySem.Spec PyProof.Rows
theorem iu{P:(Addr->Prop)->Prop}{H:Hp}(hP:∀{S S':Addr->Prop},(∀a,S' a->S a)->P S->P S')(hf:∀{S:Addr->Prop} {p:Addr},H p=none->P S->P fun a=>S a\/a=p):∀{L:List Addr} {S:Addr->Prop},(∀a∈L,H a=none)->P S->P fun a=>S a\/a∈L
 |[],S,_,h=>hP (fun a z=>z.elim (fun z=>z) fun z=>by cases z) h
 | p :: L, S, hL, h => hP (fun a z => by
   rcases z with z|z
   ·exact .inl (.inl z)
   ·rcases List.mem_cons.mp z with z|z
    ·exact .inr z
    ·exact .inl (.inr z)) (hf (hL p (List.mem_cons_self ..)) (iu hP hf (L:=L) (fun a m=>hL a (List.mem_cons_of_mem _ m)) h))
section
variable{G:Gx}{ρ:Rh}{nb:Addr->Prop}{σ:St}{H H1:Hp}{i:Nat}{L:List Addr}{c c':Cu}{f:Bool}{d:PyData}{p:Addr}{o:HO}{E:DE}
theorem Wd.FH(W:Wd G nb ρ σ H)(s1:Step G.B H H1)(ha:∀a∈L,H a=none)(e:∀a∈L,H1 a≠none):Wd G (fun x=>nb x\/x∈L) ρ σ H1/\(∀a∈L,NB G.B a)/\∀f x,G.S (fun x=>nb x\/x∈L) f x->(G.S nb f x\/x∈L):=by
  have hN:∀a∈L,NB G.B a:=fun a m=>NB.new W.aA (ha a m)
  have hA:∀f x,G.S (fun x=>nb x\/x∈L) f x->(G.S nb f x\/x∈L):=fun f x z=>by
    rcases z with (z|z)|z|z|z
    · exact .inl (.inl z)
    · exact .inr z
    · exact .inl (.inr (.inl z))
    · exact .inl (.inr (.inr (.inl z)))
    · exact .inl (.inr (.inr (.inr z)))
  have W1:=W.step s1
  have fD:∀{S:Addr->Prop} {d:PyData} {v:V},ah S H d v->ah (fun a=>S a\/a∈L) H d v:=fun{S d v} h=>iu (P:=fun S=>ah S H d v) (fun z h=>ah.av z h) (fun hp h=>ah.fresh hp h) ha h
  have wA:∀{S:Addr->Prop} {d:List PyData} {v:List V},af S H d v->af (fun a=>S a\/a∈L) H d v:=fun{S d v} h=>iu (P:=fun S=>af S H d v) (fun z h=>af.av z h) (fun hp h=>af.fresh hp h) ha h
  have Bw:∀{S:Addr->Prop} {d:List (PyData×PyData)} {v:List (Key×V)},au S H d v->au (fun a=>S a\/a∈L) H d v:=fun{S d v} h=>iu (P:=fun S=>au S H d v) (fun z h=>au.av z h) (fun hp h=>au.fresh hp h) ha h
  have fH:∀{S:Addr->Prop} {d:HD} {v:V},dZ S H d v->dZ (fun a=>S a\/a∈L) H d v:=fun{S d v} h=>iu (P:=fun S=>dZ S H d v) (fun z h=>dZ.av h z) (fun hp h=>dZ.fresh h hp) ha h
  refine⟨?_,hN,hA⟩
  refine⟨W1.aA,fun x n=>?_,W1.old,fun x n q=>?_,W.gA,W.len,W.gB,fun h m=>((fH (W.eW h m)).keep (s1.but fun x z=> .inl (.inr (.inr (.inl z))))).av (hA h.1),fun j s e'=>?_,W.apart,W.dY,W.dh⟩
  · rcases n with n|n
    · exact W1.live x n
    · exact e x n
  · rcases n with n|n
    · exact W.cR x n q
    · cases z:G.H0 x with
      |none=>rfl
      |some o=>have:=ha x n;rw[W.old x o q z] at this;cases this
  · obtain⟨x,e1,h⟩:=W.ok j s e'
    refine⟨x,e1,?_⟩
    cases s with
    |no=>trivial
    |d f d=>obtain⟨v,e,h⟩:=h;exact⟨v,e,((fD h).keep (s1.but fun x z=> .inl (.inr (.inr (.inl z))))).av (hA f)⟩
    |own c f es=>obtain⟨e,n,q,xs,hx,hd⟩:=h;exact⟨e, .inl n,q,xs,s1.1 _ _ q hx,((wA hd).keep (s1.but fun x z=> .inl (.inr (.inr (.inl z))))).av (hA f)⟩
    |aA=>exact h
    |raw v=>exact h
    |aX c f es=>obtain⟨e,n,q,xs,hx,hd⟩:=h;exact⟨e, .inl n,q,xs,s1.1 _ _ q hx,((Bw hd).keep (s1.but fun x z=> .inl (.inr (.inr (.inl z))))).av (hA f)⟩
    | cu c =>
      obtain⟨e,n,q⟩:=h
      refine⟨e,fun a ha=>⟨.inl (n a ha).1,(n a ha).2⟩,c.av (hA c.f) (c.keep (.of fun x o hx e=>s1.1 x o ?_ e) (iu (P:=fun S=>c.P S H) (fun z h=>c.av z h) (fun hp h=>c.fresh hp h) ha q))⟩
      rcases hx with hx|hx
      · exact Classical.byContradiction fun z=>hx (.inl (.inr (.inr (.inl z))))
      · exact(n x hx).2
theorem kJ.yi{x:Option V}{s:Sl}(h:kJ G nb H x s):∀a∈s.adr,nb a/\NB G.B a:=by
 cases s with
 |own a f ds=>intro x hx;rw[List.mem_singleton.mp hx];exact⟨h.2.1,h.2.2.1⟩
 |aX a f ds=>intro x hx;rw[List.mem_singleton.mp hx];exact⟨h.2.1,h.2.2.1⟩
 |cu c=>exact h.2.1
 |no=>intro _ z;cases z
 |d _ _=>intro _ z;cases z
 |aA=>intro _ z;cases z
 |raw _=>intro _ z;cases z
theorem Wd.Js(W:Wd G nb ρ σ H)(s1:Step G.B H H1)(ha:∀a∈c.F,H a=none)(e:∀a∈c.F,H1 a≠none)(hP:c.P (fun x=>G.S nb c.f x\/x∈c.F) H1):Wd G (fun x=>nb x\/x∈c.F) (ρ.set i (.cu c)) (σ.set i (some c.v)) H1:=by
 obtain⟨W2,hN,hA⟩:=W.FH s1 ha e
 refine W2.set ⟨rfl,fun a m=>⟨.inr m,hN a m⟩,c.av (hA c.f) hP⟩ (fun _ _ _ z=>by cases z) (fun _ _ _ z=>by cases z) (fun x hx j t hj ht hc z=>?_)
 obtain⟨y,e1,h⟩:=W.ok j _ ht
 exact W.live x (h.yi x z).1 (ha x hx)
theorem Wd.BI(W:Wd G nb ρ σ H)(e:ρ[i]?=some (.cu c))(hp:p∈c.F)(hv:c'.v=c.v)(hF:∀a∈c'.F,a∈c.F)(h:c'.P (G.S nb c'.f) (upd H p o)):Wd G nb (ρ.set i (.cu c')) σ (upd H p o):=by
 obtain⟨x,e1,h1,h2,h3⟩:=W.ok i _ e
 subst h1
 have hil:i<ρ.length:=(List.getElem?_eq_some_iff.mp e).1
 have W0:Wd G nb (ρ.set i .no) (σ.set i (some c.v)) H:=W.set trivial fun _ _ _ z=>by cases z
 have other:∀(j:Nat) s,(ρ.set i .no)[j]?=some s->s≠ .no->p∉s.adr:=fun j s hs hn=>by
  have hij:i≠j:=fun z=>by subst z;rw[List.getElem?_set_self hil] at hs;cases hs;exact hn rfl
  rw[List.getElem?_set_ne hij] at hs
  exact W.dh i j c s hij e hs p hp
 have W1:Wd G nb (ρ.set i .no) (σ.set i (some c.v)) (upd H p o):=W0.write (h2 p hp).1 (h2 p hp).2 (fun j a f ds hs z=>other j _ hs (by intro z;cases z) (List.mem_singleton.mpr z.symm)) (fun j a f ds hs z=>other j _ hs (by intro z;cases z) (List.mem_singleton.mpr z.symm)) (fun j c hs=>other j _ hs (by intro z;cases z))
 have W2:=W1.set (i:=i) (s:= .cu c') (x:=some c.v) ⟨by rw[hv],fun a m=>h2 a (hF a m),h⟩ (fun _ _ _ z=>by cases z) (fun _ _ _ z=>by cases z) (fun x hx j t hj ht hc=>by
  rw[List.getElem?_set_ne (Ne.symm hj)] at ht
  exact W.dh i j c t (Ne.symm hj) e ht x (hF x hx))
 rw[List.set_set,List.set_set] at W2
 have:σ.set i (some c.v)=σ:=by
  apply List.ext_getElem?
  intro j
  by_cases hij:i=j
  ·subst hij;rw[List.getElem?_set_self (by rw[W.len];exact hil),e1]
  ·rw[List.getElem?_set_ne hij]
 rwa[this] at W2
end
end L2
set_option maxRecDepth 100000
set_option maxHeartbeats 4000000
namespace L2
open PySem PySem.Spec PyProof.Rows
abbrev aaP:=Int×Addr×List PyData
end L2
set_option maxRecDepth 100000
set_option maxHeartbeats 4000000
set_option maxRecDepth 100000
set_option maxHeartbeats 4000000
namespace L2
open PySem PySem.Spec PyProof.Rows
@[reducible] def p9(t:Int×Int×Int):PyData:= .tuple [.int t.1, .int t.2.1, .int t.2.2]
end L2
set_option maxRecDepth 100000
set_option maxHeartbeats 4000000
namespace L2
open PySem PySem.Spec PyProof.Rows
def brk(p:Int)(cs:List ak)(ws:List Int):Nat:=cs.countP fun prs=>decide (aG prs (ws.map some)%p≠0)
end L2
set_option maxRecDepth 100000
set_option maxHeartbeats 4000000
namespace L2
open PySem PySem.Spec PyProof.Rows
abbrev B7:=Int×Int×Int
theorem Xo(ts:List B7):SeqAt.shaped (.list (ts.map p9))=true:=by
 have h:PyData.depthAll (ts.map p9)<=1/\PyData.canLayAll0 (ts.map p9)=true:=by
  induction ts with
  |nil=>simp[PyData.depthAll,PyData.canLayAll0]
  |cons a r ih=>simp[p9,PyData.depthAll,PyData.depth,PyData.canLayAll0,PyData.canLay0,ih.2];have:=ih.1;omega
 unfold SeqAt.shaped
 simp only[PyData.canLay0,PyData.depth,h.2,Bool.true_and]
 have:=h.1
 simp
 omega
theorem Uv:SeqAt.shaped (.list [])=true:=by with_unfolding_all rfl
theorem NN(ts:List B7):(PyData.eqv (.list (ts.map p9)) (.list []) !=false)=decide (ts=[]):=by
 cases ts<;>simp[PyData.eqv,PyData.eqvAll]
end L2
set_option maxRecDepth 100000
set_option maxHeartbeats 4000000
set_option maxRecDepth 100000
set_option maxHeartbeats 4000000
namespace L2
open PySem PySem.Spec PyProof.Rows
structure jS(P:Program)(w:World)(K:PySem.W.Frag)(mg:Str->Option Value)(base:Heap)(C:Addr)(m:Str)(k:Nat)(ps:List Str)(sp:Sp):Prop where
 cl:dJ K C
 ex:∃f fd,aY P w K mg base bw k f fd ps sp/\Binds K fd ps []/\Meth K C m f
structure Bj(P:Program)(w:World)(K:PySem.W.Frag)(mg:Str->Option Value)(base:Heap)(C:Addr)(x:Str)(k:Nat)(ps:List Str)(sp:Sp):Prop where
 ex:∃f fd,aY P w K mg base bw k f fd ps sp/\Binds K fd ps []/\Mk K C f/\mg x=some (.ref C)
section
variable{X:Cx}{C:Addr}{k:Nat}{ps:List Str}{sp:Sp}{x m:Str}{p pos apos:Pos}{e o:Expr}{es:List Expr}{ta:TE}{t:TA}
theorem aaL{pl:Sem Bool}(c:jS X.prog X.w X.K X.mg X.base C m k ps sp)(he:PE X o ta)(hr:cP k X.A)(ha:PA X (e::es) t)
  (hst:starEach (e::es) X.env=(false,eval e X.env)::starEach es X.env:=by rfl) (hpl:(backTo pos (starEach es X.env)).any (·.1)=false:=by rfl)
  (ht : eval (.Call (.Attribute o m apos) (e :: es) [] pos) X.env = (do
   let ov<-eval o X.env
   standAt apos.atName
   let (f,first)<-holding [ov] (getMethod ov m pl)
   callWith pos f first (backTo pos (starEach (e::es) X.env)) (backToKw pos (keywordEach [] X.env))):=by rfl):
  PE X (.Call (.Attribute o m apos) (e::es) [] pos) (qf C m sp [] E0 ta t):=by
 obtain⟨f,fd,F,b,mm⟩:=c.ex
 exact Yr (pl:=pl) he c.cl mm F hr b .nil ue ha hst hpl ht
theorem tM{pl:Sem Bool}(c:jS X.prog X.w X.K X.mg X.base C m k ps sp)(he:PE X o ta)(hr:cP k X.A)
  (ht : eval (.Call (.Attribute o m apos) [] [] pos) X.env = (do
   let ov<-eval o X.env
   standAt apos.atName
   let (f,first)<-holding [ov] (getMethod ov m pl)
   callWith pos f first (backTo pos (starEach [] X.env)) (backToKw pos (keywordEach [] X.env))):=by rfl):
  PE X (.Call (.Attribute o m apos) [] [] pos) (qf C m sp [] E0 ta bh):=by
 obtain⟨f,fd,F,b,mm⟩:=c.ex
 exact ZT (pl:=pl) he c.cl mm F hr b .nil ue ht
theorem Mz(c:Bj X.prog X.w X.K X.mg X.base C x k ps sp)(hr:cP (k+1) X.A)(ha:PA X (e::es) t)(hg:Gl X x:=by rfl)
  (hdb:(x==("__debug__":Str))=false:=by decide) (he:starEach (e::es) X.env=(false,eval e X.env)::starEach es X.env:=by rfl) (hpl:(backTo pos (starEach es X.env)).any (·.1)=false:=by rfl):
  PE X (.Call (.Name x p) (e::es) [] pos) (Ac C sp [] E0 t):=by
 obtain⟨f,fd,F,b,M,m⟩:=c.ex
 exact RN M F hr hg m b .nil ue ha hdb he hpl
end
section
variable{G:Gx}{ρ:Rh}{nb:Addr->Prop}{σ:St}{H H':Hp}{i:Nat}{c c':Cu}{E:DE}
theorem Wd.Ia(W:Wd G nb ρ σ H)(e:ρ[i]?=some (.cu c))(hH:∀a o,a∉c.F->H a=some o->H' a=some o)(hv:c'.v=c.v)(hF:∀a∈c'.F,a∈c.F\/H a=none\/(nb a/\NB G.B a/\∀(j:Nat) s,ρ[j]?=some s->a∉s.adr))(hl:∀a,a∈c.F\/a∈c'.F->H' a≠none)
    (h:c'.P (G.S (fun x=>nb x\/x∈c'.F) c'.f) H'):Wd G (fun x=>nb x\/x∈c'.F) (ρ.set i (.cu c')) σ H':=by
  obtain⟨x0,e1,h1,h2,h3⟩:=W.ok i _ e
  subst h1
  have hil:i<ρ.length:=(List.getElem?_eq_some_iff.mp e).1
  obtain⟨L,hL⟩:∃L,L=c'.F.filter fun a=>(H a).isNone:=⟨_,rfl⟩
  have ha:∀a∈L,H a=none:=fun a m=>by
    rw[hL,List.mem_filter] at m
    exact Option.isNone_iff_eq_none.mp m.2
  have Z2:∀a∈c'.F,nb a\/a∈L:=fun a m=>by
    rcases hF a m with z|z|z
    · exact .inl (h2 a z).1
    · exact .inr (by rw[hL];exact List.mem_filter.mpr ⟨m,Option.isNone_iff_eq_none.mpr z⟩)
    · exact .inl z.1
  have hA:∀f x,G.S (fun x=>nb x\/x∈c'.F) f x->(G.S nb f x\/x∈L):=fun f x z=>by
    rcases z with (z|z)|z|z|z
    · exact .inl (.inl z)
    · exact(Z2 x z).elim (fun z=> .inl (.inl z)) .inr
    · exact .inl (.inr (.inl z))
    · exact .inl (.inr (.inr (.inl z)))
    · exact .inl (.inr (.inr (.inr z)))
  have bt:∀f,aP (G.S (fun x=>nb x\/x∈c'.F) f) H H':=fun f a o n q=>hH a o (fun z=>n (.inl (.inl (h2 a z).1))) q
  have fD:∀{S:Addr->Prop} {d:PyData} {v:V},ah S H d v->ah (fun a=>S a\/a∈L) H d v:=fun{S d v} h=>iu (P:=fun S=>ah S H d v) (fun z h=>ah.av z h) (fun hp h=>ah.fresh hp h) ha h
  have wA:∀{S:Addr->Prop} {d:List PyData} {v:List V},af S H d v->af (fun a=>S a\/a∈L) H d v:=fun{S d v} h=>iu (P:=fun S=>af S H d v) (fun z h=>af.av z h) (fun hp h=>af.fresh hp h) ha h
  have Bw:∀{S:Addr->Prop} {d:List (PyData×PyData)} {v:List (Key×V)},au S H d v->au (fun a=>S a\/a∈L) H d v:=fun{S d v} h=>iu (P:=fun S=>au S H d v) (fun z h=>au.av z h) (fun hp h=>au.fresh hp h) ha h
  have fH:∀{S:Addr->Prop} {d:HD} {v:V},dZ S H d v->dZ (fun a=>S a\/a∈L) H d v:=fun{S d v} h=>iu (P:=fun S=>dZ S H d v) (fun z h=>dZ.av h z) (fun hp h=>dZ.fresh h hp) ha h
  have kr:∀a∈c'.F,NB G.B a:=fun a m=>(hF a m).elim (fun z=>(h2 a z).2) fun z=>z.elim (fun z=>NB.new W.aA z) fun z=>z.2.1
  have ML:iC G.B H':=fun b l eb=>by
    obtain⟨ns,i0,c0,st,n,g1,g2,g3⟩:=W.aA b l eb
    have hb:b∉c.F:=fun z=>(h2 b z).2 b l eb rfl
    have oW:l∉c.F:=fun z=>by
      obtain⟨_,_,_,_,_,_,q2,_⟩:=W.gB b l eb
      rw[W.cR l (h2 l z).1 (h2 l z).2] at q2;cases q2
    exact⟨ns,i0,c0,st,n,hH _ _ hb g1,hH _ _ oW g2,g3⟩
  have other:∀(j:Nat) s,i≠j->ρ[j]?=some s->∀a∈s.adr,a∉c.F:=fun j s hij hs a m z=>W.dh i j c s hij e hs a z m
  refine⟨ML,fun a n=>?_,fun a o n q=>?_,fun a n q=>?_,W.gA,by rw[List.length_set];exact W.len,W.gB,fun h m=>((fH (W.eW h m)).av (hA h.1)).keep (bt h.1),fun j s e'=>?_,?_,?_,?_⟩
  · rcases n with n|n
    · by_cases z:a∈c.F
      · exact hl a (.inl z)
      · cases q:H a with
        |none=>exact absurd q (W.live a n)
        |some o=>rw[hH a o z q];exact Option.some_ne_none _
    · exact hl a (.inr n)
  · refine hH a o (fun z=>?_) (W.old a o n q)
    rw[W.cR a (h2 a z).1 n] at q;cases q
  · rcases n with n|n
    · exact W.cR a n q
    · rcases hF a n with z|z|z
      · exact W.cR a (h2 a z).1 q
      · cases w:G.H0 a with
        |none=>rfl
        |some o=>rw[W.old a o q w] at z;cases z
      · exact W.cR a z.1 q
  · by_cases hij:i=j
    · subst hij
      rw[List.getElem?_set_self hil] at e'
      cases e'
      exact⟨some c.v,e1,by rw[hv],fun a m=>⟨.inr m,kr a m⟩,h⟩
    · rw[List.getElem?_set_ne hij] at e'
      obtain⟨x,e2,q⟩:=W.ok j s e'
      refine⟨x,e2,?_⟩
      have ap:=other j s hij e'
      cases s with
      |no=>trivial
      |d f d=>obtain⟨v,e,h⟩:=q;exact⟨v,e,((fD h).av (hA f)).keep (bt f)⟩
      |own a f es=>obtain⟨e,n,q,xs,hx,hd⟩:=q;exact⟨e, .inl n,q,xs,hH _ _ (ap a (List.mem_singleton.mpr rfl)) hx,((wA hd).av (hA f)).keep (bt f)⟩
      |aA=>exact q
      |raw v=>exact q
      |aX a f es=>obtain⟨e,n,q,xs,hx,hd⟩:=q;exact⟨e, .inl n,q,xs,hH _ _ (ap a (List.mem_singleton.mpr rfl)) hx,((Bw hd).av (hA f)).keep (bt f)⟩
      | cu c2 =>
        obtain⟨e,n,q⟩:=q
        refine⟨e,fun a ha=>⟨.inl (n a ha).1,(n a ha).2⟩,c2.keep (.of fun x o hx e=>hH x o ?_ e) (c2.av (hA c2.f) (iu (P:=fun S=>c2.P S H) (fun z h=>c2.av z h) (fun hp h=>c2.fresh hp h) ha q))⟩
        rcases hx with hx|hx
        · exact fun z=>hx (.inl (.inl (h2 x z).1))
        · exact ap x hx
  all_goals
    intro j k
  · intro a f as c2 g cs hjk q1 q2
    have hj:i≠j:=fun z=>by subst z;rw[List.getElem?_set_self hil] at q1;cases q1
    have hk:i≠k:=fun z=>by subst z;rw[List.getElem?_set_self hil] at q2;cases q2
    rw[List.getElem?_set_ne hj] at q1
    rw[List.getElem?_set_ne hk] at q2
    exact W.apart j k a f as c2 g cs hjk q1 q2
  · intro a f as c2 g cs hjk q1 q2
    have hj:i≠j:=fun z=>by subst z;rw[List.getElem?_set_self hil] at q1;cases q1
    have hk:i≠k:=fun z=>by subst z;rw[List.getElem?_set_self hil] at q2;cases q2
    rw[List.getElem?_set_ne hj] at q1
    rw[List.getElem?_set_ne hk] at q2
    exact W.dY j k a f as c2 g cs hjk q1 q2
  · intro c2 s hjk q1 q2 a m z
    have Ei:∀(j:Nat) s,i≠j->ρ[j]?=some s->∀a∈s.adr,a∉c'.F:=fun j s hij hs a m z=>by
      rcases hF a z with w|w|w
      · exact other j s hij hs a m w
      · obtain⟨x,_,q⟩:=W.ok j s hs
        exact W.live a (q.yi a m).1 w
      · exact w.2.2 j s hs m
    by_cases hj:i=j
    · subst hj
      rw[List.getElem?_set_self hil] at q1
      cases q1
      rw[List.getElem?_set_ne hjk] at q2
      exact Ei k s hjk q2 a z m
    · rw[List.getElem?_set_ne hj] at q1
      by_cases hk:i=k
      · subst hk
        rw[List.getElem?_set_self hil] at q2
        cases q2
        exact Ei j _ hj q1 a m z
      · rw[List.getElem?_set_ne hk] at q2
        exact W.dh j k c2 s hjk q1 q2 a m z
end
def d9(G:Gx)(ρ:Rh)(te:TE)(Φ:Rh->Pd):Prop:=∀nb σ H (Q:VK),Wd G nb ρ σ H->(∀aM ρ' f v H' d,Φ ρ' f d->Wd G aM ρ' σ H'->ah (G.S aM f) H' d v->Q v H')->te σ H Q
def rC(G:Gx)(ρ:Rh)(ta:TA)(Φ:Rh->List Fd->Prop):Prop:=∀nb σ H (Q:List V->Hp->Prop),Wd G nb ρ σ H->(∀aM ρ' es vs H',Φ ρ' es->Wd G aM ρ' σ H'->iw G aM H' es vs->Q vs H')->ta σ H Q
section
variable{G:Gx}{ρ:Rh}{Φ:Rh->Pd}{ta tb te:TE}{t:TA}{c u:TT}{i:Nat}{E:DE}{s s':TS}
theorem d9.of(h:Ev G ρ te (Φ ρ)):d9 G ρ te Φ:=fun nb σ H Q W z=>h nb σ H Q W fun f v H' d q st hv=>z nb ρ f v H' d q (W.step st) hv
theorem rC.cons{Θ:Rh->List Fd->Prop}(h:d9 G ρ te fun ρ' f d=>Av G ρ' t fun es=>Θ ρ' ((f,d)::es)):rC G ρ (aS te t) Θ:=fun nb σ H Q W z=>
 h nb σ H _ W fun aM ρ' f v H1 d p1 W1 q1=>p1 aM σ H1 _ W1 fun es vs H2 p2 s2 q2=>z aM ρ' _ _ H2 p2 (W1.step s2) ⟨v,vs,rfl,q1.keep s2.cH,q2⟩
namespace Sv
theorem yT{g:TG}(h:d9 G ρ te fun ρ' f d=>Gv G ρ' g f d E.nx):Sv G ρ (fW te g) E:=fun nb σ H D W K=>h nb σ H _ W fun aM ρ' f v H1 d q W1 hv=>q aM σ H1 v _ W1 hv fun σ' ρ' p W'=>K.nx aM ρ' σ' H1 p W'
theorem retS(h:d9 G ρ te fun _=>E.rt):Sv G ρ (mz te) E:=fun nb σ H D W K=>h nb σ H _ W fun aM ρ' f v H1 d q W1 hv=>K.rt aM ρ' σ f v H1 d q W1 (hv.av (bU (fun z=>z) fun _ z=>z.elim))
theorem AV(h:d9 G ρ te fun ρ' f d=>∀nb v H,ah (G.S nb f) H d v->E.rw nb ρ' v H):Sv G ρ (mz te) E:=fun nb σ H D W K=>h nb σ H _ W fun aM ρ' f v H1 d q W1 hv=>K.rw aM ρ' σ v H1 (q aM v H1 hv) W1
end Sv
end
structure nG(c c':Cu)(H H':Hp):Prop where
 v:c'.v=c.v
 f:c'.f=false
 sub:∀a∈c.F,a∈c'.F
 new:∀a∈c'.F,a∈c.F\/H a=none
 kp:∀a o,a∉c.F->H a=some o->H' a=some o
 lv:∀a∈c'.F,H' a≠none
abbrev CF:=Cu->List PyData->(Cu->Pd)->Prop
def kL(F:CF):Prop:=∀c ds (Φ Ψ:Cu->Pd),F c ds Φ->(∀c f d,Φ c f d->Ψ c f d)->F c ds Ψ
def gc(n:Nat)(F:CF):Sp:=fun vs H Q _=>vs.length=n/\∃(nb:Addr->Prop) (c:Cu) (ws:List V) (ds:List PyData),vs=c.v::ws/\jd nb H/\(∀a∈c.F,nb a)/\c.f=false/\c.P nb H/\af nb H ds ws/\
 F c ds fun c' f d=>∀v H',nG c c' H H'->c'.P (fun a=>nb a\/a∈c'.F) H'->ah (fun a=>nb a\/a∈c'.F\/(f=true/\H a≠none)) H' d v->Q v H'
section
variable{G:Gx}{ρ:Rh}{Φ:Rh->Pd}{ta tb te:TE}{t:TA}{i:Nat}{E:DE}{c:Cu}{C:Addr}{m:Str}{n:Nat}{F:CF}
theorem d9.Oc{nb:Addr->Prop}{σ:St}{H1:Hp}{Q:VK}{es:List Fd}{vs:List V}(hm:kL F)(e:ρ[i]?=some (.cu c))(W1:Wd G nb ρ σ H1)(q1:iw G nb H1 es vs)(hl:es.length+1=n)(hcf:c.f=false)(p:F c (es.map (·.2)) fun c' f d=>Φ (ρ.set i (.cu c')) f d)
  (z:∀aM ρ' f v H' d,Φ ρ' f d->Wd G aM ρ' σ H'->ah (G.S aM f) H' d v->Q v H'):gc n F (c.v::(vs++[])) H1 Q E0:=by
 rw[List.append_nil]
 obtain⟨x0,e1,h1,h2,h3⟩:=W1.ok i _ e
 refine⟨by rw[List.length_cons,q1.len,hl],G.S nb false,c,vs,es.map (·.2),rfl,W1.fJ,fun a m=> .inl (h2 a m).1,hcf,by rw[hcf] at h3;exact h3,q1.all (f:=false) (fun z=>by cases z),hm _ _ _ _ p fun c' f d hp v H' to hP hd=>?_⟩
 refine z _ _ f v H' d hp (W1.Ia (c':=c') e to.kp to.v (fun a m=>(to.new a m).imp id .inl) (fun a m=>m.elim (fun m=>to.lv a (to.sub a m)) fun m=>to.lv a m) (c'.av (fun a y=>?_) hP)) (hd.av fun a y=>?_)
 ·rw[to.f] at y
  rcases y with (y|y)|y|y|y
  ·exact .inl (.inl y)
  ·exact .inr y
  ·exact .inl (.inr (.inl y))
  ·exact .inl (.inr (.inr (.inl y)))
  ·cases y.1
 ·rcases y with (y|y)|y|y|y
  ·exact .inl (.inl y)
  ·exact .inr (.inl y)
  ·exact .inl (.inr (.inl y))
  ·exact .inl (.inr (.inr (.inl y)))
  ·exact .inr (.inr ⟨y.1,W1.fJ (f:=true) a (.inr (.inr (.inr ⟨rfl,y.2⟩)))⟩)
theorem d9.sE(hm:kL F)(e:ρ[i]?=some (.cu c))(hcf:c.f=false)(hi:∀S H,c.P S H->∃a dx fs,c.v= .ref a/\H a=some (.ins C dx fs)/\fs.lookup m=none)
  (h:Av G ρ t fun es=>es.length+1=n/\F c (es.map (·.2)) fun c' f d=>Φ (ρ.set i (.cu c')) f d):d9 G ρ (qf C m (gc n F) [] E0 (bq i) t) Φ:=fun nb σ H Q W z=>by
 obtain⟨x0,e1,h1,h2,h3⟩:=W.ok i _ e
 subst h1
 obtain⟨a,dx,fs,g1,g2,g3⟩:=hi _ _ h3
 refine⟨c.v,e1,a,dx,fs,g1,g2,g3,h nb σ H _ W fun es vs H1 ⟨hl,p⟩ s1 q1=>?_⟩
 exact d9.Oc hm e (W.step s1) q1 hl hcf p z
end
def lP(F:List Addr)(H:Hp)(nb:Addr->Prop):Gx:=⟨none,fun a=>if a∈F then none else H a,fun a=>nb a/\a∉F,[]⟩
structure u9(c c':Cu):Prop where
 v:c'.v=c.v
 f:c'.f=false
 sub:∀a∈c.F,a∈c'.F
def objE(G:Gx)(c:Cu)(Φ:Cu->Pd):DE where
 nx:=fun ρ=>∃c',ρ[0]?=some (.cu c')/\u9 c c'/\Φ c' true .none
 rt:=fun _ _=>False
 rw:=fun nb ρ v H=>∃c' f d,ρ[0]?=some (.cu c')/\u9 c c'/\Φ c' f d/\ah (G.S nb f) H d v
section
variable{ρ:Rh}{t:TS}{N:List Str}{ws:List V}{ds:List PyData}{nb:Addr->Prop}{H:Hp}{Q:VK}{Φ:Cu->Pd}{c:Cu}
theorem Sv.rJ(hl:jd nb H)(hF:∀a∈c.F,nb a)(hf:c.f=false)(hP:c.P nb H)(hd:af nb H ds ws)
    (aC:∀c' f d v H',Φ c' f d->nG c c' H H'->c'.P (fun a=>nb a\/a∈c'.F) H'->ah (fun a=>nb a\/a∈c'.F\/(f=true/\H a≠none)) H' d v->Q v H')
    (dG:ρ= .cu c::ds.map (Sl.d false)++List.replicate (N.length-(ds.length+1)) .no) (h:Sv (lP c.F H nb) ρ t (objE (lP c.F H nb) c Φ)):t {nx:=fun _ H'=>Q .aE H',rt:=Q} (start N (c.v::ws)) H:=by
  have hlen:=hd.length
  have kr:∀a,NB (lP c.F H nb).B a:=fun a b l e=>by cases e
  have key:∀{aM ρ' σ' H' c'} {f:Bool} {d:PyData} {v:V},Wd (lP c.F H nb) aM ρ' σ' H'->ρ'[0]?=some (.cu c')->u9 c c'->Φ c' f d->ah ((lP c.F H nb).S aM f) H' d v->Q v H':=fun{aM ρ' σ' H' c' f d v} W e up p hv=>by
    obtain⟨x0,e1,h1,h2,h3⟩:=W.ok 0 _ e
    have Ca:∀(f:Bool) a,nb a\/a∈c'.F\/(f=true/\H a≠none)->(lP c.F H nb).S aM f a:=fun f a z=>by
      by_cases m:a∈c'.F
      · exact .inl (h2 a m).1
      have m':a∉c.F:=fun z=>m (up.sub a z)
      rcases z with z|z|z
      · exact .inr (.inl ⟨z,m'⟩)
      · exact absurd z m
      · exact .inr (.inr (.inr ⟨z.1,by show(if a∈c.F then none else H a)≠none;rw[if_neg m'];exact z.2⟩))
    refine aC c' f d v H' p ⟨up.v,up.f,up.sub,fun a m=>?_,fun a o n q=>?_,fun a m=>W.live a (h2 a m).1⟩ (c'.av (fun a z=>by rw[up.f];exact Ca false a (z.elim .inl fun z=> .inr (.inl z))) h3) (hv.av (Ca f))
    · have:=W.cR a (h2 a m).1 (h2 a m).2
      by_cases z:a∈c.F
      · exact .inl z
      · exact .inr (by have q:(if a∈c.F then none else H a)=none:=this;rwa[if_neg z] at q)
    · exact W.old a o (kr a) (by show(if a∈c.F then none else H a)=_;rw[if_neg n];exact q)
  refine h (fun a=>a∈c.F) _ H _ ⟨fun _ _ z=>(by cases z),fun a z=>hl a (hF a z),fun a o _ e=>?_,fun a z _=>by show(if a∈c.F then none else H a)=none;rw[if_pos z],fun a z=>?_,?_,fun _ _ z=>(by cases z),fun _ m=>(by cases m),fun i s e=>?_,?_,?_,?_⟩ ⟨fun aM ρ' σ' H' ⟨c',e,up,p⟩ W=>key W e up p .aE,fun _ _ _ _ q _=>q.elim,fun _ _ _ _ q _=>q.elim,fun _ _ _ _ _ _ _ q _ _=>q.elim,fun aM ρ' σ' v H' ⟨c',f,d,e,up,p,hv⟩ W=>key W e up p hv⟩
  · have e:(if a∈c.F then none else H a)=some o:=e
    by_cases z:a∈c.F
    · rw[if_pos z] at e;cases e
    · rwa[if_neg z] at e
  · show(if a∈c.F then none else H a)≠none
    rw[if_neg z.2];exact hl a z.1
  · rw[dG];unfold start;simp[hlen]
  · rw[dG] at e
    unfold start
    have av:∀a,(lP c.F H nb).S (fun a=>a∈c.F) false a->nb a:=fun a z=>by
      rcases z with z|z|z|z
      · exact hF a z
      · exact z.1
      · exact absurd (kr a) z
      · cases z.1
    cases i with
    |zero=>simp at e;subst e;exact⟨some c.v,by simp,rfl,fun a m=>⟨m,kr a⟩,by rw[hf];exact c.av av hP⟩
    | succ i =>
      simp only[List.cons_append,List.getElem?_cons_succ,List.map_cons,List.length_cons] at e⊢
      by_cases hi:i<ds.length
      · rw[List.getElem?_append_left (by rw[List.length_map];exact hi)] at e
        obtain⟨v,d,hv,rfl,q⟩:=iU hd e
        refine⟨some v,?_,v,rfl,q.av av⟩
        rw[List.getElem?_append_left (by rw[List.length_map,hlen];exact hi),List.getElem?_map,hv];rfl
      · rw[List.getElem?_append_right (by rw[List.length_map];omega),List.getElem?_replicate] at e
        split at e
        · rename_i h'
          cases e
          refine⟨none,?_,trivial⟩
          rw[List.length_map] at h'
          rw[List.getElem?_append_right (by rw[List.length_map];omega),List.getElem?_replicate,if_pos (by rw[List.length_map,hlen];exact h')]
        · cases e
  all_goals
    have sl:∀{i:Nat} {s:Sl},ρ[i+1]?=some s->s.adr=[]:=fun{i s} e1=>by
      rw[dG] at e1
      simp only[List.cons_append,List.getElem?_cons_succ] at e1
      by_cases hi:i<ds.length
      · rw[List.getElem?_append_left (by rw[List.length_map];exact hi)] at e1
        obtain⟨_,_,_,z,_⟩:=iU hd e1
        subst z;rfl
      · rw[List.getElem?_append_right (by rw[List.length_map];omega),List.getElem?_replicate] at e1
        split at e1
        · cases e1;rfl
        · cases e1
    have s0:∀{s:Sl},ρ[0]?=some s->s= .cu c:=fun{s} e1=>by rw[dG] at e1;simp at e1;exact e1.symm
  · intro i j a f as c2 g cs hij e1
    cases i with
    |zero=>cases s0 e1
    |succ i=>cases sl e1
  · intro i j a f as c2 g cs hij e1
    cases i with
    |zero=>cases s0 e1
    |succ i=>cases sl e1
  · intro i j c2 s hij e1 e2 a m
    cases i with
    | zero =>
      cases j with
      |zero=>exact absurd rfl hij
      |succ j=>rw[sl e2];exact fun z=>by cases z
    | succ i =>
      have:=sl e1
      rw[show Sl.adr (.cu c2)=c2.F from rfl] at this
      rw[this] at m;cases m
end
end L2
set_option maxRecDepth 100000
set_option maxHeartbeats 4000000
namespace L2
open PySem PySem.Spec PyProof.Rows
theorem Kp.sub{S:Addr->Prop}{F F':List Addr}{H H':Hp}(k:Kp S F H H')(h:∀a∈F',a∈F):Kp S F' H H':=⟨fun a m=>k.own a (h a m),k.lst,k.tup,k.aX⟩
def i7(a:Addr)(ds:List PyData):Cu where
 v:= .ref a
 F:=[a]
 f:=false
 P:=fun S H=>∃xs,H a=some (.lst xs)/\af S H ds xs
 keep:=fun k ⟨xs,h,q⟩=>⟨xs,k.own _ (List.mem_singleton.mpr rfl) _ h,af.kp k q⟩
 av:=fun z ⟨xs,h,q⟩=>⟨xs,h,q.av z⟩
 fresh:=fun z ⟨xs,h,q⟩=>⟨xs,h,q.fresh z⟩
inductive Fl where
 |d (d:PyData)|cu (c:Cu)
def Fl.adr:Fl->List Addr
 | .d _=>[]
 | .cu c=>c.F
def iZ(S:Addr->Prop)(H:Hp)(v:V):Fl->Prop
 | .d d=>ah S H d v
 | .cu c=>v=c.v/\c.P S H
abbrev Fs:=List (Str×Fl)
def bL(S:Addr->Prop)(H:Hp):Fs->List (Str×V)->Prop
 |[],vs=>vs=[]
 |f::fs,vs=>∃v ws,vs=(f.1,v)::ws/\iZ S H v f.2/\bL S H fs ws
def bS(x dx:Addr)(fs:Fs):List Addr:=x::dx::fs.flatMap fun f=>f.2.adr
theorem iZ.map{S S':Addr->Prop}{H H':Hp}{v:V}{fl:Fl}(h:iZ S H v fl)(hd:∀d v,ah S H d v->ah S' H' d v)(hc:∀c,fl= .cu c->c.P S H->c.P S' H'):iZ S' H' v fl:=by
 cases fl with
 |d d=>exact hd _ _ h
 |cu c=>exact⟨h.1,hc c rfl h.2⟩
theorem bL.map{S S':Addr->Prop}{H H':Hp}:∀{fs:Fs} {vs:List (Str×V)},bL S H fs vs->(∀d v,ah S H d v->ah S' H' d v)->(∀f∈fs,∀c,f.2= .cu c->c.P S H->c.P S' H')->bL S' H' fs vs
 |[],_,h,_,_=>h
 |f::fs,_,⟨v,ws,e,h1,h2⟩,hd,hc=>⟨v,ws,e,h1.map hd (hc f (List.mem_cons_self ..)),bL.map h2 hd fun g m=>hc g (List.mem_cons_of_mem _ m)⟩
theorem Hy{x dx:Addr}{fs:Fs}{f:Str×Fl}(h:f∈fs){a:Addr}(m:a∈f.2.adr):a∈bS x dx fs:=List.mem_cons_of_mem _ (List.mem_cons_of_mem _ (List.mem_flatMap.mpr ⟨f,h,m⟩))
def bF(C x dx:Addr)(fs:Fs):Cu where
 v:= .ref x
 F:=bS x dx fs
 f:=false
 P:=fun S H=>(bS x dx fs).Nodup/\H dx=some (.own x)/\fs.length<=900/\∃vs,H x=some (.ins C dx vs)/\bL S H fs vs
 keep:=fun k ⟨n,h,l,vs,q,r⟩=>⟨n,k.own _ (by simp[bS]) _ h,l,vs,k.own _ (by simp[bS]) _ q,r.map (fun d v z=>ah.kp k z) fun f m c e z=>c.keep (k.sub fun a y=>Hy m (by rw[e];exact y)) z⟩
 av:=fun z ⟨n,h,l,vs,q,r⟩=>⟨n,h,l,vs,q,r.map (fun d v y=>y.av z) fun f m c e y=>c.av z y⟩
 fresh:=fun z ⟨n,h,l,vs,q,r⟩=>⟨n,h,l,vs,q,r.map (fun d v y=>y.fresh z) fun f m c e y=>c.fresh z y⟩
theorem bL.get{S:Addr->Prop}{H:Hp}{f:Str}{fl:Fl}:∀{fs:Fs} {vs:List (Str×V)},bL S H fs vs->fs.lookup f=some fl->∃v,vs.lookup f=some v/\iZ S H v fl
  |[],_,h,e=>by simp at e
  | (g, x) :: fs, _, ⟨v, ws, e, h1, h2⟩, q => by
    subst e
    rw[List.lookup_cons] at q⊢
    cases hb:(f==g) with
    |true=>rw[hb] at q;cases q;exact⟨v,rfl,h1⟩
    |false=>rw[hb] at q;exact bL.get h2 q
theorem bL.no{S:Addr->Prop}{H:Hp}{f:Str}:∀{fs:Fs} {vs:List (Str×V)},bL S H fs vs->fs.lookup f=none->vs.lookup f=none
  |[],_,h,e=>by unfold bL at h;subst h;rfl
  | (g, x) :: fs, _, ⟨v, ws, e, h1, h2⟩, q => by
    subst e
    rw[List.lookup_cons] at q⊢
    cases hb:(f==g) with
    |true=>rw[hb] at q;cases q
    |false=>rw[hb] at q;exact bL.no h2 q
def dz(f:Str)(v:Fl):Fs->Fs
 |[]=>[(f,v)]
 |(g,x)::r=>if g=f then(g,v)::r else(g,x)::dz f v r
theorem bL.put{S:Addr->Prop}{H:Hp}{f:Str}{fl:Fl}{v:V}(hv:iZ S H v fl):∀{fs:Fs} {vs:List (Str×V)},bL S H fs vs->bL S H (dz f fl fs) (dR f v vs)
  |[],_,h=>by unfold bL at h;subst h;exact⟨v,[],rfl,hv,rfl⟩
  | (g, x) :: fs, _, ⟨w, ws, e, h1, h2⟩ => by
    subst e
    unfold dz dR
    by_cases h:g=f
    · rw[if_pos h,if_pos h];exact⟨v,ws,rfl,hv,h2⟩
    · rw[if_neg h,if_neg h];exact⟨w,_,rfl,h1,bL.put hv h2⟩
theorem bL.len{S:Addr->Prop}{H:Hp}:∀{fs:Fs} {vs:List (Str×V)},bL S H fs vs->vs.length=fs.length
 |[],_,h=>by unfold bL at h;subst h;rfl
 |f::fs,_,⟨v,ws,e,h1,h2⟩=>by subst e;simp[bL.len h2]
theorem bF.is{C x dx:Addr}{fs:Fs}{m:Str}(hm:fs.lookup m=none):∀S H,(bF C x dx fs).P S H->∃a dx' vs,(bF C x dx fs).v= .ref a/\H a=some (.ins C dx' vs)/\vs.lookup m=none:=fun S H ⟨n,h,l,vs,q,r⟩=>⟨x,dx,vs,rfl,q,r.no hm⟩
section
variable{G:Gx}{ρ:Rh}{Φ:Pd}{ta tb te:TE}{t:TA}{i:Nat}{E:DE}{C x dx l:Addr}{fs:Fs}{K:PySem.W.Frag}{f m:Str}{d:PyData}{ds:List PyData}
theorem Wd.lE{nb:Addr->Prop}{σ:St}{H:Hp}(W:Wd G nb ρ σ H)(e:ρ[i]?=some (.cu (bF C x dx fs))):∃vs,σ[i]?=some (some (.ref x))/\(∀a∈bS x dx fs,nb a/\NB G.B a)/\(bS x dx fs).Nodup/\H dx=some (.own x)/\fs.length<=900/\H x=some (.ins C dx vs)/\bL (G.S nb false) H fs vs:=by
 obtain⟨x0,e1,h1,h2,n,h,l,vs,q,r⟩:=W.ok i _ e
 subst h1
 exact⟨vs,e1,h2,n,h,l,q,r⟩
theorem Ev.fld(e:ρ[i]?=some (.cu (bF C x dx fs)))(cl:dJ K C)(na:fc K C f)(hl:fs.lookup f=some (.d d))(h:Φ false d):Ev G ρ (kE K (bq i) f) Φ:=fun nb σ H Q W z=>by
 obtain⟨vs,e1,h2,n,h3,l,q,r⟩:=W.lE e
 obtain⟨v,g1,g2⟩:=r.get hl
 exact⟨.ref x,e1,x,C,dx,vs,v,rfl,q,cl,na,g1,z false v H d h (.refl W.aA) g2⟩
theorem lookup_mem{fl:Fl}:∀{fs:Fs},fs.lookup f=some fl->(f,fl)∈fs
  |[],h=>by simp at h
  | (g, y) :: r, h => by
    rw[List.lookup_cons] at h
    cases hb:(f==g) with
    |true=>rw[hb] at h;cases h;rw[beq_iff_eq.mp hb];exact List.mem_cons_self ..
    |false=>rw[hb] at h;exact List.mem_cons_of_mem _ (lookup_mem h)
theorem FJ{fl:Fl}(hl:fs.lookup f=some fl){a:Addr}(m:a∈fl.adr):a∈bS x dx fs:=Hy (lookup_mem hl) m
theorem zA{nb:Addr->Prop}{σ:St}{H:Hp}{Q:VK}{c:Cu}(W:Wd G nb ρ σ H)(e:ρ[i]?=some (.cu (bF C x dx fs)))(cl:dJ K C)(na:fc K C f)(hl:fs.lookup f=some (.cu c))
  (z:(∀a∈c.F,nb a/\NB G.B a)->c.P (G.S nb false) H->Q c.v H):kE K (bq i) f σ H Q:=by
 obtain⟨vs,e1,h2,n,h3,len,q,r⟩:=W.lE e
 obtain⟨v,g1,g2,g3⟩:=r.get hl
 exact⟨.ref x,e1,x,C,dx,vs,v,rfl,q,cl,na,g1,by rw[g2];exact z (fun a m=>h2 a (FJ hl m)) g3⟩
theorem zz{fl nF:Fl}(h':nF.adr=fl.adr):∀{fs:Fs},fs.lookup f=some fl->((dz f nF fs).flatMap fun g=>g.2.adr)=fs.flatMap fun g=>g.2.adr
  |[],h=>by simp at h
  | (g, y) :: r, h => by
    unfold dz
    rw[List.lookup_cons] at h
    cases hb:(f==g) with
    | true =>
      rw[hb] at h;cases h
      rw[if_pos (beq_iff_eq.mp hb).symm,List.flatMap_cons,List.flatMap_cons,h']
    | false =>
      rw[hb] at h
      rw[if_neg (fun z=>by rw[z,beq_self_eq_true] at hb;cases hb),List.flatMap_cons,List.flatMap_cons,zz h' h]
theorem yW{fl nF:Fl}:∀{fs:Fs},fs.lookup f=some fl->(dz f nF fs).length=fs.length
  |[],h=>by simp at h
  | (g, y) :: r, h => by
    unfold dz
    rw[List.lookup_cons] at h
    cases hb:(f==g) with
    |true=>rw[if_pos (beq_iff_eq.mp hb).symm];rfl
    | false =>
      rw[hb] at h
      rw[if_neg (fun z=>by rw[z,beq_self_eq_true] at hb;cases hb),List.length_cons,List.length_cons,yW h]
theorem iZ.wr{S:Addr->Prop}{H:Hp}{v:V}{fl:Fl}{p:Addr}{o:HO}(hS:S p)(hp:p∉fl.adr)(h:iZ S H v fl):iZ S (upd H p o) v fl:=
 h.map (fun d v z=>z.keep (aP.set hS)) fun c e z=>c.keep (.of fun a o' m q=>by
  rw[aN]
  ·exact q
  ·rintro rfl
   rcases m with m|m
   ·exact m hS
   ·rw[e] at hp;exact hp m) z
theorem bL.zu{S:Addr->Prop}{H:Hp}{p:Addr}{o:HO}(hS:S p):∀{fs:Fs} {vs:List (Str×V)},(p∉fs.flatMap fun g=>g.2.adr)->bL S H fs vs->bL S (upd H p o) fs vs
  |[],_,_,h=>h
  | g :: fs, _, hp, ⟨v, ws, e, h1, h2⟩ => by
    rw[List.flatMap_cons,List.mem_append] at hp
    exact⟨v,ws,e,h1.wr hS fun z=>hp (.inl z),bL.zu hS (fun z=>hp (.inr z)) h2⟩
theorem bL.wr{S:Addr->Prop}{H:Hp}{p:Addr}{o:HO}{c c':Cu}(hS:S p)(hp:p∈c.F)(hv:c'.v=c.v)(hc:c'.P S (upd H p o)):∀{fs:Fs} {vs:List (Str×V)},(fs.flatMap fun g=>g.2.adr).Nodup->fs.lookup f=some (.cu c)->bL S H fs vs->bL S (upd H p o) (dz f (.cu c') fs) vs
  |[],_,_,h,_=>by simp at h
  | (g, y) :: r, _, hn, h, ⟨v, ws, e, h1, h2⟩ => by
    unfold dz
    rw[List.flatMap_cons,List.nodup_append] at hn
    rw[List.lookup_cons] at h
    cases hb:(f==g) with
    | true =>
      rw[hb] at h;cases h
      rw[if_pos (beq_iff_eq.mp hb).symm]
      exact⟨v,ws,e,⟨by rw[hv];exact h1.1,hc⟩,bL.zu hS (fun z=>hn.2.2 p hp p z rfl) h2⟩
    | false =>
      rw[hb] at h
      rw[if_neg (fun z=>by rw[z,beq_self_eq_true] at hb;cases hb)]
      exact⟨v,ws,e,h1.wr hS fun z=>hn.2.2 p z p (List.mem_flatMap.mpr ⟨_,lookup_mem h,hp⟩) rfl,bL.wr hS hp hv hc hn.2.1 h h2⟩
theorem Wd.Jw{nb:Addr->Prop}{σ:St}{H:Hp}{c c':Cu}{p:Addr}{o:HO}(W:Wd G nb ρ σ H)(e:ρ[i]?=some (.cu (bF C x dx fs)))(hl:fs.lookup f=some (.cu c))(hp:p∈c.F)(hv:c'.v=c.v)(hF:c'.F=c.F)(h:c'.P (G.S nb false) (upd H p o)):
  Wd G nb (ρ.set i (.cu (bF C x dx (dz f (.cu c') fs)))) σ (upd H p o):=by
 obtain⟨vs,e1,h2,n,h3,len,q,r⟩:=W.lE e
 have fU:p∈bS x dx fs:=FJ hl hp
 have hS:G.S nb false p:= .inl (h2 p fU).1
 have hn:=n
 unfold bS at hn
 obtain⟨n1,n2⟩:=List.nodup_cons.mp hn
 obtain⟨n3,n4⟩:=List.nodup_cons.mp n2
 have hin:p∈fs.flatMap fun g=>g.2.adr:=List.mem_flatMap.mpr ⟨_,lookup_mem hl,hp⟩
 have hpx:x≠p:=fun z=>n1 (by rw[z];exact List.mem_cons_of_mem _ hin)
 have JM:dx≠p:=fun z=>n3 (by rw[z];exact hin)
 have eF:bS x dx (dz f (.cu c') fs)=bS x dx fs:=by unfold bS;rw[zz (fl:= .cu c) (nF:= .cu c') hF hl]
 refine W.BI (c':=bF C x dx (dz f (.cu c') fs)) e fU rfl (fun a m=>by rw[show(bF C x dx (dz f (.cu c') fs)).F=bS x dx fs from eF] at m;exact m) ?_
 exact⟨by rw[eF];exact n,by rw[aN JM];exact h3,by rw[yW hl];exact len,vs,by rw[aN hpx];exact q,bL.wr hS hp hv h n4 hl r⟩
theorem bL.Gn{S:Addr->Prop}{H:Hp}{fl:Fl}{v:V}{p:Addr}{o:HO}(hS:S p)(hv:iZ S (upd H p o) v fl){fs:Fs}{vs:List (Str×V)}(hp:p∉fs.flatMap fun g=>g.2.adr)(h:bL S H fs vs):bL S (upd H p o) (dz f fl fs) (dR f v vs):=bL.put hv (bL.zu hS hp h)
theorem qF{fl:Fl}:∀{fs:Fs},fs.lookup f=none->dz f fl fs=fs++[(f,fl)]
  |[],_=>rfl
  | (g, y) :: r, h => by
    unfold dz
    rw[List.lookup_cons] at h
    cases hb:(f==g) with
    |true=>rw[hb] at h;cases h
    | false =>
      rw[hb] at h
      rw[if_neg (fun z=>by rw[z,beq_self_eq_true] at hb;cases hb),qF h];rfl
theorem Sv.Zx(e:ρ[i]?=some (.cu (bF C x dx fs)))(cl:dJ K C)(na:fc K C f)(hl:fs.lookup f=none\/∃d0,fs.lookup f=some (.d d0))(hlen:fs.length<900)(h:Ev G ρ te fun _ d=>E.nx (ρ.set i (.cu (bF C x dx (dz f (.d d) fs))))):Sv G ρ (Bl K (bq i) te f) E:=fun nb σ H D W KK=>
 h nb σ H _ W fun fg v H1 d q s1 hv=>by
  have W1:=W.step s1
  obtain⟨vs,e1,h2,n,h3,len,qx,r⟩:=W1.lE e
  have gU:G.S nb false x:= .inl (h2 x (by simp[bS])).1
  have hn:=n
  unfold bS at hn
  obtain⟨n1,n2⟩:=List.nodup_cons.mp hn
  have hdx:dx≠x:=fun z=>n1 (by rw[z];exact List.mem_cons_self ..)
  have hx:x∉fs.flatMap fun g=>g.2.adr:=fun z=>n1 (List.mem_cons_of_mem _ z)
  have eF:bS x dx (dz f (.d d) fs)=bS x dx fs:=by
   unfold bS
   rcases hl with hl|⟨d0,hl⟩
   ·rw[qF hl,List.flatMap_append]
    show _::_::(_++([]++[]))=_
    rw[List.append_nil,List.append_nil]
   ·rw[zz (fl:= .d d0) (nF:= .d d) rfl hl]
  have eL:(dz f (.d d) fs).length<=900:=by
   rcases hl with hl|⟨d0,hl⟩
   ·rw[qF hl,List.length_append,List.length_singleton];omega
   ·rw[yW hl];exact len
  refine⟨.ref x,e1,x,C,dx,vs,rfl,qx,cl,na,by rw[r.len];omega,KK.nx nb _ _ _ q ?_⟩
  refine W1.BI (c':=bF C x dx (dz f (.d d) fs)) e (by show x∈bS x dx fs;simp[bS]) rfl (fun a m=>by rw[show(bF C x dx (dz f (.d d) fs)).F=bS x dx fs from eF] at m;exact m) ?_
  refine⟨by rw[eF];exact n,by rw[aN hdx];exact h3,eL,_,aU,bL.Gn gU ?_ hx r⟩
  exact(hv.av (bU (fun z=>by cases z) fun _ z=>z)).keep (aP.set gU)
theorem Wd.VO{nb:Addr->Prop}{σ:St}{H H1:Hp}{c:Cu}{vs:List (Str×V)}{l:Addr}(W:Wd G nb ρ σ H)(s1:Step G.B H H1)(e:ρ[i]?=some (.cu (bF C x dx fs)))(hl:fs.lookup f=none)(hlen:fs.length<900)(iY:c.F=[l])(hcv:c.v= .ref l)(pA:H l=none)(hl1:H1 l≠none)
  (hP:c.P (fun a=>G.S nb false a\/a=l) H1) (qx:H1 x=some (.ins C dx vs)):Wd G (fun a=>(nb a\/a∈[l])\/a∈bS x dx (fs++[(f, .cu c)])) (ρ.set i (.cu (bF C x dx (fs++[(f, .cu c)])))) σ (upd H1 x (.ins C dx (dR f c.v vs))):=by
 have iH:∀a∈[l],H a=none:=fun a m=>by rw[List.mem_singleton.mp m];exact pA
 obtain⟨vs0,e0,Qm,_⟩:=W.lE e
 have pS:l∉bS x dx fs:=fun z=>W.live l (Qm l z).1 pA
 obtain⟨W1,Jb,Jh⟩:=W.FH s1 iH (fun a m=>by rw[List.mem_singleton.mp m];exact hl1)
 obtain⟨vs',e1,h2,n,h3,len,Cj,r⟩:=W1.lE e
 rw[qx] at Cj
 cases Cj
 have hn:=n
 unfold bS at hn
 obtain⟨n1,n2⟩:=List.nodup_cons.mp hn
 have hdx:dx≠x:=fun z=>n1 (by rw[z];exact List.mem_cons_self ..)
 have hx:x∉fs.flatMap fun g=>g.2.adr:=fun z=>n1 (List.mem_cons_of_mem _ z)
 have hlx:l≠x:=fun z=>pS (by rw[z];simp[bS])
 have Eb:x∈bS x dx fs:=by simp[bS]
 have eF:bS x dx (fs++[(f, .cu c)])=bS x dx fs++[l]:=by
  unfold bS
  rw[List.flatMap_append]
  show _::_::(_++(c.F++[]))=_
  rw[iY]
  rfl
 have hS:∀{a},G.S (fun y=>(nb y\/y∈[l])\/y∈bS x dx (fs++[(f, .cu c)])) false a->G.S (fun y=>nb y\/y∈[l]) false a:=fun{a} z=>by
  rcases z with (z|z)|z|z|z
  ·exact .inl z
  ·rw[eF,List.mem_append] at z
   rcases z with z|z
   ·exact .inl (h2 a z).1
   ·exact .inl (.inr z)
  ·exact .inr (.inl z)
  ·exact .inr (.inr (.inl z))
  ·exact .inr (.inr (.inr z))
 refine W1.Ia (c:=bF C x dx fs) (c':=bF C x dx (fs++[(f, .cu c)])) e (fun a o na q=>?_) rfl (fun a m=>?_) (fun a m=>?_) ?_
 ·rw[aN (fun z=>na (by rw[z];exact Eb))];exact q
 ·rw[show(bF C x dx (fs++[(f, .cu c)])).F=bS x dx fs++[l] from eF,List.mem_append] at m
  rcases m with m|m
  ·exact .inl m
  ·rw[List.mem_singleton.mp m]
   refine .inr (.inr ⟨.inr (List.mem_singleton.mpr rfl),Jb l (List.mem_singleton.mpr rfl),fun j s hs z=>?_⟩)
   obtain⟨y,_,q⟩:=W.ok j s hs
   exact W.live l (q.yi l z).1 pA
 ·by_cases z:a=x
  ·rw[z,aU];exact Option.some_ne_none _
  ·rw[aN z]
   rcases m with m|m
   ·exact W1.live a (h2 a m).1
   ·rw[show(bF C x dx (fs++[(f, .cu c)])).F=bS x dx fs++[l] from eF,List.mem_append] at m
    rcases m with m|m
    ·exact W1.live a (h2 a m).1
    ·rw[List.mem_singleton.mp m];exact hl1
 ·refine⟨?_,by rw[aN hdx];exact h3,by rw[List.length_append,List.length_singleton];omega,_,aU,?_⟩
  ·rw[eF,List.nodup_append]
   exact⟨n,by simp,fun a m b m' z=>pS (by rw[List.mem_singleton.mp m'] at z;rw[<-z];exact m)⟩
  ·have gU:G.S (fun y=>nb y\/y∈[l]) false x:= .inl (h2 x Eb).1
   have:=bL.Gn (f:=f) (fl:= .cu c) (v:=c.v) (o:= .ins C dx (dR f c.v vs)) gU ⟨rfl,c.keep (S:=G.S (fun y=>nb y\/y∈[l]) false) (.of fun a o m q=>?_) (c.av (fun a z=>?_) hP)⟩ hx r
   ·rw[qF hl] at this
    exact this.map (fun d v z=>z.av fun a=>hS) fun g m c' e z=>c'.av (fun a=>hS) z
   ·rw[aN]
    ·exact q
    ·rintro rfl
     rcases m with m|m
     ·exact m gU
     ·rw[iY] at m;exact hlx (List.mem_singleton.mp m).symm
   ·rcases Jh false a z with z|z
    ·exact .inl z
    ·exact .inr (List.mem_singleton.mp z)
theorem Sv.Yl(e:ρ[i]?=some (.cu (bF C x dx fs)))(cl:dJ K C)(na:fc K C f)(hl:fs.lookup f=none)(hlen:fs.length<900)(h:ay G ρ te fun _ ds=>∀l,E.nx (ρ.set i (.cu (bF C x dx (fs++[(f, .cu (i7 l ds))]))))):Sv G ρ (Bl K (bq i) te f) E:=fun nb σ H D W KK=>
 h nb σ H _ W fun fg l xs H1 ds q s1 pA el hd=>by
  obtain⟨vs,e1,h2,n,h3,len,qx,r⟩:=(W.step s1).lE e
  refine⟨.ref x,e1,x,C,dx,vs,rfl,qx,cl,na,by rw[r.len];omega,KK.nx _ _ _ _ (q l) (W.VO (c:=i7 l ds) s1 e hl hlen rfl rfl pA (by rw[el];exact Option.some_ne_none _) ⟨xs,el,hd.av fun a z=>?_⟩ qx)⟩
  rcases z with z|z
  ·exact .inl (bU (fun w=>by cases w) (fun _ w=>w) a z)
  ·exact .inr z
theorem Sv.XH{l:Addr}(e:ρ[i]?=some (.cu (bF C x dx fs)))(cl:dJ K C)(na:fc K C f)(hl:fs.lookup f=some (.cu (i7 l ds)))(h:Ev G ρ te fun _ d=>Ev G ρ tb fun _ y=>∃k j,y= .int k/\fG ds.length k=some j/\E.nx (ρ.set i (.cu (bF C x dx (dz f (.cu (i7 l (ds.set j d))) fs))))):Sv G ρ (fW te (qa (kE K (bq i) f) tb pD)) E:=fun nb σ H D W KK=>
 h nb σ H _ W fun g v H1 d q s1 hv=>zA (W.step s1) e cl na hl fun hF ⟨xs,hx,hd⟩=>q nb σ H1 _ (W.step s1) fun g' u H2 y ⟨k,j,ey,hj,p⟩ s2 hu=>by
  subst ey
  have W2:=(W.step s1).step s2
  have pS:=hF l (List.mem_singleton.mpr rfl)
  have hS:G.S nb false l:= .inl pS.1
  refine⟨l,xs,k,j,rfl,hu.bD,s2.1 _ _ pS.2 hx,by rw[hd.length];exact hj,KK.nx nb _ _ _ p (W2.Jw (c:=i7 l ds) (c':=i7 l (ds.set j d)) e hl (List.mem_singleton.mpr rfl) rfl rfl ⟨_,aU,?_⟩)⟩
  exact(af.set' ((hv.av (bU (fun z=>by cases z) fun _ z=>z)).keep s2.cH) j (hd.keep s2.cH)).keep (aP.set hS)
theorem ay.Sx{l:Addr}{Θ:Bool->List PyData->Prop}(e:ρ[i]?=some (.cu (bF C x dx fs)))(cl:dJ K C)(na:fc K C f)(hl:fs.lookup f=some (.cu (i7 l ds)))(h:Θ (dP ds) ds):ay G ρ (dw (iz K) (aS (kE K (bq i) f) bh)) Θ:=fun nb σ H Q W z=>by
 show kE K (bq i) f σ H _
 exact zA W e cl na hl fun hF ⟨xs,hx,hd⟩=>⟨l,xs,rfl, .inl (.of hx),fun p hp=>ay.fin (f:=false) W (.refl W.aA) hp hd (by rw[Bool.false_or];exact h) z⟩
def dM(G:Gx)(ρ:Rh)(ta:TA)(Φ:List PyData->Prop):Prop:=∀nb σ H (Q:List V->Hp->Prop),Wd G nb ρ σ H->(∀ds vs H',Φ ds->Step G.B H H'->af (fun a=>¬NB G.B a) H' ds vs->Q vs H')->ta σ H Q
theorem dM.nil{Θ:List PyData->Prop}(h:Θ []):dM G ρ bh Θ:=fun nb σ H Q W z=>z [] [] H h (.refl W.aA) .nil
theorem dM.cons{Θ:List PyData->Prop}(h:Ev G ρ te fun _ d=>dM G ρ t fun ds=>Θ (d::ds)):dM G ρ (aS te t) Θ:=fun nb σ H Q W z=>
 h nb σ H _ W fun f v H1 d p1 s1 q1=>p1 nb σ H1 _ (W.step s1) fun ds vs H2 p2 s2 q2=>z _ _ H2 p2 (s1.trans s2) (.cons ((q1.av fun a y=> .inr (.inr (.inl y))).keep (s2.but fun _ y=>y)) q2)
theorem dM.own{Θ:List PyData->Prop}{a:Addr}{g:Bool}(e:ρ[i]?=some (.own a g ds))(h:dM G ρ t fun es=>Θ (.list ds::es)):dM G ρ (aS (bq i) t) Θ:=fun nb σ H Q W z=>by
 obtain⟨x,e1,h1,h2,h3,xs,hx,hd⟩:=W.ok i _ e
 subst h1
 refine⟨.ref a,e1,h nb σ H _ W fun es vs H2 p2 s2 q2=>z _ _ H2 p2 s2 (.cons ?_ q2)⟩
 exact .lst (fun y=>y h3) (s2.1 _ _ h3 hx) ((hd.av fun a y=> .inr (.inr (.inl y))).keep (s2.but fun _ y=>y))
theorem dM.fld{Θ:List PyData->Prop}{l:Addr}(e:ρ[i]?=some (.cu (bF C x dx fs)))(cl:dJ K C)(na:fc K C f)(hl:fs.lookup f=some (.cu (i7 l ds)))(h:dM G ρ t fun es=>Θ (.list ds::es)):dM G ρ (aS (kE K (bq i) f) t) Θ:=fun nb σ H Q W z=>by
 show kE K (bq i) f σ H _
 exact zA W e cl na hl fun hF ⟨xs,hx,hd⟩=>h nb σ H _ W fun es vs H2 p2 s2 q2=>z _ _ H2 p2 s2 (.cons (.lst (fun y=>y (hF l (List.mem_singleton.mpr rfl)).2) (s2.1 _ _ (hF l (List.mem_singleton.mpr rfl)).2 hx) ((hd.av fun a y=> .inr (.inr (.inl y))).keep (s2.but fun _ y=>y))) q2)
theorem Ev.w9{n:Nat}{F:DF}(hm:cJ F)(h:dM G ρ t fun ds=>ds.length=n/\F ds fun f d=>(f=true\/gQ d=true)/\Φ true d):Ev G ρ (eS (bJ n F) [] E0 t) Φ:=fun nb σ H Q W z=>
 h nb σ H _ W fun ds vs H1 ⟨hl,p⟩ s1 q1=>by
  have W1:=W.step s1
  rw[List.append_nil]
  refine⟨by rw[q1.length,hl],fun a=>¬NB G.B a,ds,fun a y=>NB.j8 W1.aA y,q1,hm _ _ _ p fun f d ⟨hf,hp⟩ v H' sm hd=>z true v H' d hp (s1.trans (.same W1.aA sm)) ?_⟩
  rcases hf with hf|hf
  ·exact hd.av fun a y=> .inr ⟨hf,W1.fJ (f:=true) a y⟩
  ·exact hd.i9 hf
theorem Sv.make{n:Nat}{F:CF}(hm:kL F)(h:Av G ρ t fun es=>es.length+1=n/\∀x dx,F (bF C x dx []) (es.map (·.2)) fun c' _ d=>d= .none/\E.nx (ρ.set i (.cu c'))):Sv G ρ (fW (Ac C (gc n F) [] E0 t) (dW i)) E:=fun nb σ H D W KK=>
 h nb σ H _ W fun es vs H1 ⟨hl,p⟩ s1 q1 x dx hx hdx hne=>by
  have W1:=W.step s1
  have hsm:bx H1 (upd (upd H1 dx (.own x)) x (.ins C dx [])):=fun a o e=>by
   rw[aN (fO e hx),aN (fO e hdx)];exact e
  have IV:∀a,G.S nb false a->H1 a≠none:=fun a y=>W1.fJ a y
  have fD:af (fun a=>G.S nb false a\/a∈[x,dx]) (upd (upd H1 dx (.own x)) x (.ins C dx [])) (es.map (·.2)) vs:=by
   have hq:=q1.all (f:=false) fun z=>by cases z
   generalize es.map (·.2)=dl at hq
   refine af.keep (aP.of hsm) ?_
   exact iu (P:=fun S=>af S H1 dl vs) (fun z h=>af.av z h) (fun hp h=>af.fresh hp h) (L:=[x,dx]) (fun a m=>by
    rcases List.mem_cons.mp m with m|m
    ·rw[m];exact hx
    ·rw[List.mem_singleton.mp m];exact hdx) hq
  rw[List.append_nil]
  refine⟨by rw[List.length_cons,q1.len,hl],fun a=>G.S nb false a\/a∈[x,dx],bF C x dx [],vs,es.map (·.2),rfl,fun a y=>?_,fun a m=> .inr m,rfl,?_,fD,hm _ _ _ _ (p x dx) fun c' f d ⟨hd0,hp⟩ v H' to hP hd=>?_⟩
  ·rcases y with y|y
   ·cases e:H1 a with
    |none=>exact absurd e (IV a y)
    |some o=>rw[hsm a o e];exact Option.some_ne_none _
   ·rcases List.mem_cons.mp y with m|m
    ·rw[m,aU];exact Option.some_ne_none _
    ·rw[List.mem_singleton.mp m,aN hne,aU];exact Option.some_ne_none _
  ·refine⟨by simp[bS,Ne.symm hne],by rw[aN hne,aU],by decide,[],aU,rfl⟩
  ·subst hd0
   refine⟨hd.qL,?_⟩
   have hfr:∀a∈c'.F,H1 a=none:=fun a m=>by
    rcases to.new a m with y|y
    ·rcases List.mem_cons.mp y with m|m
     ·rw[m];exact hx
     ·rw[List.mem_singleton.mp m];exact hdx
    ·cases e:H1 a with
     |none=>rfl
     |some o=>rw[hsm a o e] at y;cases y
   have st:Step G.B H1 H':=by
    have sm:bx H1 H':=fun a o e=>to.kp a o (fun m=>by
     rcases List.mem_cons.mp m with m|m
     ·rw[m,hx] at e;cases e
     ·rw[List.mem_singleton.mp m,hdx] at e;cases e) (hsm a o e)
    exact .same W1.aA sm
   have:=W1.Js (i:=i) (c:=c') st hfr to.lv (c'.av (fun a y=>?_) hP)
   ·rw[to.v] at this
    exact KK.nx _ _ _ _ hp this
   ·rw[to.f] at y
    rcases y with y|y
    ·exact .inl (.inl y)
    ·exact .inr y
theorem d9.tup{Φ:Rh->Pd}(h:rC G ρ t fun ρ' es=>es.length<=10000/\Φ ρ' (gP es) (.tuple (es.map (·.2)))):d9 G ρ (pY t) Φ:=fun nb σ H Q W z=>
 h nb σ H _ W fun aM ρ' es vs H1 ⟨hl,p⟩ W1 q1=>⟨Nat.le_trans (by rw[q1.len];exact hl) (by decide),fun a ha=>z aM ρ' _ _ _ _ p (W1.step (.same W1.aA (bW ha)))
  (.tup (W1.fresh ha) aU ((q1.all fun z=>z).keep (aP.of (bW ha))))⟩
end
end L2
set_option maxRecDepth 100000
set_option maxHeartbeats 4000000
namespace L2
open PySem PySem.Spec PyProof.Rows
noncomputable def cF(p:Int)(cs:List ak)(wd:Wo):Nat->List bV
  |0=>[]
  | i + 1 => match cL p (cs.getD i []) 0 wd with
    |some (a,x)=>if a∈(cF p cs wd i).map (·.1) then cF p cs wd i else cF p cs wd i++[(a,(i:Int),x)]
    |none=>cF p cs wd i
theorem lO{p:Int}{cs:List ak}{wd:Wo}:∀i,((cF p cs wd i).map (·.1)).Nodup
  |0=>by simp[cF]
  | i + 1 => by
    unfold cF
    split
    · split
      · exact lO i
      · rename_i a x e c
        rw[List.map_append,List.nodup_append]
        refine⟨lO i,by simp,fun y hy z hz e=>c ?_⟩
        simp at hz
        rw[<-hz,<-e];exact hy
    · exact lO i
theorem p7{p:Int}{cs:List ak}{wd:Wo}{m:bV}:∀{i},m∈cF p cs wd i->0<=m.2.1/\m.2.1<i/\cL p (cs.getD m.2.1.toNat []) 0 wd=some (m.1,m.2.2)/\∀c:Nat,(c:Int)<m.2.1->∀x,cL p (cs.getD c []) 0 wd≠some (m.1,x)
  |0,h=>by simp[cF] at h
  | i + 1, h => by
    have key:∀{c:Nat},(∃x,cL p (cs.getD c []) 0 wd=some (m.1,x))->c<i->m.1∈(cF p cs wd i).map (·.1):=fun{c} hx hc=>by
      clear h
      induction i with
      |zero=>omega
      | succ i ih =>
        unfold cF
        by_cases e:c=i
        · subst e
          obtain⟨x,hx⟩:=hx
          rw[hx]
          dsimp only
          split
          · rename_i h;exact h
          · simp
        · have:=ih (by omega)
          split
          · split
            · exact this
            · rw[List.map_append];exact List.mem_append_left _ this
          · exact this
    unfold cF at h
    split at h
    · rename_i a x e
      split at h
      · obtain⟨h1,h2,h3⟩:=p7 h;exact⟨h1,by omega,h3⟩
      · rename_i c
        rcases List.mem_append.mp h with h|h
        · obtain⟨h1,h2,h3⟩:=p7 h;exact⟨h1,by omega,h3⟩
        · simp at h
          subst h
          refine⟨by simp,by simp;omega,by simpa using e,fun c' hc' x' hx'=>c ?_⟩
          exact key ⟨x',hx'⟩ (by simpa using hc')
    · obtain⟨h1,h2,h3⟩:=p7 h;exact⟨h1,by omega,h3⟩
theorem G8{p:Int}{cs:List ak}{wd:Wo}{c:Nat}{a x:Int}(hx:cL p (cs.getD c []) 0 wd=some (a,x)):∀{i},c<i->a∈(cF p cs wd i).map (·.1)
  |0,h=>by omega
  | i + 1, h => by
    unfold cF
    by_cases e:c=i
    · subst e
      rw[hx]
      dsimp only
      split
      · rename_i h;exact h
      · simp
    · have:=G8 hx (i:=i) (by omega)
      split
      · split
        · exact this
        · rw[List.map_append];exact List.mem_append_left _ this
      · exact this
noncomputable def aR(p:Int)(cs:List ak)(wd:Wo):List bV:=(cF p cs wd cs.length).mergeSort fun a b=>decide (a.1<=b.1)
theorem tF(p:Int)(cs:List ak)(wd:Wo):(aR p cs wd).Perm (cF p cs wd cs.length):=List.mergeSort_perm _ _
theorem GL(p:Int)(cs:List ak)(wd:Wo):(aR p cs wd).Pairwise fun a b=>a.1<b.1:=by
 have h1:(aR p cs wd).Pairwise fun a b=>decide (a.1<=b.1)=true:=List.pairwise_mergeSort (fun a b c h1 h2=>by simp at h1 h2⊢;omega) (fun a b=>by simp;omega) _
 have h2:((aR p cs wd).map (·.1)).Nodup:=((tF p cs wd).map _).nodup_iff.mpr (lO _)
 have h3:(aR p cs wd).Pairwise fun a b=>a.1≠b.1:=List.pairwise_map.mp h2
 exact(h1.and h3).imp fun⟨a,b⟩=>by simp at a;omega
theorem Gj:∀{a b:List bV},(a.Pairwise fun x y=>x.1<y.1)->(b.Pairwise fun x y=>x.1<y.1)->a.Perm b->a=b
  |[],b,_,_,h=>by rw[List.nil_perm.mp h]
  |x::a,[],_,_,h=>by cases List.perm_nil.mp h
  | x :: a, y :: b, h1, h2, h => by
    obtain⟨x1,x2⟩:=List.pairwise_cons.mp h1
    obtain⟨y1,y2⟩:=List.pairwise_cons.mp h2
    have e:x=y:=by
      rcases List.mem_cons.mp (h.mem_iff.mp (List.mem_cons_self ..)) with e|e
      · exact e
      rcases List.mem_cons.mp (h.symm.mem_iff.mp (List.mem_cons_self ..)) with e'|e'
      · exact e'.symm
      have:=y1 x e;have:=x1 y e';omega
    subst e
    rw[Gj x2 y2 h.cons_inv]
theorem QZ{p:Int}{cs:List ak}{wd:Wo}{ms:List bV}(h:ms.Perm (cF p cs wd cs.length))(hs:(ms.map (·.1)).Pairwise (· <= ·)):ms=aR p cs wd:=by
 refine Gj ?_ (GL p cs wd) (h.trans (tF p cs wd).symm)
 have h2:(ms.map (·.1)).Nodup:=(h.map _).nodup_iff.mpr (lO _)
 exact((List.pairwise_map.mp hs).and (List.pairwise_map.mp h2)).imp fun⟨a,b⟩=>by omega
theorem BO{p:Int}{cs:List ak}{wd:Wo}{m:bV}(h:m∈aR p cs wd):0<=m.2.1/\m.2.1<cs.length/\cL p (cs.getD m.2.1.toNat []) 0 wd=some (m.1,m.2.2)/\∀c:Nat,(c:Int)<m.2.1->∀x,cL p (cs.getD c []) 0 wd≠some (m.1,x):=p7 ((tF p cs wd).mem_iff.mp h)
theorem Je{p:Int}{cs:List ak}{wd:Wo}{c:Nat}{a x:Int}(hc:c<cs.length)(h:cL p (cs.getD c []) 0 wd=some (a,x)):∃m∈aR p cs wd,m.1=a:=by
 have:=G8 h hc
 obtain⟨m,hm,e⟩:=List.mem_map.mp this
 exact⟨m,(tF p cs wd).mem_iff.mpr hm,e⟩
theorem aaf{p:Int}{cs:List ak}{wd:Wo}(h:aR p cs wd=[]):outs p cs wd=[]:=by
 unfold outs
 rw[List.filter_eq_nil_iff]
 intro c hc hs
 obtain⟨⟨a,x⟩,e⟩:=Option.isSome_iff_exists.mp hs
 obtain⟨m,hm,_⟩:=Je (List.mem_range.mp hc) e
 rw[h] at hm;cases hm
theorem Oj{p:Int}{prs:ak}{wd:Wo}{ms:List bV}{a x:Int}(h:cL p prs 0 wd=some (a,x))(ha:∀m∈ms,m.1.toNat≠a.toNat)(hl:∀m∈ms,wd[m.1.toNat]?=some none)(h0:∀pr∈prs,0<=pr.1):cL p prs 0 (putAll wd ms)=some (a,x):=by
  have keep:∀{ms:List bV} {wd:Wo} {k:Nat},(∀m∈ms,m.1.toNat≠k)->(putAll wd ms)[k]?=wd[k]?:=fun{ms}=>by
    induction ms with
    |nil=>intro wd k _;rfl
    | cons m r ih =>
      intro wd k hk
      show(putAll (wd.set m.1.toNat (some m.2.2)) r)[k]?=_
      rw[ih fun m' hm'=>hk m' (List.mem_cons_of_mem _ hm'),List.getElem?_set_ne (hk m (List.mem_cons_self ..))]
  obtain⟨pr,e1,e2,e3⟩:=yI h
  have same:∀q∈prs,(putAll wd ms)[q.1.toNat]?=wd[q.1.toNat]?:=fun q hq=>keep fun m hm z=>by
    have hq':q∈cz wd prs:=by
      unfold cz
      exact List.mem_filter.mpr ⟨hq,by rw[<-z,hl m hm];rfl⟩
    rw[e1,List.mem_singleton] at hq'
    exact ha m hm (by rw[z,hq',e2])
  have e4:cz (putAll wd ms) prs=cz wd prs:=by
    unfold cz
    exact List.filter_congr fun q hq=>by rw[same q hq]
  have e5:aG prs (putAll wd ms)=aG prs wd:=by
    unfold aG
    congr 1
    exact List.map_congr_left fun q hq=>by unfold eO;rw[same q hq]
  unfold cL at h⊢
  rw[e4,e5]
  exact h
theorem oS(wd:Wo)(a b:List bV):putAll wd (a++b)=putAll (putAll wd a) b:=by unfold putAll;rw[List.foldl_append]
theorem jc.cat{p:Int}{cs:List ak}{wd:Wo}{a b:List bV}(h1:jc p cs wd a)(h2:jc p cs (putAll wd a) b):jc p cs wd (a++b):=fun j hj=>by
 by_cases h:j<a.length
 ·obtain⟨m,e1,e2⟩:=h1 j h
  refine⟨m,by rw[List.getElem?_append_left h];exact e1,?_⟩
  rw[List.take_append_of_le_length (by omega)]
  exact e2
 ·rw[List.length_append] at hj
  obtain⟨m,e1,e2⟩:=h2 (j-a.length) (by omega)
  refine⟨m,by rw[List.getElem?_append_right (by omega)];exact e1,?_⟩
  rw[List.take_append,List.take_of_length_le (by omega),oS]
  exact e2
theorem pG{p:Int}{cs:List ak}{wd:Wo}(hp:0<p){m:bV}(h:m∈aR p cs wd)(h0:∀prs∈cs,∀pr∈prs,0<=pr.1/\pr.1<wd.length):0<=m.1/\m.1<wd.length/\wd[m.1.toNat]?=some none/\0<=m.2.2/\m.2.2<p:=by
 obtain⟨a1,a2,a3,_⟩:=BO h
 obtain⟨pr,b1,b2,b3,b4,b5⟩:=AS hp a3
 have hc:m.2.1.toNat<cs.length:=by omega
 rw[List.getD_eq_getElem?_getD,List.getElem?_eq_getElem hc] at b1
 have:=h0 _ (List.getElem_mem hc) pr b1
 rw[b2] at this
 exact⟨this.1,this.2,b3,b4,b5⟩
theorem Ii{p:Int}{cs:List ak}{wd:Wo}(hp:0<p)(h0:∀prs∈cs,∀pr∈prs,0<=pr.1/\pr.1<wd.length):jc p cs wd (aR p cs wd):=fun j hj=>by
 refine⟨_,List.getElem?_eq_getElem hj,?_⟩
 have hm:(aR p cs wd)[j]∈aR p cs wd:=List.getElem_mem hj
 obtain⟨a1,a2,a3,_⟩:=BO hm
 obtain⟨b1,b2,b3,b4,b5⟩:=pG hp hm h0
 have tk:∀m∈(aR p cs wd).take j,m∈aR p cs wd/\m.1.toNat≠(aR p cs wd)[j].1.toNat:=fun m h=>by
  have hm':=List.mem_of_mem_take h
  refine⟨hm',fun z=>?_⟩
  obtain⟨c1,_⟩:=pG hp hm' h0
  have hlt:m.1<(aR p cs wd)[j].1:=by
   obtain⟨i,hi,e⟩:=List.mem_take_iff_getElem.mp h
   rw[<-e]
   exact List.pairwise_iff_getElem.mp (GL p cs wd) i j (by omega) hj (by omega)
  omega
 have hc:(aR p cs wd)[j].2.1.toNat<cs.length:=by omega
 have bz:∀pr∈cs.getD (aR p cs wd)[j].2.1.toNat [],0<=pr.1:=fun pr h=>by
  rw[List.getD_eq_getElem?_getD,List.getElem?_eq_getElem hc] at h
  exact(h0 _ (List.getElem_mem hc) pr h).1
 have:=Oj a3 (fun m h=>(tk m h).2) (fun m h=>(pG hp (tk m h).1 h0).2.2.1) bz
 exact Qz a1 a2 this
noncomputable def gv(p:Int)(cs:List ak):Nat->Wo->List (List bV)
 |0,_=>[]
 |k+1,wd=>if aR p cs wd=[] then[] else aR p cs wd::gv p cs k (putAll wd (aR p cs wd))
theorem sY{p:Int}{cs:List ak}{wd:Wo}(hp:0<p)(h0:∀prs∈cs,∀pr∈prs,0<=pr.1/\pr.1<wd.length):cnt (putAll wd (aR p cs wd))+(aR p cs wd).length=cnt wd:=by
 have:=C7 hp (Ii hp h0) (aR p cs wd).length (Nat.le_refl _)
 rwa[List.take_length] at this
theorem Fw{p:Int}{cs:List ak}(hp:0<p):∀{k:Nat} {wd:Wo},(∀prs∈cs,∀pr∈prs,0<=pr.1/\pr.1<wd.length)->cnt wd<=k->gv p cs (k+1) wd=gv p cs k wd
  | 0, wd, h0, h => by
    have e:aR p cs wd=[]:=by
      cases e:aR p cs wd with
      |nil=>rfl
      | cons m r =>
        have:=sY hp h0
        rw[e] at this
        simp at this
        omega
    unfold gv
    rw[if_pos e]
    all_goals rfl
  | k + 1, wd, h0, h => by
    rw[gv]
    conv=>rhs;rw[gv]
    by_cases e:aR p cs wd=[]
    · rw[if_pos e,if_pos e]
    · rw[if_neg e,if_neg e]
      congr 1
      have:=sY hp h0
      have hl:0<(aR p cs wd).length:=List.length_pos_iff.mpr e
      exact Fw hp (fun prs hp pr hr=>by rw[jn];exact h0 prs hp pr hr) (by omega)
noncomputable def eX(p:Int)(cs:List ak)(wd:Wo):List (List bV):=gv p cs (cnt wd) wd
theorem Yn{p:Int}{cs:List ak}(hp:0<p){wd:Wo}(h0:∀prs∈cs,∀pr∈prs,0<=pr.1/\pr.1<wd.length):∀{k:Nat},cnt wd<=k->gv p cs k wd=eX p cs wd:=fun{k} h=>by
 obtain⟨j,rfl⟩:∃j,k=cnt wd+j:=⟨k-cnt wd,by omega⟩
 clear h
 induction j with
 |zero=>rfl
 |succ j ih=>rw[<-Nat.add_assoc,Fw hp h0 (by omega),ih]
theorem u6{p:Int}{cs:List ak}{wd:Wo}(h:aR p cs wd=[]):eX p cs wd=[]:=by
 unfold eX
 cases cnt wd with
 |zero=>rfl
 |succ k=>rw[gv,if_pos h]
theorem qS{p:Int}{cs:List ak}{wd:Wo}(hp:0<p)(h0:∀prs∈cs,∀pr∈prs,0<=pr.1/\pr.1<wd.length)(h:aR p cs wd≠[]):eX p cs wd=aR p cs wd::eX p cs (putAll wd (aR p cs wd)):=by
 have hc:=sY hp h0
 have hl:0<(aR p cs wd).length:=List.length_pos_iff.mpr h
 obtain⟨k,hk⟩:∃k,cnt wd=k+1:=⟨cnt wd-1,by omega⟩
 have e:eX p cs wd=gv p cs (k+1) wd:=by unfold eX;rw[hk]
 rw[e,gv,if_neg h,Yn hp (fun prs hp pr hr=>by rw[jn];exact h0 prs hp pr hr) (by omega)]
theorem HB{p:Int}{cs:List ak}(hp:0<p):∀{k:Nat} {wd:Wo},(∀prs∈cs,∀pr∈prs,0<=pr.1/\pr.1<wd.length)->cnt wd<=k->jc p cs wd (eX p cs wd).flatten/\aR p cs (putAll wd (eX p cs wd).flatten)=[]/\∀r∈eX p cs wd,r≠[]
  | k, wd, h0, hk => by
    by_cases e:aR p cs wd=[]
    · rw[u6 e]
      exact⟨fun j hj=>by simp at hj,e,fun r hr=>by cases hr⟩
    · have hl:0<(aR p cs wd).length:=List.length_pos_iff.mpr e
      have hc:=sY hp h0
      rw[qS hp h0 e]
      obtain⟨k,rfl⟩:∃k',k=k'+1:=⟨k-1,by omega⟩
      obtain⟨i1,i2,i3⟩:=HB hp (k:=k) (wd:=putAll wd (aR p cs wd)) (fun prs hp pr hr=>by rw[jn];exact h0 prs hp pr hr) (by omega)
      refine⟨(Ii hp h0).cat i1,?_,fun r hr=>?_⟩
      · show aR p cs (putAll wd (aR p cs wd++_))=[]
        rw[oS];exact i2
      · rcases List.mem_cons.mp hr with z|z
        · rw[z];exact e
        · exact i3 r z
noncomputable def eV(p:Int)(cs:List ak)(wd:Wo):Wo:=putAll wd (eX p cs wd).flatten
theorem BA{p:Int}{cs:List ak}{wd:Wo}(hp:0<p)(h0:∀prs∈cs,∀pr∈prs,0<=pr.1/\pr.1<wd.length):jc p cs wd (eX p cs wd).flatten/\aR p cs (eV p cs wd)=[]/\(∀r∈eX p cs wd,r≠[])/\outs p cs (eV p cs wd)=[]/\(eV p cs wd).length=wd.length:=by
 obtain⟨h1,h2,h3⟩:=HB hp h0 (Nat.le_refl _)
 exact⟨h1,h2,h3,aaf h2,jn⟩
theorem V6{p:Int}{cs:List ak}{wd:Wo}(h:aR p cs wd=[]):eV p cs wd=wd:=by unfold eV;rw[u6 h];rfl
theorem WI{p:Int}{cs:List ak}{wd:Wo}(hp:0<p)(h0:∀prs∈cs,∀pr∈prs,0<=pr.1/\pr.1<wd.length)(h:aR p cs wd≠[]):eV p cs wd=eV p cs (putAll wd (aR p cs wd)):=by
 unfold eV
 rw[qS hp h0 h]
 exact oS _ _ _
abbrev iP(r:List bV):PyData:= .list (r.map sC)
def g9(nd:PyData)(l:Addr)(wd:Wo):Fs:=[("net", .d nd),("letters", .cu (i7 l (wd.map cM)))]
abbrev kM(m:bV):Int×PyData:=(m.1,sC m)
theorem BD(ms:List bV):(ms.map kM).map (·.1)=ms.map (·.1):=by rw[List.map_map];rfl
theorem IA:∀{ms:List bV} {m:bV},(ms.map (·.1)).Nodup->m∈ms->fK (ms.map kM) m.1=some (sC m)
  | x :: r, m, nd, h => by
    rw[List.map_cons,nV]
    rw[List.map_cons,List.nodup_cons] at nd
    rcases List.mem_cons.mp h with e|e
    · subst e;rw[if_pos rfl]
    · rw[if_neg (fun z=>nd.1 (by rw[show x.1=m.1 from z];exact List.mem_map_of_mem e)),IA nd.2 e]
theorem GB{p:Int}{cs:List ak}{wd:Wo}(hp:0<p)(h0:∀prs∈cs,∀pr∈prs,0<=pr.1/\pr.1<wd.length):∀{i},i<=cs.length->(cF p cs wd i).length<=wd.length:=fun{i} hi=>by
 have nd:=lO (p:=p) (cs:=cs) (wd:=wd) i
 have:=FI (m:=wd.length) nd fun k hk=>by
  obtain⟨m,hm,e⟩:=List.mem_map.mp hk
  obtain⟨a1,a2,a3,_⟩:=p7 hm
  obtain⟨pr,b1,b2,_⟩:=AS hp a3
  have hc:m.2.1.toNat<cs.length:=by omega
  rw[List.getD_eq_getElem?_getD,List.getElem?_eq_getElem hc] at b1
  have:=h0 _ (List.getElem_mem hc) pr b1
  omega
 rw[List.length_map] at this
 omega
theorem e7.rg{p:Int}{cs:List ak}{m:Nat}(h:e7 p cs m):∀prs∈cs,∀pr∈prs,0<=pr.1/\pr.1<m:=fun prs hp pr hr=>⟨((h.2.2.2 prs hp).2.1 pr hr).1,((h.2.2.2 prs hp).2.1 pr hr).2.1⟩
theorem Lv{p:Int}{cs:List ak}{wd:Wo}(hN:e7 p cs wd.length)(hW:fE wd):fE (putAll wd (aR p cs wd)):=by
  have key:∀{ms:List bV} {wd:Wo},fE wd->(∀m∈ms,Sm m.2.2)->fE (putAll wd ms):=fun{ms}=>by
    induction ms with
    |nil=>intro wd h _;exact h
    | cons m r ih =>
      intro wd h hm
      refine ih (wd:=wd.set m.1.toNat (some m.2.2)) (fun x hx=>?_) fun m' h'=>hm m' (List.mem_cons_of_mem _ h')
      rcases List.mem_or_eq_of_mem_set hx with z|z
      · exact h x z
      · cases z;exact hm m (List.mem_cons_self ..)
  have p2:=hN.1.1
  have dU:=hN.2.1
  refine key hW fun m hm=>?_
  obtain⟨_,_,_,b4,b5⟩:=pG (by omega) hm hN.rg
  unfold Sm;omega
theorem Vg(wd:Wo):dP (wd.map cM)=true:=by
 unfold dP
 rw[List.all_eq_true]
 intro x hx
 obtain⟨o,_,rfl⟩:=List.mem_map.mp hx
 cases o<;>rfl
theorem LR(nd:PyData)(l:Addr)(wd CA:Wo):dz "letters" (.cu (i7 l (CA.map cM))) (g9 nd l wd)=g9 nd l CA:=by
 unfold g9 dz
 rw[if_neg (by decide+kernel)]
 unfold dz
 rw[if_pos rfl]
theorem Ds{p:Int}{cs:List ak}:∀{k:Nat} {wd:Wo},(gv p cs k wd).length<=k
  |0,wd=>by simp[gv]
  | k + 1, wd => by
    rw[gv]
    split
    · simp
    · simp[Ds]
theorem NJ{p:Int}{cs:List ak}{wd:Wo}:(eX p cs wd).length<=wd.length:=Nat.le_trans Ds (VQ wd)
theorem Ss(ms:List bV):SeqAt.shaped (iP ms)=true:=Xo ms
theorem Na(ms:List bV):PyData.eqv (iP ms) (.list [])=decide (ms=[]):=by
 have:=NN ms
 rw[Bool.bne_false] at this
 exact this
end L2
set_option maxRecDepth 100000
set_option maxHeartbeats 4000000
namespace L2
open PySem PySem.Spec PyProof.Rows
theorem m7{wd:Wo}{x:Int}:x∈gD wd↔0<=x/\wd[x.toNat]?=some none:=by
 unfold gD
 rw[List.mem_map]
 constructor
 ·rintro⟨i,hi,rfl⟩
  obtain⟨h1,h2⟩:=List.mem_filter.mp hi
  exact⟨by omega,by simpa using h2⟩
 ·rintro⟨h0,h1⟩
  refine⟨x.toNat,List.mem_filter.mpr ⟨List.mem_range.mpr (List.getElem?_eq_some_iff.mp h1).1,by simpa using h1⟩,by omega⟩
theorem w5(wd:Wo):(gD wd).Pairwise (· < ·):=by
 unfold gD
 exact List.pairwise_map.mpr ((List.pairwise_lt_range.filter _).imp fun h=>by omega)
theorem FD{wd:Wo}{prs:ak}(h0:∀pr∈prs,0<=pr.1):br (gD wd) prs=(cz wd prs).length:=by
 unfold br cz
 rw[List.filter_congr fun pr bz=>?_]
 rw[Bool.eq_iff_iff]
 simp only[decide_eq_true_eq,beq_iff_eq]
 rw[m7]
 exact⟨fun h=>h.2,fun h=>⟨h0 pr bz,h⟩⟩
theorem Fj{p:Int}{cs:List ak}{wd:Wo}{ms:List bV}(h1:jc p cs wd ms)(h0:∀prs∈cs,∀pr∈prs,0<=pr.1){T:List Int}(hT:∀x∈T,x∈gD wd)(ho:dI cs T=true):∀j,j<=ms.length->∀x∈T,x∈gD (putAll wd (ms.take j))
  |0,_=>by simpa[putAll] using hT
  | j + 1, hj => by
    have ih:=Fj h1 h0 hT ho j (by omega)
    obtain⟨m,e1,e2⟩:=h1 j (by omega)
    obtain⟨c0,c1,e3⟩:=z0 e2
    have hc:m.2.1.toNat<cs.length:=by omega
    rw[List.getD_eq_getElem?_getD,List.getElem?_eq_getElem hc] at e3
    obtain⟨pr,e4,e5,e6⟩:=yI e3
    have iN:=List.getElem_mem hc
    have pR:pr∈cs[m.2.1.toNat]:=(sP (wd:=putAll wd (ms.take j)) (by show pr∈cz _ cs[m.2.1.toNat];rw[show cz (putAll wd (ms.take j)) cs[m.2.1.toNat]=[pr] from e4];simp)).1
    have hl1:br (gD (putAll wd (ms.take j))) cs[m.2.1.toNat]=1:=by
      rw[FD (h0 _ iN),show cz (putAll wd (ms.take j)) cs[m.2.1.toNat]=[pr] from e4];rfl
    intro x hx
    have jF:=ih x hx
    rw[take_snoc e1,oS]
    show x∈gD ((putAll wd (ms.take j)).set m.1.toNat (some m.2.2))
    rw[m7] at jF⊢
    refine⟨jF.1,?_⟩
    rw[List.getElem?_set_ne]
    · exact jF.2
    · intro z
      have vV:x=pr.1:=by have:=h0 _ iN pr pR;omega
      have a1:=AH ih cs[m.2.1.toNat]
      have a2:=qT hx (List.mem_map.mpr ⟨pr,pR,vV.symm⟩)
      unfold dI at ho
      rw[List.all_eq_true] at ho
      exact of_decide_eq_true (ho _ iN) (by omega)
theorem TH{p:Int}{cs:List ak}{wd:Wo}(hp:0<p)(h0:∀prs∈cs,∀pr∈prs,0<=pr.1/\pr.1<wd.length):gY cs (gD wd) (gD (eV p cs wd)):=by
 obtain⟨h1,h2,h3,h4,h5⟩:=BA hp h0
 refine⟨⟨fun x=>decide (x∈gD (eV p cs wd)),?_⟩,?_,fun T hT ho=>?_⟩
 ·refine n9 (w5 _) ((w5 wd).filter _) fun k=>?_
  rw[List.mem_filter]
  refine⟨fun h=>⟨?_,decide_eq_true h⟩,fun h=>of_decide_eq_true h.2⟩
  rw[m7] at h⊢
  exact⟨h.1,QE h.2⟩
 ·unfold dI
  rw[List.all_eq_true]
  intro prs bf
  refine decide_eq_true fun z=>?_
  rw[FD fun pr bz=>(h0 prs bf pr bz).1] at z
  obtain⟨pr,e⟩:=List.length_eq_one_iff.mp z
  obtain⟨c,hc,e2⟩:=List.getElem_of_mem bf
  have h6:=Mw h4 hc
  rw[List.getD_eq_getElem?_getD,List.getElem?_eq_getElem hc] at h6
  have h7:=WJ (p:=p) (wd:=eV p cs wd) (prs:=cs[c]) (pr:=pr) (by rw[e2];exact e)
  simp only[Option.getD_some] at h6
  rw[h7] at h6;cases h6
 ·have:=Fj h1 (fun prs hp pr hr=>(h0 prs hp pr hr).1) hT ho _ (Nat.le_refl _)
  rw[List.take_length] at this
  exact this
theorem Ip{cs:List ak}{ai g g':List Int}(hl:ai.Pairwise (· < ·))(h:gY cs ai g)(h':gY cs ai g'):g=g':=
 n9 (h.up hl) (h'.up hl) fun k=>⟨fun z=>h'.max g h.mem h.out k z,fun z=>h.max g' h'.mem h'.out k z⟩
theorem T6{p:Int}{cs:List ak}{wd:Wo}{os:List Int}(hN:e7 p cs wd.length)(hl:wd.length=os.length)(hos:∀x∈os,0<=x/\x<p)(ht:∀prs∈cs,aG prs (os.map some)%p=0)(ha:Agree os wd):Agree os (eV p cs wd):=by
 have p2:=hN.1.1
 have:=Ic hN hl hos ht ha (BA (by omega) hN.rg).1 _ (Nat.le_refl _)
 rw[List.take_length] at this
 exact this
end L2
set_option maxRecDepth 100000
set_option maxHeartbeats 4000000
namespace L2
open PySem PySem.Spec PyProof.Rows
theorem uL{p a b:Int}(hp:d7 p)(h:p∣a*b):p∣a\/p∣b:=by
 by_cases ha:p∣a
 ·exact .inl ha
 ·right
  have hg:Int.gcd p a=1:=by
   have d1:(Int.gcd p a:Int)∣p:=Int.gcd_dvd_left ..
   have d2:(Int.gcd p a:Int)∣a:=Int.gcd_dvd_right ..
   have h0:0<(Int.gcd p a:Int):=by
    have:Int.gcd p a≠0:=fun z=>by have:=(Int.gcd_eq_zero_iff.mp z).1;have:=hp.1;omega
    omega
   rcases hp.2 _ h0 d1 with e|e
   ·exact_mod_cast e
   ·rw[e] at d2;exact absurd d2 ha
  have h':p.natAbs∣a.natAbs*b.natAbs:=by rw[<-Int.natAbs_mul];exact Int.natAbs_dvd_natAbs.mpr h
  have c:Nat.Coprime p.natAbs a.natAbs:=hg
  exact Int.natAbs_dvd_natAbs.mp (c.dvd_of_dvd_mul_left h')
theorem Qc{p oa ob ta tb f s x y D:Int}(hp:d7 p)(hD:¬p∣D)(eD:p∣oa*tb-ob*ta-D)(hx:p∣D*x-(s*ob-f*tb))(hy:p∣D*y-(f*ta-s*oa)):p∣f+x*oa+y*ob/\p∣s+x*ta+y*tb:=by
 obtain⟨c,hc⟩:=eD
 obtain⟨d,hd⟩:=hx
 obtain⟨e,he⟩:=hy
 constructor
 ·refine(uL hp (a:=D) ?_).resolve_left hD
  exact⟨-(c*f)+d*oa+e*ob,by grind⟩
 ·refine(uL hp (a:=D) ?_).resolve_left hD
  exact⟨-(c*s)+d*ta+e*tb,by grind⟩
def gW(w:List Int)(i:Nat):Int:=w.getD i 0
theorem El{w:List Int}{pr:Int×Int}(h:pr.1.toNat<w.length):eO (w.map some) pr=pr.2*gW w pr.1.toNat:=by
 unfold gW
 rw[List.getD_eq_getElem?_getD,List.getElem?_eq_getElem h]
 exact FT (List.getElem?_eq_getElem h)
theorem om{w:List Int}:∀{prs:ak},(∀pr∈prs,pr.1.toNat<w.length)->aG prs (w.map some)=(prs.map fun pr=>pr.2*gW w pr.1.toNat).sum
  |[],_=>rfl
  | pr :: r, h => by
    rw[jq,El (h pr (List.mem_cons_self ..)),om fun q hq=>h q (List.mem_cons_of_mem _ hq),List.map_cons,List.sum_cons]
def iK(w1 w2:List Int):List Int:=((List.range w1.length).filter fun i=>decide (gW w1 i≠gW w2 i)).map fun(i:Nat)=>(i:Int)
theorem xD{w1 w2:List Int}{x:Int}:x∈iK w1 w2↔0<=x/\x<w1.length/\gW w1 x.toNat≠gW w2 x.toNat:=by
 unfold iK
 rw[List.mem_map]
 constructor
 ·rintro⟨i,hi,rfl⟩
  obtain⟨h1,h2⟩:=List.mem_filter.mp hi
  have:=List.mem_range.mp h1
  exact⟨by omega,by omega,by simpa using h2⟩
 ·rintro⟨h0,h1,h2⟩
  exact⟨x.toNat,List.mem_filter.mpr ⟨List.mem_range.mpr (by omega),by simpa using h2⟩,by omega⟩
theorem Q5(w1 w2:List Int):(iK w1 w2).Pairwise (· < ·):=by
 unfold iK
 exact List.pairwise_map.mpr ((List.pairwise_lt_range.filter _).imp fun h=>by omega)
theorem EO{w1 w2:List Int}:∀{prs:ak},(∀pr∈prs,0<=pr.1/\pr.1<w1.length)->(prs.map fun pr=>pr.2*gW w1 pr.1.toNat).sum-(prs.map fun pr=>pr.2*gW w2 pr.1.toNat).sum=((prs.filter fun pr=>decide (pr.1∈iK w1 w2)).map fun pr=>pr.2*(gW w1 pr.1.toNat-gW w2 pr.1.toNat)).sum
  |[],_=>rfl
  | pr :: r, h => by
    have ih:=EO (w1:=w1) (w2:=w2) fun q hq=>h q (List.mem_cons_of_mem pr hq)
    obtain⟨h0,h1⟩:=h pr (List.mem_cons_self ..)
    rw[List.map_cons,List.map_cons,List.sum_cons,List.sum_cons,List.filter_cons]
    by_cases c:pr.1∈iK w1 w2
    · rw[if_pos (by simpa using c),List.map_cons,List.sum_cons,<-ih,Int.mul_sub];omega
    · rw[if_neg (by simpa using c),<-ih]
      have:gW w1 pr.1.toNat=gW w2 pr.1.toNat:=Classical.byContradiction fun z=>c (xD.mpr ⟨h0,h1,z⟩)
      rw[this];omega
theorem Py{p:Int}{cs:List ak}{w1 w2:List Int}(hp:d7 p)(hl:w2.length=w1.length)(h1:∀x∈w1,0<=x/\x<p)(h2:∀x∈w2,0<=x/\x<p)(hok:∀prs∈cs,∀pr∈prs,0<=pr.1/\pr.1<w1.length/\1<=pr.2/\pr.2<p)
  (t1:∀prs∈cs,aG prs (w1.map some)%p=0) (t2:∀prs∈cs,aG prs (w2.map some)%p=0):dI cs (iK w1 w2)=true:=by
 unfold dI
 rw[List.all_eq_true]
 intro prs bf
 refine decide_eq_true fun z=>?_
 unfold br at z
 obtain⟨pr,e⟩:=List.length_eq_one_iff.mp z
 have fU:pr∈prs.filter fun pr=>decide (pr.1∈iK w1 w2):=by rw[e];exact List.mem_singleton.mpr rfl
 obtain⟨hm,hu⟩:=List.mem_filter.mp fU
 obtain⟨u0,u1,u2⟩:=xD.mp (of_decide_eq_true hu)
 obtain⟨a0,a1,a2,a3⟩:=hok prs bf pr hm
 have d1:=Int.dvd_of_emod_eq_zero (t1 prs bf)
 have d2:=Int.dvd_of_emod_eq_zero (t2 prs bf)
 rw[om fun q hq=>by have:=hok prs bf q hq;omega] at d1
 rw[om fun q hq=>by have:=hok prs bf q hq;omega] at d2
 have d3:=Int.dvd_sub d1 d2
 rw[EO fun q hq=>by have:=hok prs bf q hq;omega,e,List.map_singleton,List.sum_singleton] at d3
 have g1:0<=gW w1 pr.1.toNat/\gW w1 pr.1.toNat<p:=by
  unfold gW
  rw[List.getD_eq_getElem?_getD,List.getElem?_eq_getElem (by omega)]
  exact h1 _ (List.getElem_mem _)
 have g2:0<=gW w2 pr.1.toNat/\gW w2 pr.1.toNat<p:=by
  unfold gW
  rw[List.getD_eq_getElem?_getD,List.getElem?_eq_getElem (by omega)]
  exact h2 _ (List.getElem_mem _)
 rcases uL hp d3 with d|d
 ·exact absurd (Int.le_of_dvd (by omega) d) (by omega)
 ·generalize gW w1 pr.1.toNat=A at*
  generalize gW w2 pr.1.toNat=B at*
  obtain⟨k,hk⟩:=d
  rcases Int.lt_trichotomy k 0 with c|c|c
  ·have:p*k<=p*(-1):=Int.mul_le_mul_of_nonneg_left (by omega) (by omega)
   omega
  ·subst c;omega
  ·have:p*1<=p*k:=Int.mul_le_mul_of_nonneg_left (by omega) (by omega)
   omega
def gE(p c d:Int)(w1 w2:List Int):List Int:=(List.range w1.length).map fun i=>(c*gW w1 i+d*gW w2 i)%p
theorem Tg{p c d:Int}{w1 w2:List Int}{i:Nat}(h:i<w1.length):gW (gE p c d w1 w2) i=(c*gW w1 i+d*gW w2 i)%p:=by
 unfold gW gE
 rw[List.getD_eq_getElem?_getD,List.getElem?_map,List.getElem?_range h]
 rfl
theorem VW{p c d:Int}{w1 w2:List Int}{prs:ak}(hok:∀pr∈prs,0<=pr.1/\pr.1<w1.length)(hl:w2.length=w1.length)(t1:p∣aG prs (w1.map some))(t2:p∣aG prs (w2.map some)):p∣aG prs ((gE p c d w1 w2).map some):=by
  have hml:(gE p c d w1 w2).length=w1.length:=by unfold gE;rw[List.length_map,List.length_range]
  rw[om fun q hq=>by have:=hok q hq;omega] at t1
  rw[om fun q hq=>by have:=hok q hq;omega] at t2
  rw[om fun q hq=>by have:=hok q hq;omega]
  have key:∀{prs:ak},(∀pr∈prs,0<=pr.1/\pr.1<w1.length)->p∣(prs.map fun pr=>pr.2*gW (gE p c d w1 w2) pr.1.toNat).sum-(c*(prs.map fun pr=>pr.2*gW w1 pr.1.toNat).sum+d*(prs.map fun pr=>pr.2*gW w2 pr.1.toNat).sum):=fun{prs}=>by
    induction prs with
    |nil=>intro _;simp
    | cons pr r ih =>
      intro h
      obtain⟨k,hk⟩:=ih fun q hq=>h q (List.mem_cons_of_mem _ hq)
      have h0:=h pr (List.mem_cons_self ..)
      rw[List.map_cons,List.map_cons,List.map_cons,List.sum_cons,List.sum_cons,List.sum_cons,Tg (by omega)]
      have e:=Int.emod_add_mul_ediv (c*gW w1 pr.1.toNat+d*gW w2 pr.1.toNat) p
      exact⟨k-pr.2*((c*gW w1 pr.1.toNat+d*gW w2 pr.1.toNat)/p),by grind⟩
  obtain⟨a,ha⟩:=key hok
  obtain⟨b,hb⟩:=t1
  obtain⟨e,he⟩:=t2
  exact⟨a+c*b+d*e,by rw[hb,he] at ha;grind⟩
theorem qv(wd:Wo):∀prs:ak,aG (prs.filter fun pr=>decide (pr.2≠0)) wd=aG prs wd
  |[]=>rfl
  | pr :: r => by
    rw[List.filter_cons,jq]
    by_cases c:pr.2=0
    · rw[if_neg (by simpa using c),qv wd r]
      have:eO wd pr=0:=by
        unfold eO
        split
        · rw[c,Int.zero_mul]
        · rfl
      omega
    · rw[if_pos (by simpa using c),jq,qv wd r]
def fu(w:List Int)(ai:List Int):Wo:=(List.range w.length).map fun(i:Nat)=>if(i:Int)∈ai then none else some (gW w i)
theorem jC(w ai:List Int):(fu w ai).length=w.length:=by unfold fu;rw[List.length_map,List.length_range]
theorem tL{w ai:List Int}{i:Nat}(h:i<w.length):(fu w ai)[i]?=some (if(i:Int)∈ai then none else some (gW w i)):=by
 unfold fu
 rw[List.getElem?_map,List.getElem?_range h];rfl
theorem xU{w:List Int}{i:Nat}(h:i<w.length):w[i]?=some (gW w i):=by
 unfold gW
 rw[List.getD_eq_getElem?_getD,List.getElem?_eq_getElem h];rfl
theorem Nm{w ai:List Int}(hu:ai.Pairwise (· < ·))(hr:∀x∈ai,0<=x/\x<w.length):gD (fu w ai)=ai:=by
 refine n9 (w5 _) hu fun k=>?_
 rw[m7]
 constructor
 ·rintro⟨h0,h1⟩
  have hl:=(List.getElem?_eq_some_iff.mp h1).1
  rw[jC] at hl
  rw[tL hl] at h1
  by_cases c:((k.toNat:Nat):Int)∈ai
  ·rwa[show((k.toNat:Nat):Int)=k by omega] at c
  ·rw[if_neg c] at h1;cases h1
 ·intro h
  obtain⟨h0,h1⟩:=hr k h
  refine⟨h0,?_⟩
  rw[tL (by omega),if_pos (by rw[show((k.toNat:Nat):Int)=k by omega];exact h)]
theorem GV(w ai:List Int):Agree w (fu w ai):=fun i x h=>by
 have hl:=(List.getElem?_eq_some_iff.mp h).1
 rw[jC] at hl
 rw[tL hl] at h
 rw[xU hl]
 split at h
 ·cases h
 ·cases h;rfl
theorem Mu{w g:List Int}{e:Wo}(hl:e.length=w.length)(hg:gD e=g)(ha:Agree w e):e=fu w g:=by
  apply List.ext_getElem?
  intro i
  by_cases hi:i<w.length
  · rw[tL hi]
    cases h:e[i]? with
    |none=>rw[List.getElem?_eq_none_iff] at h;omega
    | some o =>
      cases o with
      | none =>
        have:(i:Int)∈g:=by rw[<-hg,m7];exact⟨by omega,by rw[Int.toNat_natCast];exact h⟩
        rw[if_pos this]
      | some x =>
        have hn:¬(i:Int)∈g:=by
          rw[<-hg,m7,Int.toNat_natCast,h]
          rintro⟨_,z⟩;cases z
        rw[if_neg hn]
        have:=ha i x h
        rw[xU hi] at this
        cases this;rfl
  · rw[List.getElem?_eq_none (by omega),List.getElem?_eq_none (by rw[jC];omega)]
theorem Wm{p:Int}{cs:List ak}{w ai g:List Int}(hN:e7 p cs w.length)(hw:∀x∈w,0<=x/\x<p)(ht:∀prs∈cs,aG prs (w.map some)%p=0)(hu:ai.Pairwise (· < ·))(hr:∀x∈ai,0<=x/\x<w.length)(hG:gY cs ai g):eV p cs (fu w ai)=fu w g:=by
 have p2:=hN.1.1
 have wX:e7 p cs (fu w ai).length:=by rw[jC];exact hN
 have h1:=TH (p:=p) (by omega) wX.rg
 rw[Nm hu hr] at h1
 have h2:=(BA (p:=p) (by omega) wX.rg).2.2.2.2
 rw[jC] at h2
 exact Mu h2 (Ip hu h1 hG) (T6 wX (jC w ai) hw ht (GV w ai))
theorem KL{cs:List ak}{ai g:List Int}(hu:ai.Pairwise (· < ·))(ho:dI cs ai=true)(hG:gY cs ai g):g=ai:=
 n9 (hG.up hu) hu fun k=>⟨fun h=>hG.mem k h,fun h=>hG.max ai (fun x hx=>hx) ho k h⟩
theorem TF{p:Int}{w ai:List Int}(dU:p<10^40)(hw:∀x∈w,0<=x/\x<p):fE (fu w ai):=fun x hx=>by
 obtain⟨i,hi⟩:=List.getElem?_of_mem hx
 have:=GV w ai i x hi
 have:=hw x (List.mem_of_getElem? this)
 unfold Sm;omega
theorem ZK{cs:List ak}{m:Nat}(h:∀prs∈cs,prs.length<=m)(hm:cs.length*m<=9000):tot cs<=9000:=by
  have:tot cs<=cs.length*m:=by
    clear hm
    induction cs with
    |nil=>simp[tot]
    | cons a r ih =>
      have h1:=ih fun prs hp=>h prs (List.mem_cons_of_mem _ hp)
      have h2:=h a (List.mem_cons_self ..)
      have:tot (a::r)=a.length+tot r:=by simp[tot]
      rw[this,List.length_cons,Nat.succ_mul];omega
  omega
end L2
set_option maxRecDepth 100000
set_option maxHeartbeats 4000000
set_option maxRecDepth 100000
set_option maxHeartbeats 8000000
namespace K39
open PySem L2
def top(i:Nat):Stmt:=PySem.Challenge.pw_fewchecks_k39_whole_two_true_words.main.body.getD i (.Pass ⟨0,0,0,0⟩)
abbrev aaT:Stmt:=top 0
abbrev mH:Stmt:=top 2
abbrev n6:Stmt:=top 3
abbrev mX:Stmt:=top 4
abbrev lZ:Stmt:=top 6
abbrev nH:Stmt:=top 7
abbrev lJ:Stmt:=top 8
abbrev aaN:Stmt:=top 9
abbrev kO:Stmt:=top 10
abbrev nq:Stmt:=top 12
abbrev nA:Stmt:=top 13
abbrev iV:Stmt:=top 14
abbrev lG:Stmt:=top 15
abbrev nE:Stmt:=top 17
abbrev lR:Stmt:=top 18
abbrev lC:Stmt:=top 19
abbrev mj:Stmt:=top 20
abbrev nQ:Stmt:=top 22
abbrev kN:Stmt:=top 24
abbrev nN:Stmt:=top 25
abbrev lH:Stmt:=top 26
abbrev mF:Stmt:=top 27
abbrev nv:Stmt:=top 28
abbrev lX:Stmt:=top 29
abbrev nR:Stmt:=top 30
abbrev mL:Stmt:=top 31
abbrev jA:Stmt:=top 32
abbrev kZ:Stmt:=top 33
abbrev lQ:Stmt:=top 34
abbrev kT:Stmt:=top 35
abbrev lM:Stmt:=top 36
abbrev j5:Stmt:=top 37
abbrev lV:Stmt:=top 38
abbrev fV:Stmt:=top 39
abbrev mS:Stmt:=inClass (top 21) 0
abbrev nZ:Stmt:=inClass (top 21) 1
abbrev nk:Stmt:=inClass (top 21) 2
abbrev mQ:Stmt:=inClass (top 21) 5
local macro_rules| `(tactic|walk_at "d0")=> `(tactic|first|omega|assumption|decide|(unfold Sm at*;omega)|(unfold sI;omega)|(unfold uU;decide)|(unfold uU;omega))
local macro_rules| `(tactic|walk_at "ds")=> `(tactic|((try dsimp only);first|walk_at "d0" |(refine And.intro ?_ ?_<;>walk_at "d0")|(refine Or.inl ?_;walk_at "d0")|(refine Or.inr (And.intro ?_ ?_)<;>walk_at "d0")))
local macro_rules| `(tactic|walk_at "s1")=> `(tactic|with_reducible first
 |refine R.seq ?_|refine R.asg ?_|refine R.jx ?_|refine R.ret ?_|refine R.next ?_|refine R.c ?_|refine R.op ?_|refine R.test ?_|refine R.bl ?_
 |refine R.and ?_|refine R.cb ?_|refine R.call ?_|refine R.nil ?_|refine R.cons ?_
 |refine R.lst ?_|refine R.sl ?_|refine R.MZ ?_|refine R.part ?_|refine R.Gi ?_|refine R.ZE ?_|refine R.QN ?_|refine R.Mm ?_|refine R.ko ?_
 |refine R.fX ?_|refine R.OH ?_|refine R.J2 ?_|refine R.Ge ?_|refine R.Dr ?_
 |refine rQ ?_|refine Iq ?_|refine R.Kv ?_|refine R.iL ?_|refine R.RU ?_|refine R.comp ?_)
local macro_rules| `(tactic|walk_at "st")=> `(tactic|repeat (first
 |walk_at "s1"
 |((with_reducible refine' R.var ?h0 ?_);(case h0=>rfl))
 |((with_reducible refine' R.rI ?h1 ?_);(case h1=>walk_at "ds"))
 |((with_reducible refine' R.zG (o:= .lst []) ?h1 ?_);(case h1=>rfl))
 |((with_reducible refine' R.su ?h0 ?h1 ?_);(case h0=>assumption);(case h1=>rfl))
 |((with_reducible refine' R.JB ?h1 ?_);(case h1=>rfl))
 |((with_reducible refine' R.setM ?h0 ?h1 ?_);(case h0=>assumption);(case h1=>rfl))
 |((with_reducible refine' R.R8 ?h0 ?_);(case h0=>assumption))
 |((with_reducible refine' R.Xc ?h0 ?_);(case h0=>walk_at "ds"))
 |((with_reducible refine' R.qG ?h0 ?_);(case h0=>assumption))
 |((with_reducible refine' R.Ep ?h0 ?_);(case h0=>first|exact R.dT (by omega)|exact R.CI (by omega)|decide))
 |((with_reducible refine' R.FL ?h0 ?_);(case h0=>first|exact R.dF (by omega)|exact R.Cp (by omega)|decide))
 |(with_reducible refine R.JC ?_)|(with_reducible refine R.RJ ?_)))
local macro_rules| `(tactic|walk_at "fv")=> `(tactic|first|exact Or.inl rfl|exact Or.inr (Or.inl rfl)|exact Or.inr (Or.inr (Or.inl rfl))|exact Or.inr (Or.inr (Or.inr (Or.inl rfl)))|exact Or.inr (Or.inr (Or.inr (Or.inr rfl))))
local macro_rules| `(tactic|walk_at "d1")=> `(tactic|with_reducible first
 |refine Sv.seq ?_|refine Sv.CC ?_|refine Sv.asg ?_|refine Sv.rq ?_|refine Sv.jx ?_|refine Sv.ret ?_|refine Sv.next ?_
 |refine Ev.int ?_|refine Ev.bl ?_|refine Ev.aE ?_|refine Ev.fX ?_|refine Ev.EH ?_|refine Ev.rI ?_|refine Ev.rU ?_|refine Ev.eq ?_|refine Ev.ne ?_|refine Ev.is ?_|refine Ev.Yh ?_|refine Ev.Np ?_|refine Ev.VS ?_|refine Ev.mD ?_|refine Ev.UH ?_
 |refine Ev.Uc ?_|refine Ev.Bm ?_|refine Tv.test ?_|refine Tv.and ?_|refine Tv.or ?_|refine Tv.not ?_|refine Tv.ko ?_|refine Tv.YB ?_
 |refine Ev.Z5 ?_|refine Ev.lst ?_|refine Av.nil ?_|refine Av.cons ?_|refine Av.NW ?_|refine Ov.none ?_|refine Ov.some ?_|refine Ev.min2 ?_|refine Ev.Zq ?_
 |refine R.di ?_|refine R.db ?_|refine R.dl ?_|refine R.dt ?_|refine R.Wc ?_|refine R.T9 ?_|refine R.Tc ?_|refine R.LP ?_
 |refine Gv.je ?_|refine Gv.KQ ?_|refine Gv.C2 ?_|refine Gv.kP ?_|refine Gv.R3 ?_|refine Gv.Ld ?_|refine rQ ?_|refine Iq ?_)
local macro_rules| `(tactic|walk_at "dt")=> `(tactic|repeat (first
 |walk_at "d1"
 |((with_reducible refine' Ev.var ?h0 ?_);(case h0=>rfl))
 |((with_reducible refine' Ev.draw ?h0 ?_);(case h0=>rfl))
 |((with_reducible refine' Ev.D4 ?h0 ?_);(case h0=>rfl))
 |((with_reducible refine' Sv.append ?h0 ?_);(case h0=>rfl))
 |((with_reducible refine' Gv.tup ?h0 ?_);(case h0=>rfl))
 |((with_reducible refine' Gv.lst ?h0 ?_);(case h0=>rfl))
 |((with_reducible refine' R.at_ ?h0 ?_);(case h0=>first|rfl|assumption))
 |(with_reducible refine Ev.Iz ?_)|(with_reducible refine Ev.Ex ?_)|(with_reducible refine Ev.listOf ?_)|(with_reducible refine Ev.sl ?_)|(with_reducible refine Ev.cat ?_)|(with_reducible refine Ev.m8 ?_)
 |((with_reducible refine' Ev.O1 ?h0 ?_);(case h0=>walk_at "fv"))
 |((with_reducible refine' Ev.XN ?h0 ?h1 ?_);(case h0=>walk_at "fv");(case h1=>walk_at "fv"))
 |(with_reducible refine Ev.all ?_)|(with_reducible refine Ev.sum ?_)|(with_reducible refine Ev.zG ?_)
 |((with_reducible refine' R.XD ?_))
 |((with_reducible refine' R.Ep ?h0 ?_);(case h0=>first|exact R.dT (by omega)|exact R.CI (by omega)|rfl))
 |((with_reducible refine' R.FL ?h0 ?_);(case h0=>first|exact R.dF (by omega)|exact R.Cp (by omega)|exact Bool.false_ne_true))
 |((with_reducible refine' R.OV ?h0 ?_);(case h0=>first|walk_at "ds" |exact Nat.le_of_ble_eq_true rfl))))
local macro_rules| `(tactic|walk_at "wk")=> `(tactic|repeat (first|exact Wk.nil|apply Wk.no|apply Wk.eq))
section
variable{P:Program}{w:World}{K:PySem.W.Frag}{mg:Str->Option Value}{base:Heap}{f:Addr}{fd:FuncData}
theorem g8:bM ["p","b","last_rest","last_times","rest","times","quotient","next_rest","next_times"] ["p","b"] (az n6):=⟨rfl,rfl,rfl,by decide+kernel,rfl,by decide+kernel,by decide+kernel⟩
theorem Wl(F:bC K "inverse" "inverse" n6 f fd):
  aY P w K mg base bw 1 f fd ["p","b"] Cm:=by
 refine F.ok g8 (fun vs H Q E h=>?_) (fun cdv A outer s H vs Q E hr h=>?_)
 ·obtain⟨p,b,rfl,hp,hp3,hb,q⟩:=h
  rfl
 obtain⟨p,b,rfl,hp,hp3,hb,q⟩:=h
 refine⟨_,(@aB _ _ _ _ _ (@aT _ _ (2) _ _ _ _ g8.nd rfl (Or.inl rfl) (pv 0) (by rfl) (by first|exact .inl rfl|exact .inr rfl|assumption)) (@aB _ _ _ _ _ (@aT _ _ (3) _ _ _ _ g8.nd rfl (Or.inl rfl) ao (by rfl) (by first|exact .inl rfl|exact .inr rfl|assumption)) (@aB _ _ _ _ _ (@aT _ _ (4) _ _ _ _ g8.nd rfl (Or.inl rfl) (@aF _ _ _ _ _ _ _ _ fh (pv 1) (pv 0)) (by rfl) (by first|exact .inl rfl|exact .inr rfl|assumption)) (@aB _ _ _ _ _ (@aT _ _ (5) _ _ _ _ g8.nd rfl (Or.inl rfl) ao (by rfl) (by first|exact .inl rfl|exact .inr rfl|assumption)) (@aB _ _ _ _ _ (@sF _ _ _ _ _ _ PassesOwn.never (@bu _ _ _ _ _ _ _ _ iS (pv 4) ao (bG _)) (@aB _ _ _ _ _ (@aT _ _ (6) _ _ _ _ g8.nd rfl (Or.inl rfl) (@aF _ _ _ _ _ _ _ _ oq (pv 2) (pv 4)) (by rfl) (by first|exact .inl rfl|exact .inr rfl|assumption)) (@aB _ _ _ _ _ (@aT _ _ (7) _ _ _ _ g8.nd rfl (Or.inl rfl) (@aF _ _ _ _ _ _ _ _ jj (pv 2) (@aF _ _ _ _ _ _ _ _ dO (pv 6) (pv 4))) (by rfl) (by first|exact .inl rfl|exact .inr rfl|assumption)) (@aB _ _ _ _ _ (@aT _ _ (8) _ _ _ _ g8.nd rfl (Or.inl rfl) (@aF _ _ _ _ _ _ _ _ jj (pv 3) (@aF _ _ _ _ _ _ _ _ dO (pv 6) (pv 5))) (by rfl) (by first|exact .inl rfl|exact .inr rfl|assumption)) (@aB _ _ _ _ _ (@aT _ _ (2) _ _ _ _ g8.nd rfl (Or.inl rfl) (pv 4) (by rfl) (by first|exact .inl rfl|exact .inr rfl|assumption)) (@aB _ _ _ _ _ (@aT _ _ (3) _ _ _ _ g8.nd rfl (Or.inl rfl) (pv 5) (by rfl) (by first|exact .inl rfl|exact .inr rfl|assumption)) (@aB _ _ _ _ _ (@aT _ _ (4) _ _ _ _ g8.nd rfl (Or.inl rfl) (pv 7) (by rfl) (by first|exact .inl rfl|exact .inr rfl|assumption)) (@aD _ _ _ (@aT _ _ (5) _ _ _ _ g8.nd rfl (Or.inl rfl) (pv 8) (by rfl) (by first|exact .inl rfl|exact .inr rfl|assumption)))))))))) (@aD _ _ _ (@aV _ _ _ _ (@aF _ _ _ _ _ _ _ _ fh (pv 3) (pv 0))))))))),?_⟩
 have hp2:=hp.1
 walk_at "st"
 refine aag (fun σ H1=>H1=H/\∃(L lt r t:Int) (x6 x7 x8:Option V),σ=[some (.int p),some (.int b),some (.int L),some (.int lt),some (.int r),some (.int t),x6,x7,x8]/\Eu p b L lt r t) (fun(σ:St) (_:Hp)=>match σ[4]? with|some (some (V.int r))=>r.toNat|_=>0) ⟨rfl,_,_,_,_,_,_,_,rfl,Eu.start hp2⟩ ?_ ?_
 ·rintro σ H1 ⟨rfl,L,lt,r,t,x6,x7,x8,rfl,E⟩
  obtain⟨t1,t2⟩:=E.tb
  have e1:=E.l0
  have e2:=E.r0
  have e3:=E.lp
  have e4:=E.rp
  walk_at "st"
  refine nW (fun c=>?_) (fun c=>?_)
  ·have c:r≠0:=of_decide_eq_true c
   have hr:0<r:=by omega
   have q1:0<=L/r:=Int.ediv_nonneg (by omega) (by omega)
   have q2:L/r<=L:=Int.ediv_le_self _ (by omega)
   obtain⟨N1,N2⟩:=E.next hr
   walk_at "st"
   refine⟨⟨rfl,_,_,_,_,_,_,_,rfl,N1⟩,?_⟩
   show(L-L/r*r).toNat<r.toNat
   omega
  ·have c:r=0:=by simpa using c
   subst c
   walk_at "st"
   exact q _ (Int.emod_nonneg _ (by omega)) (Int.emod_lt_of_pos _ (by omega)) (E.fin hp hb)
 ·exact fun σ H Q Q' h ⟨v,e,s,k,ek,z⟩=>⟨v,e,s,k,ek,h _ _ z⟩
theorem Jm:bM ["p","a","b"] ["p","a","b"] (az mH):=⟨rfl,rfl,rfl,by decide+kernel,rfl,by decide+kernel,by decide+kernel⟩
theorem VJ(F:bC K "over" "over" mH f fd)(Ye:Callee P w K mg base "inverse" 1 ["p","b"] Cm):
  aY P w K mg base bw 2 f fd ["p","a","b"] Bb:=by
 refine F.ok Jm (fun vs H Q E h=>?_) (fun cdv A outer s H vs Q E hr h=>?_)
 ·obtain⟨p,a,b,rfl,hp,hp3,hb,a1,a2,q⟩:=h
  rfl
 obtain⟨p,a,b,rfl,hp,hp3,hb,a1,a2,q⟩:=h
 refine⟨_,(@aD _ _ _ (@aV _ _ _ _ (@aF _ _ _ _ _ _ _ _ fh (@aF _ _ _ _ _ _ _ _ dO (pv 1) (@aO _ _ _ _ _ _ _ _ _ _ Ye (hr.mono (by decide)) (@aa _ _ _ _ _ (pv 0) (@aa _ _ _ _ _ (pv 2) aj rfl) rfl) (by rfl) (by decide) (by rfl) (by rfl))) (pv 0)))),?_⟩
 have hp2:=hp.1
 walk_at "st"
 refine⟨p,b,rfl,hp,hp3,hb,fun u u1 u2 ⟨k,hk⟩=>?_⟩
 walk_at "st"
 refine q _ (Int.emod_nonneg _ (by omega)) (Int.emod_lt_of_pos _ (by omega)) ⟨a*k-a*u/p*b,?_⟩
 have e:=Int.mul_ediv_add_emod (a*u) p
 have e2:a*u%p=a*u-p*(a*u/p):=by omega
 have e3:b*(a*u)=a*(u*b):=by rw[Int.mul_comm b,Int.mul_assoc]
 rw[e2,Int.mul_sub,e3,hk,Int.mul_add,Int.mul_one,Int.mul_sub,<-Int.mul_assoc a p k,Int.mul_comm a p,Int.mul_assoc p a k,Int.mul_comm b (p*_),Int.mul_assoc p]
 omega
theorem o6:bM ["p","pairs","word","reached","place","factor"] ["p","pairs","word"] (az mX):=⟨rfl,rfl,rfl,by decide+kernel,rfl,by decide+kernel,by decide+kernel⟩
theorem UX(F:bC K "total" "total" mX f fd):
    aY P w K mg base bw 1 f fd ["p","pairs","word"] ua:=by
  refine F.ok o6 (fun vs H Q E h=>?_) (fun cdv A outer s H vs Q E hr h=>?_)
  · obtain⟨nb,p,va,vc,prs,wd,rfl,hA,hC,hp,h1,h2,q⟩:=h
    rfl
  obtain⟨nb,p,va,vc,prs,wd,rfl,hA,hC,hp,h1,h2,q⟩:=h
  refine⟨_,(@aB _ _ _ _ _ (@aT _ _ (3) _ _ _ _ o6.nd rfl (Or.inl rfl) ao (by rfl) (by first|exact .inl rfl|exact .inr rfl|assumption)) (@aB _ _ _ _ _ (@fM _ _ _ _ _ _ _ _ PassesOwn.never rfl (cN (K:=K) rfl (pv 1)) (DN rfl (@bZ _ _ _ _ _ (aK (i:=4) o6.nd rfl (Or.inl rfl)) (@bZ _ _ _ _ _ (aK (i:=5) o6.nd rfl (Or.inl rfl)) gF (by rfl)) (by rfl))) (@aD _ _ _ (@cV _ _ _ _ _ _ _ _ (@bu _ _ _ _ _ _ _ _ vQ (@aJ _ _ _ _ _ _ _ aZ (pv 2) (pv 4) (fun _ _=>rfl)) iX (bG _)) (@aD _ _ _ (@aT _ _ (3) _ _ _ _ o6.nd rfl (Or.inl rfl) (@aF _ _ _ _ _ _ _ _ fh (@aF _ _ _ _ _ _ _ _ ez (pv 3) (@aF _ _ _ _ _ _ _ _ dO (pv 5) (@aJ _ _ _ _ _ _ _ aZ (pv 2) (pv 4) (fun _ _=>rfl)))) (pv 0)) (by rfl) (by first|exact .inl rfl|exact .inr rfl|assumption))) cX)) (by intro _;rfl)) (@aD _ _ _ (@aV _ _ _ _ (pv 3))))),?_⟩
  obtain⟨a,xs,rfl,na,ha,da⟩:=hA.cU
  obtain⟨c,ws,rfl,nc,hc,dc⟩:=hC.cU
  have jF:=da.length
  rw[List.length_map] at jF
  have ew:=uy dc
  subst ew
  walk_at "st"
  refine R.qG (aQ.of ha) ?_
  refine zx (xs:=xs) (fun i σ H1=>H1=H/\∃(r:Int) (x y:Option V),σ=[some (.int p),some (.ref a),some (.ref c),some (.int r),x,y]/\r=aG (prs.take i) wd%p) ⟨rfl,0,none,none,rfl,by simp[aG]⟩ ?_ ?_ ?_
  · rintro i σ H1 hi ⟨rfl,_⟩
    exact aQ.of ha
  · rintro i x σ H1 hx ⟨rfl,r,y,z,rfl,hr⟩
    have hi:i<prs.length:=by have:=(List.getElem?_eq_some_iff.mp hx).1;omega
    obtain⟨x',hx',dx⟩:=da.get (i:=i) (by rw[List.getElem?_map,List.getElem?_eq_getElem hi];rfl)
    rw[hx] at hx';cases hx'
    obtain⟨t,rfl,nt,ht⟩:=HE dx
    obtain⟨g1,g2,g3⟩:=h1 _ (List.getElem_mem hi)
    have hk:prs[i].fst.toNat<wd.length:=by omega
    have hat:bB (wd.map nu) prs[i].fst=some (nu wd[prs[i].fst.toNat]):=gC g1 (by rw[List.getElem?_map,List.getElem?_eq_getElem hk];rfl)
    have zL:eO wd prs[i]=match wd[prs[i].fst.toNat] with|some x=>prs[i].snd*x|none=>0:=by
      unfold eO
      rw[List.getElem?_eq_getElem hk]
      cases wd[prs[i].fst.toNat]<;>rfl
    have hs2:∀x,wd[prs[i].fst.toNat]=some x->Sm x:=fun x e=>h2 x (by rw[<-e];exact List.getElem_mem hk)
    have hd:=Gd (wd:=wd) hi
    refine R.Ja (eE.of ht) rfl ?_
    walk_at "st"
    refine R.su hc hat ?_
    walk_at "st"
    generalize wd[prs[i].fst.toNat]=o at hat zL hs2⊢
    cases o with
    | none =>
      refine R.Dr ?_
      walk_at "st"
      refine⟨rfl,_,_,_,rfl,?_⟩
      rw[hd,zL,hr,Int.add_zero]
    | some x =>
      have Va:=hs2 x rfl
      refine R.Ge ?_
      walk_at "st"
      refine R.su hc hat ?_
      refine R.rI (Or.inr ⟨g3,Va⟩) ?_
      walk_at "st"
      refine⟨rfl,_,_,_,rfl,?_⟩
      rw[hd,zL,hr,Int.emod_add_emod]
  · rintro σ H1 ⟨rfl,r,x,y,rfl,hr⟩
    walk_at "st"
    rw[jF,List.take_length] at hr
    rw[hr]
    exact q
def tG:DF:=fun ds Φ=>∃(p:Int) (prs:ak) (wd:Wo),ds=[.int p,dg prs,eZ wd]/\0<p/\jt prs wd.length/\fE wd/\Φ true (cM (ou p prs wd))
theorem RQ:cJ tG:=by
 intro ds Φ Ψ hm z
 obtain⟨p,prs,wd,e,h1,h2,h3,q⟩:=hm
 exact⟨p,prs,wd,e,h1,h2,h3,z _ _ q⟩
theorem By:bM ["p","pairs","word","place","factor"] ["p","pairs","word"] (az nH):=⟨rfl,rfl,rfl,by decide+kernel,rfl,by decide+kernel,by decide+kernel⟩
theorem Rx(F:bC K "sum_of" "sum_of" nH f fd)(uD:Callee P w K mg base "total" 1 ["p","pairs","word"] ua):
    aY P w K mg base bw 2 f fd ["p","pairs","word"] (bJ 3 tG):=by
  refine F.ok By (fun vs H Q E h=>h.1) (fun cdv A outer s H vs Q E hr h=>?_)
  obtain⟨_,nb,ds,hlive,hds,hF⟩:=h
  obtain⟨Φ,aC,hF⟩:∃Φ:Pd,(∀f d v H',Φ f d->bx H H'->ah (fun a=>nb a\/(f=true/\H a≠none)) H' d v->Q v H')/\tG ds Φ:=⟨_,fun f d v H' q=>q v H',hF⟩
  obtain⟨p,prs,wd,rfl,hp,h1,h2,q⟩:=hF
  refine⟨_,(@aB _ _ _ _ _ (@fM _ _ _ _ _ _ _ _ PassesOwn.never rfl (cN (K:=K) rfl (pv 1)) (@iB _ (K) _ _ _ (2) _ rfl rfl (@bZ _ _ _ _ _ (aK (i:=3) By.nd rfl (Or.inl rfl)) (@bZ _ _ _ _ _ (aK (i:=4) By.nd rfl (Or.inl rfl)) gF (by rfl)) (by rfl)) (by rfl) (by rfl)) (@aD _ _ _ (@cV _ _ _ _ _ _ _ _ (@bu _ _ _ _ _ _ _ _ Gq (@aJ _ _ _ _ _ _ (bI K) aZ (pv 2) (pv 3) (fun _ _=>rfl)) iX (bG _)) (@aD _ _ _ (@aV _ _ _ _ iX)) cX)) (by intro _;rfl)) (@aD _ _ _ (@aV _ _ _ _ (@aO _ _ _ _ _ _ _ _ _ _ uD (hr.mono (by decide)) (@aa _ _ _ _ _ (pv 0) (@aa _ _ _ _ _ (pv 1) (@aa _ _ _ _ _ (pv 2) aj rfl) rfl) rfl) (by rfl) (by decide) (by rfl) (by rfl))))),?_⟩
  refine Sv.fk hlive hds aC (ρ:=[.d false _, .d false _, .d false _, .no, .no]) rfl ?_
  clear aC hds
  walk_at "dt"
  refine Sv.forL (Ev.var rfl ⟨_,rfl,fun v=>?_⟩)
  refine⟨fun i ρ=>(∃x y,ρ=[.d false (.int p), .d false (dg prs), .d false (eZ wd),x,y])/\∀pr∈prs.take i,wd[pr.1.toNat]?≠some none,⟨⟨_,_,rfl⟩,by simp⟩,?_,?_⟩
  · rintro i d ρ hd ⟨⟨x,y,rfl⟩,hI⟩
    obtain⟨pr,bz,rfl⟩:=cW hd
    obtain⟨g1,g2,g3⟩:=h1 pr (List.mem_of_getElem? bz)
    obtain⟨o,ho,hat⟩:=nO (xs:=wd) cM g1 g2 rfl
    walk_at "dt"
    rw[wz]
    cases o with
    | none =>
      walk_at "dt"
      have e:ou p prs wd=none:=if_pos ⟨pr,List.mem_of_getElem? bz,ho⟩
      rw[e] at q
      exact q
    | some z =>
      walk_at "dt"
      refine⟨⟨_,_,rfl⟩,fun Xu h'=>?_⟩
      rw[take_snoc bz] at h'
      rcases List.mem_append.mp h' with h'|h'
      · exact hI Xu h'
      · rw[List.mem_singleton.mp h',ho];exact fun z=>by cases z
  · rintro ρ ⟨⟨x,y,rfl⟩,hI⟩
    walk_at "dt"
    refine Ev.total ?_
    walk_at "dt"
    refine⟨p,prs,wd,rfl,hp,h1,h2,?_⟩
    have e:ou p prs wd=some (aG prs wd%p):=if_neg fun⟨pr,h,e⟩=>hI pr (by rw[List.length_map,List.take_length];exact h) e
    rw[e] at q
    exact q
def qX:DF:=fun ds Φ=>∃(p n:Int) (cs:List ak) (wd:Wo),ds=[cS p n cs,eZ wd]/\0<p/\cs.length<=10000/\(∀prs∈cs,jt prs wd.length)/\fE wd/\Φ true (.list (cs.map fun prs=>cM (ou p prs wd)))
theorem JV:cJ qX:=by
 intro ds Φ Ψ hm z
 obtain⟨p,n,cs,wd,e,h1,h2,h3,h4,q⟩:=hm
 exact⟨p,n,cs,wd,e,h1,h2,h3,h4,z _ _ q⟩
theorem Xz:bM ["net","word"] ["net","word"] (az lZ):=⟨rfl,rfl,rfl,by decide+kernel,rfl,by decide+kernel,by decide+kernel⟩
theorem MR(F:bC K "sums" "sums" lZ f fd)(Ro:Callee P w K mg base "sum_of" 2 ["p","pairs","word"] (bJ 3 tG)):
  aY P w K mg base bw 3 f fd ["net","word"] (bJ 2 qX):=by
 refine F.ok Xz (fun vs H Q E h=>h.1) (fun cdv A outer s H vs Q E hr h=>?_)
 obtain⟨_,nb,ds,hlive,hds,hF⟩:=h
 obtain⟨Φ,aC,hF⟩:∃Φ:Pd,(∀f d v H',Φ f d->bx H H'->ah (fun a=>nb a\/(f=true/\H a≠none)) H' d v->Q v H')/\qX ds Φ:=⟨_,fun f d v H' q=>q v H',hF⟩
 obtain⟨p,n,cs,wd,rfl,hp,hl,h1,h2,q⟩:=hF
 refine⟨_,(@aD _ _ _ (@aV _ _ _ _ (dH (bQ.of (show cy (az lZ) ["net","word"] _ ["pairs","net","word"] [none,some 0,some 1]=true by decide+kernel)) (cN (K:=K) rfl (@aJ _ _ _ _ _ _ (cO K) dD (pv 0) ao (fun _ _=>rfl))) (fun _ _ _ _=>⟨(aK (i:=0) (by show List.Nodup (["pairs","net","word"]:List Str);decide+kernel) rfl (Or.inl rfl)),eG,(@aO _ _ _ _ _ _ _ _ _ _ Ro (hr.mono (by decide)) (@aa _ _ _ _ _ (@aJ _ _ _ _ _ _ (cO K) dD (pv 1) ao (fun _ _=>rfl)) (@aa _ _ _ _ _ (pv 0) (@aa _ _ _ _ _ (pv 2) aj rfl) rfl) rfl) (by rfl) (by decide) (by rfl) (by rfl))⟩)))),?_⟩
 refine Sv.fk hlive hds aC (ρ:=[.d false _, .d false _]) rfl ?_
 clear aC hds
 walk_at "dt"
 refine ay.ev (ay.fT (by decide) rfl ?_)
 walk_at "dt"
 refine⟨by rw[List.length_map];exact hl,fun v=>⟨true,fun i ds=>ds=(cs.take i).map fun prs=>cM (ou p prs wd),rfl,?_,?_⟩⟩
 ·rintro i d ds hd hl' rfl
  obtain⟨prs,bf,rfl⟩:=cW hd
  walk_at "dt"
  refine⟨by walk_at "wk",?_⟩
  walk_at "dt"
  refine Ev.cZ RQ ?_
  walk_at "dt"
  refine⟨rfl,p,prs,wd,rfl,hp,h1 prs (List.mem_of_getElem? bf),h2,fun _=>rfl,?_⟩
  show _=List.map _ _
  rw[take_snoc bf,List.map_append]
  rfl
 ·rintro ds hl' rfl
  rw[List.length_map,List.take_length]
  exact q
def sR:DF:=fun ds Φ=>∃(p n:Int) (cs:List ak) (wd:Wo),ds=[cS p n cs,eZ wd]/\0<p/\cs.length<=10000/\(∀prs∈cs,jt prs wd.length)/\fE wd/\Φ true (.bool (decide (nY p cs wd)))
theorem Lb:cJ sR:=by
 intro ds Φ Ψ hm z
 obtain⟨p,n,cs,wd,e,h1,h2,h3,h4,q⟩:=hm
 exact⟨p,n,cs,wd,e,h1,h2,h3,h4,z _ _ q⟩
theorem ZG:bM ["net","word"] ["net","word"] (az lJ):=⟨rfl,rfl,rfl,by decide+kernel,rfl,by decide+kernel,by decide+kernel⟩
theorem MW(F:bC K "is_true" "is_true" lJ f fd)(SI:Callee P w K mg base "sums" 3 ["net","word"] (bJ 2 qX))(jN:mg "all"=none):
  aY P w K mg base bw 4 f fd ["net","word"] (bJ 2 sR):=by
 refine F.ok ZG (fun vs H Q E h=>h.1) (fun cdv A outer s H vs Q E hr h=>?_)
 obtain⟨_,nb,ds,hlive,hds,hF⟩:=h
 obtain⟨Φ,aC,hF⟩:∃Φ:Pd,(∀f d v H',Φ f d->bx H H'->ah (fun a=>nb a\/(f=true/\H a≠none)) H' d v->Q v H')/\sR ds Φ:=⟨_,fun f d v H' q=>q v H',hF⟩
 obtain⟨p,n,cs,wd,rfl,hp,hl,h1,h2,q⟩:=hF
 refine⟨_,(@aB _ _ _ _ _ (@cV _ _ _ _ _ _ _ _ (bu (rO (K:=K) (by rfl)) iX (pv 1) (by with_unfolding_all rfl)) (@aD _ _ _ (@aV _ _ _ _ gf)) cX) (@aD _ _ _ (@aV _ _ _ _ (@bT _ _ _ _ _ _ _ _ (qK K) (Fy rfl) rfl jN PyProof.Rows.boot_all (@aa _ _ _ _ _ (dH (bQ.of (show cy (az lJ) ["net","word"] _ ["reached"] [none]=true by decide+kernel)) (cN (K:=K) rfl (@aO _ _ _ _ _ _ _ _ _ _ SI (hr.mono (by decide)) (@aa _ _ _ _ _ (pv 0) (@aa _ _ _ _ _ (pv 1) aj rfl) rfl) (by rfl) (by decide) (by rfl) (by rfl))) (fun _ _ _ _=>⟨(aK (i:=0) (by show List.Nodup (["reached"]:List Str);decide+kernel) rfl (Or.inl rfl)),eG,(@qg _ _ _ _ _ _ _ _ fP (pv 0) ao (bG _))⟩)) aj rfl) (by decide) (by decide) (by rfl) (by rfl))))),?_⟩
 refine Sv.fk hlive hds aC (ρ:=[.d false _, .d false _]) rfl ?_
 clear aC hds
 refine Sv.seq ?_
 refine Sv.jx ?_
 refine Tv.test ?_
 refine Ev.La ?_
 walk_at "dt"
 refine⟨wd,rfl,?_⟩
 by_cases c:none∈wd
 ·rw[decide_eq_true c]
  walk_at "dt"
  rw[decide_eq_false (show¬nY p cs wd from fun h=>h.1 c)] at q
  exact q
 ·rw[decide_eq_false c]
  walk_at "dt"
  refine ay.ev (ay.fT (by decide) rfl ?_)
  refine Ev.cZ JV ?_
  walk_at "dt"
  refine⟨rfl,p,n,cs,wd,rfl,hp,hl,h1,h2,_,rfl,by rw[List.length_map];exact hl,fun v=>?_⟩
  have hno:∀prs∈cs,¬sJ prs wd:=fun prs _ ⟨pr,_,e⟩=>c (List.mem_of_getElem? e)
  refine fY.rel PyData.bool true (fun i o=>∃prs,cs[i]?=some prs/\o=decide (aG prs wd%p=0)) ?_ fun os jv hos=>?_
  ·rintro i d hd
   obtain⟨prs,bf,rfl⟩:=cW hd
   have es:ou p prs wd=some (aG prs wd%p):=if_neg (hno prs (List.mem_of_getElem? bf))
   rw[es]
   show Gv _ _ _ _ (PyData.int (aG prs wd%p)) _
   walk_at "dt"
   refine⟨by walk_at "wk",?_⟩
   walk_at "dt"
   exact⟨prs,bf,rfl⟩
  rw[List.length_map] at jv
  have ho:=WZ (φ:=fun prs:ak=>decide (aG prs wd%p=0)) jv hos
  refine⟨os,rfl,?_⟩
  have e:os.all id=decide (nY p cs wd):=by
   rw[ho,List.all_map,Bool.eq_iff_iff,List.all_eq_true,decide_eq_true_eq]
   constructor
   ·intro h
    exact⟨c,fun prs hp=>by have:=h prs hp;simpa using this⟩
   ·intro h prs hp
    have:=h.2 prs hp
    simpa using this
  rw[e]
  exact q
theorem ow:bM ["net","told","c","pairs","place","factor"] ["net"] (az kO):=⟨rfl,rfl,rfl,by decide+kernel,rfl,by decide+kernel,by decide+kernel⟩
theorem PD(F:bC K "seats" "seats" kO f fd)(mP:mg "enumerate"=none)(bO:mg "range"=none):
  aY P w K mg base bw 1 f fd ["net"] pO:=by
 refine F.ok ow (fun vs H Q E h=>?_) (fun cdv A outer s H vs Q E hr h=>?_)
 ·obtain⟨nb,p,n,cs,v,rfl,hrest⟩:=h
  rfl
 obtain⟨nb,p,n,cs,v,rfl,hrest⟩:=h
 refine⟨_,(@aB _ _ _ _ _ (kq (i:=1) ow.nd rfl rfl (bQ.of (show cy (az kO) ["net","told","c","pairs","place","factor"] _ ["place"] [none]=true by decide+kernel)) (@gz _ _ _ _ _ _ rfl bO (@aa _ _ _ _ _ (@aJ _ _ _ _ _ _ (cO K) dD (pv 0) ao (fun _ _=>rfl)) aj rfl) (by rfl)) (fun _ _ _ _=>⟨(aK (i:=0) (by show List.Nodup (["place"]:List Str);decide+kernel) rfl (Or.inl rfl)),eG,(@gm _ _ _ _ aj)⟩)) (@aB _ _ _ _ _ (@fM _ _ _ _ _ _ _ _ PassesOwn.never rfl (@Eo _ (K) _ _ _ _ _ _ _ rfl rfl mP (@aJ _ _ _ _ _ _ (cO K) dD (pv 0) ao (fun _ _=>rfl)) (by rfl)) (@iB _ (K) _ _ _ (2) _ rfl rfl (@bZ _ _ _ _ _ (aK (i:=2) ow.nd rfl (Or.inl rfl)) (@bZ _ _ _ _ _ (aK (i:=3) ow.nd rfl (Or.inl rfl)) gF (by rfl)) (by rfl)) (by rfl) (by rfl)) (@aD _ _ _ (@fM _ _ _ _ _ _ _ _ PassesOwn.never rfl (cN (K:=K) rfl (pv 3)) (@iB _ (K) _ _ _ (2) _ rfl rfl (@bZ _ _ _ _ _ (aK (i:=4) ow.nd rfl (Or.inl rfl)) (@bZ _ _ _ _ _ (aK (i:=5) ow.nd rfl (Or.inl rfl)) gF (by rfl)) (by rfl)) (by rfl) (by rfl)) (@aD _ _ _ (@kU _ _ _ _ (j7 PySem.F.plainAttrs_list PySem.F.slot_list_append PySem.F.type_list_append mR (@aJ _ _ _ _ _ _ (bI K) aZ (pv 1) (pv 4) (fun _ _=>rfl)) (@aa _ _ _ _ _ (pv 2) aj rfl)) (by rfl))) (by intro _;rfl))) (by intro _;rfl)) (@aD _ _ _ (@aV _ _ _ _ (pv 1))))),?_⟩
 exact MB ⟨nb,p,n,cs,v,rfl,hrest⟩
def rL:DF:=fun ds Φ=>∃(rows:List (List Int)) (ai:List Int),ds=[.list (rows.map iR), .list (ai.map .int)]/\(∀p∈ai,0<=p/\p<rows.length)/\(∀r∈rows,∀c∈r,0<=c/\c<(1000:Nat))/\Φ true (.bool (pZ (Lr rows ai)))
theorem Sa:cJ rL:=by
 intro ds Φ Ψ hm z
 obtain⟨rows,ai,e,h1,h2,q⟩:=hm
 exact⟨rows,ai,e,h1,h2,z _ _ q⟩
theorem MK{rows:List (List Int)}{ai:List Int}{c:Int}(h:c∈Lr rows ai):∃r∈rows,c∈r:=by
 obtain⟨p,_,h⟩:=List.mem_flatMap.mp h
 rw[List.getD_eq_getElem?_getD] at h
 cases e:rows[p.toNat]? with
 |none=>rw[e] at h;simp at h
 |some r=>rw[e] at h;exact⟨r,List.mem_of_getElem? e,h⟩
theorem uq:bM ["seated","lot","counts","place","c"] ["seated","lot"] (az nA):=⟨rfl,rfl,rfl,by decide+kernel,rfl,by decide+kernel,by decide+kernel⟩
theorem Vp(F:bC K "stands" "stands" nA f fd)(cB:mg "list"=none):
  aY P w K mg base bw 1 f fd ["seated","lot"] (bJ 2 rL):=by
 refine F.ok uq (fun vs H Q E h=>h.1) (fun cdv A outer s H vs Q E hr h=>?_)
 obtain⟨_,nb,ds,hlive,hds,hF⟩:=h
 obtain⟨Φ,aC,hF⟩:∃Φ:Pd,(∀f d v H',Φ f d->bx H H'->ah (fun a=>nb a\/(f=true/\H a≠none)) H' d v->Q v H')/\rL ds Φ:=⟨_,fun f d v H' q=>q v H',hF⟩
 obtain⟨rows,ai,rfl,hp,hc,q⟩:=hF
 refine⟨_,(@aB _ _ _ _ _ (@aT _ _ (2) _ _ _ _ uq.nd rfl (Or.inl rfl) zq (by rfl) (by first|exact .inl rfl|exact .inr rfl|assumption)) (@aB _ _ _ _ _ (@fM _ _ _ _ _ _ _ _ PassesOwn.never rfl (cN (K:=K) rfl (pv 1)) (aK (i:=3) uq.nd rfl (Or.inl rfl)) (@aD _ _ _ (@fM _ _ _ _ _ _ _ _ PassesOwn.never rfl (cN (K:=K) rfl (@aJ _ _ _ _ _ _ (bI K) aZ (pv 0) (pv 3) (fun _ _=>rfl))) (aK (i:=4) uq.nd rfl (Or.inl rfl)) (@aD _ _ _ (@iy _ _ _ _ _ _ (@aF _ _ _ _ _ _ _ _ ez (j7 PySem.F.plainAttrs_dict PySem.F.slot_dict_get PySem.F.type_dict_get Y8 (pv 2) (@aa _ _ _ _ _ (pv 4) (@aa _ _ _ _ _ ao aj rfl) rfl)) ao) (jy (pv 2) (pv 4) set_dict) (by rfl) (by rfl) (by rfl))) (by intro _;rfl))) (by intro _;rfl)) (@aD _ _ _ (@aV _ _ _ _ (qg (GN (K:=K) (by rfl)) ao (@gy _ _ _ _ _ _ _ _ (yy) (WA rfl) rfl cB PyProof.Rows.boot_list (@aa _ _ _ _ _ (Cz PySem.F.plainAttrs_dict PySem.F.slot_dict_values PySem.F.type_dict_values IM (pv 2)) aj rfl) (by decide) (by decide) (by rfl) (by rfl)) (by with_unfolding_all rfl)))))),?_⟩
 refine Sv.fk hlive hds aC (ρ:=[.d false _, .d false _, .no, .no, .no]) rfl ?_
 clear aC hds
 refine Sv.seq ?_
 refine Sv.qQ (jG.new ?_)
 intro A2
 refine Sv.seq ?_
 refine Sv.forL ?_
 walk_at "dt"
 refine fun v1=>⟨fun i ρ=>∃(ks:Ks) (f:Bool) (x3 x4:Sl),gx (Lr rows (ai.take i)) ks/\ρ=[.d false (.list (rows.map iR)), .d false (.list (ai.map .int)), .aX A2 f ks,x3,x4],⟨[],_,_,_,gx.nil,rfl⟩,?_,?_⟩
 ·rintro i d ρ hd ⟨ks,f,x3,x4,hk,rfl⟩
  obtain⟨p,bz,rfl⟩:=cW hd
  obtain⟨p0,p1⟩:=hp p (List.mem_of_getElem? bz)
  obtain⟨row,er,eat⟩:=nO (xs:=rows) iR p0 p1 rfl
  refine Gv.je ?_
  refine Sv.forL ?_
  walk_at "dt"
  refine fun v2=>⟨fun m ρ=>∃(ks:Ks) (f:Bool) (x4:Sl),gx (Lr rows (ai.take i)++row.take m) ks/\ρ=[.d false (.list (rows.map iR)), .d false (.list (ai.map .int)), .aX A2 f ks, .d true (.int p),x4],⟨ks,_,_,by simpa using hk,rfl⟩,?_,?_⟩
  ·rintro m d ρ hd ⟨ks,f,x4,hk,rfl⟩
   obtain⟨c,iN,rfl⟩:=cW hd
   refine Gv.je ?_
   refine Sv.uz rfl ?_
   refine Ev.fX ?_
   refine Ev.QI rfl ?_
   walk_at "dt"
   rw[hk.get c]
   walk_at "dt"
   have hlen:=hk.len (m:=1000) fun x hx=>by
    rcases List.mem_append.mp hx with h|h
    ·obtain⟨r,hr,hx⟩:=MK h
     exact hc r hr x hx
    ·exact hc row (List.mem_of_getElem? er) x (List.mem_of_mem_take h)
   refine⟨by omega,?_⟩
   refine⟨_,_,_,?_,rfl⟩
   rw[take_snoc iN,<-List.append_assoc]
   exact hk.put c
  ·rintro ρ ⟨ks,f,x4,hk,rfl⟩
   rw[List.length_map,List.take_length] at hk
   refine⟨ks,_,_,_,?_,rfl⟩
   rw[take_snoc bz,Sb,List.getD_eq_getElem?_getD,er]
   exact hk
 ·rintro ρ ⟨ks,f,x3,x4,hk,rfl⟩
  rw[List.length_map,List.take_length] at hk
  obtain⟨ns,e1,e2⟩:=hk.vals
  refine Sv.ret ?_
  refine Ev.mD ?_
  walk_at "dt"
  refine ay.ev (ay.Pz rfl ?_)
  rw[e1]
  refine⟨ns,rfl,?_⟩
  rw[e2]
  exact q
def sH:DF:=fun ds Φ=>∃(p n:Int) (cs:List ak) (ai:List Int),ds=[cS p n cs, .list (ai.map .int)]/\lg n cs/\ai.Nodup/\(∀x∈ai,0<=x/\x<n)/\Φ true (.bool (dI cs ai))
theorem TY:cJ sH:=by
 intro ds Φ Ψ hm z
 obtain⟨p,n,cs,ai,e,h1,h2,h3,q⟩:=hm
 exact⟨p,n,cs,ai,e,h1,h2,h3,z _ _ q⟩
theorem Nl:bM ["net","lot"] ["net","lot"] (az nq):=⟨rfl,rfl,rfl,by decide+kernel,rfl,by decide+kernel,by decide+kernel⟩
theorem KW(F:bC K "holds_out" "holds_out" nq f fd)(Zj:Callee P w K mg base "stands" 1 ["seated","lot"] (bJ 2 rL))(vm:Callee P w K mg base "seats" 1 ["net"] pO):
  aY P w K mg base bw 2 f fd ["net","lot"] (bJ 2 sH):=by
 refine F.ok Nl (fun vs H Q E h=>h.1) (fun cdv A outer s H vs Q E hr h=>?_)
 obtain⟨_,nb,ds,hlive,hds,hF⟩:=h
 obtain⟨Φ,aC,hF⟩:∃Φ:Pd,(∀f d v H',Φ f d->bx H H'->ah (fun a=>nb a\/(f=true/\H a≠none)) H' d v->Q v H')/\sH ds Φ:=⟨_,fun f d v H' q=>q v H',hF⟩
 obtain⟨p,n,cs,ai,rfl,hN,nd,hl,q⟩:=hF
 refine⟨_,(@aD _ _ _ (@aV _ _ _ _ (@aO _ _ _ _ _ _ _ _ _ _ Zj (hr.mono (by decide)) (@aa _ _ _ _ _ (@aO _ _ _ _ _ _ _ _ _ _ vm (hr.mono (by decide)) (@aa _ _ _ _ _ (pv 0) aj rfl) (by rfl) (by decide) (by rfl) (by rfl)) (@aa _ _ _ _ _ (pv 1) aj rfl) rfl) (by rfl) (by decide) (by rfl) (by rfl)))),?_⟩
 refine Sv.fk hlive hds aC (ρ:=[.d false _, .d false _]) rfl ?_
 clear aC hds
 have n0:=hN.n0
 refine Sv.ret ?_
 refine Ev.cZ Sa ?_
 refine Av.cons ?_
 refine Ev.G0 ?_
 walk_at "dt"
 refine⟨p,n,cs,rfl,hN.HR,?_⟩
 walk_at "dt"
 refine⟨rfl,cQ n.toNat cs cs.length,ai,rfl,fun x hx=>?_,fun r hr c hc=>?_,?_⟩
 ·rw[rR]
  have:=hl x hx
  omega
 ·obtain⟨k,hk⟩:=List.getElem?_of_mem hr
  have:=Hs hk hc
  have:=hN.cl
  omega
 ·rw[JZ hN nd hl]
  exact q
def tK:DF:=fun ds Φ=>∃(prs:ak) (S:List Int) (ks:Ks),ds=[dg prs, .dict (ks.map bY)]/\(∀k,fR ks k=decide (k∈S))/\prs.length<=10000/\Φ true (.list ((prs.filter fun pr=>decide (pr.1∈S)).map fun pr=> .int pr.1))
theorem FA:cJ tK:=by
 intro ds Φ Ψ hm z
 obtain⟨prs,S,ks,e,h1,h2,q⟩:=hm
 exact⟨prs,S,ks,e,h1,h2,z _ _ q⟩
theorem Rz:bM ["pairs","inside"] ["pairs","inside"] (az lG):=⟨rfl,rfl,rfl,by decide+kernel,rfl,by decide+kernel,by decide+kernel⟩
theorem Sk(F:bC K "inside_of" "inside_of" lG f fd):
  aY P w K mg base bw 1 f fd ["pairs","inside"] (bJ 2 tK):=by
 refine F.ok Rz (fun vs H Q E h=>h.1) (fun cdv A outer s H vs Q E hr h=>?_)
 obtain⟨_,nb,ds,hlive,hds,hF⟩:=h
 obtain⟨Φ,aC,hF⟩:∃Φ:Pd,(∀f d v H',Φ f d->bx H H'->ah (fun a=>nb a\/(f=true/\H a≠none)) H' d v->Q v H')/\tK ds Φ:=⟨_,fun f d v H' q=>q v H',hF⟩
 obtain⟨prs,S,ks,rfl,hS,hl,q⟩:=hF
 refine⟨_,(@aD _ _ _ (@aV _ _ _ _ (dH (bQ.of (show cy (az lG) ["pairs","inside"] _ ["place","factor","inside"] [none,none,some 1]=true by decide+kernel)) (cN (K:=K) rfl (pv 0)) (fun _ _ _ _=>⟨(@iB _ (K) _ _ _ (2) _ rfl rfl (@bZ _ _ _ _ _ (aK (i:=0) (by show List.Nodup (["place","factor","inside"]:List Str);decide+kernel) rfl (Or.inl rfl)) (@bZ _ _ _ _ _ (aK (i:=1) (by show List.Nodup (["place","factor","inside"]:List Str);decide+kernel) rfl (Or.inl rfl)) gF (by rfl)) (by rfl)) (by rfl) (by rfl)),(g6 (@bu _ _ _ _ _ _ _ _ (vA hr.units) (pv 0) (pv 2) (by with_unfolding_all rfl))),(pv 0)⟩)))),?_⟩
 refine Sv.fk hlive hds aC (ρ:=[.d false _, .d false _]) rfl ?_
 clear aC hds
 have jZ:(prs.map pairD).length=prs.length:=List.length_map ..
 refine Sv.ret ?_
 refine ay.ev (ay.fT (by decide) rfl ?_)
 walk_at "dt"
 refine fun v=>⟨true,fun i ds=>ds=((prs.take i).filter fun pr=>decide (pr.1∈S)).map fun pr=> .int pr.1,rfl,?_,?_⟩
 ·rintro i d ds hd hl' rfl
  obtain⟨pr,bz,rfl⟩:=cW hd
  walk_at "dt"
  refine⟨by walk_at "wk",?_⟩
  refine Tv.test ?_
  refine Ev.WM ?_
  walk_at "dt"
  refine⟨ks,rfl,?_⟩
  rw[hS]
  refine⟨_,rfl,?_⟩
  by_cases c:pr.1∈S
  ·rw[if_pos (by simpa using c)]
   walk_at "dt"
   show _=List.map _ (List.filter _ (prs.take (i+1)))
   rw[take_snoc bz,qU,if_pos c,List.map_append]
   rfl
  ·rw[if_neg (by simpa using c)]
   show _=List.map _ (List.filter _ (prs.take (i+1)))
   rw[take_snoc bz,qU,if_neg c,List.append_nil]
 ·rintro ds hl' rfl
  rw[jZ,List.take_length]
  exact q
def qJ:DF:=fun ds Φ=>∃(p n:Int) (cs:List ak) (ai:List Int),ds=[cS p n cs, .list (ai.map .int)]/\lg n cs/\tQ n ai/\(∀prs∈cs,prs.length<=10000)/\∀g:List Int,gY cs ai g->Φ true (.list (g.map .int))
theorem Er:cJ qJ:=by
 intro ds Φ Ψ hm z
 obtain⟨p,n,cs,ai,e,h1,h2,h3,q⟩:=hm
 exact⟨p,n,cs,ai,e,h1,h2,h3,fun g a=>z _ _ (q g a)⟩
def Vx(ρ:Rh):Nat:=match(ρ[3]?:Option Sl),(ρ[5]?:Option Sl) with
 |some (Sl.aX _ _ ks),some (Sl.own _ _ ds)=>ks.length*1000+ds.length
 |_,_=>0
theorem lY:bM ["net","lot","seated","inside","counts","waiting","alone","c"] ["net","lot"] (az iV):=⟨rfl,rfl,rfl,by decide+kernel,rfl,by decide+kernel,by decide+kernel⟩
theorem I0(F:bC K "greatest" "greatest" iV f fd)(vm:Callee P w K mg base "seats" 1 ["net"] pO)(Ij:Callee P w K mg base "inside_of" 1 ["pairs","inside"] (bJ 2 tK))(Bu:mg "dict"=none)(bR:mg "len"=none)(mP:mg "enumerate"=none):
    aY P w K mg base bw 2 f fd ["net","lot"] (bJ 2 qJ):=by
  refine F.ok lY (fun vs H Q E h=>h.1) (fun cdv A outer s H vs Q E hr h=>?_)
  obtain⟨_,nb,ds,hlive,hds,hF⟩:=h
  obtain⟨Φ,aC,hF⟩:∃Φ:Pd,(∀f d v H',Φ f d->bx H H'->ah (fun a=>nb a\/(f=true/\H a≠none)) H' d v->Q v H')/\qJ ds Φ:=⟨_,fun f d v H' q=>q v H',hF⟩
  obtain⟨p,n,cs,ai,rfl,hN,AO,hpl,q⟩:=hF
  refine⟨_,(@aB _ _ _ _ _ (@aT _ _ (2) _ _ _ _ lY.nd rfl (Or.inl rfl) (@aO _ _ _ _ _ _ _ _ _ _ vm (hr.mono (by decide)) (@aa _ _ _ _ _ (pv 0) aj rfl) (by rfl) (by decide) (by rfl) (by rfl)) (by rfl) (by first|exact .inl rfl|exact .inr rfl|assumption)) (@aB _ _ _ _ _ (@aT _ _ (3) _ _ _ _ lY.nd rfl (Or.inr rfl) (@gy _ _ _ _ _ _ _ _ (wm) (SS rfl) rfl Bu PyProof.Rows.boot_dict (@aa _ _ _ _ _ (dH (bQ.of (show cy (az iV) ["net","lot","seated","inside","counts","waiting","alone","c"] _ ["place"] [none]=true by decide+kernel)) (cN (K:=K) rfl (pv 1)) (fun _ _ _ _=>⟨(aK (i:=0) (by show List.Nodup (["place"]:List Str);decide+kernel) rfl (Or.inl rfl)),eG,(@fQ _ _ _ _ _ (@aa _ _ _ _ _ (pv 0) (@aa _ _ _ _ _ gf aj rfl) rfl))⟩)) aj rfl) (by decide) (by decide) (by rfl) (by rfl)) (by rfl) (by first|exact .inl rfl|exact .inr rfl|assumption)) (@aB _ _ _ _ _ (kq (i:=4) lY.nd rfl rfl (bQ.of (show cy (az iV) ["net","lot","seated","inside","counts","waiting","alone","c"] _ ["pairs","inside"] [none,some 3]=true by decide+kernel)) (cN (K:=K) rfl (@aJ _ _ _ _ _ _ (cO K) dD (pv 0) ao (fun _ _=>rfl))) (fun _ _ _ _=>⟨(aK (i:=0) (by show List.Nodup (["pairs","inside"]:List Str);decide+kernel) rfl (Or.inl rfl)),eG,(@bT _ _ _ _ _ _ _ _ (gk K) ia rfl bR PySem.boot_len (@aa _ _ _ _ _ (@aO _ _ _ _ _ _ _ _ _ _ Ij (hr.mono (by decide)) (@aa _ _ _ _ _ (pv 0) (@aa _ _ _ _ _ (pv 1) aj rfl) rfl) (by rfl) (by decide) (by rfl) (by rfl)) aj rfl) (by decide) (by decide) (by rfl) (by rfl))⟩)) (@aB _ _ _ _ _ (kq (i:=5) lY.nd rfl rfl (bQ.of (show cy (az iV) ["net","lot","seated","inside","counts","waiting","alone","c"] _ ["c","many"] [none,none]=true by decide+kernel)) (@Eo _ (K) _ _ _ _ _ _ _ rfl rfl mP (pv 4) (by rfl)) (fun _ _ _ _=>⟨(@iB _ (K) _ _ _ (2) _ rfl rfl (@bZ _ _ _ _ _ (aK (i:=0) (by show List.Nodup (["c","many"]:List Str);decide+kernel) rfl (Or.inl rfl)) (@bZ _ _ _ _ _ (aK (i:=1) (by show List.Nodup (["c","many"]:List Str);decide+kernel) rfl (Or.inl rfl)) gF (by rfl)) (by rfl)) (by rfl) (by rfl)),(g6 (@bu _ _ _ _ _ _ _ _ fP (pv 1) ao (bG _))),(pv 0)⟩)) (@aB _ _ _ _ _ (@sF _ _ _ _ _ _ PassesOwn.never (@kj _ (K) _ _ rfl (pv 5) (fun _=>rfl)) (@aB _ _ _ _ _ (@aT _ _ (6) _ _ _ _ lY.nd rfl (Or.inl rfl) (@aO _ _ _ _ _ _ _ _ _ _ Ij (hr.mono (by decide)) (@aa _ _ _ _ _ (@aJ _ _ _ _ _ _ (bI K) aZ (@aJ _ _ _ _ _ _ (cO K) dD (pv 0) ao (fun _ _=>rfl)) (Cz PySem.F.plainAttrs_list PySem.F.slot_list_pop PySem.F.type_list_pop Ub (pv 5)) (fun _ _=>rfl)) (@aa _ _ _ _ _ (pv 3) aj rfl) rfl) (by rfl) (by decide) (by rfl) (by rfl)) (by rfl) (by first|exact .inl rfl|exact .inr rfl|assumption)) (@aD _ _ _ (@cV _ _ _ _ _ _ _ _ (@kj _ (K) _ _ rfl (pv 6) (fun _=>rfl)) (@aB _ _ _ _ _ (@kU _ _ _ _ (j7 PySem.F.plainAttrs_dict PySem.F.slot_dict_pop PySem.F.type_dict_pop Iu (pv 3) (@aa _ _ _ _ _ (@aJ _ _ _ _ _ _ (bI K) aZ (pv 6) ao (fun _ _=>rfl)) aj rfl)) (by rfl)) (@aD _ _ _ (@fM _ _ _ _ _ _ _ _ PassesOwn.never rfl (cN (K:=K) rfl (@aJ _ _ _ _ _ _ (bI K) aZ (pv 2) (@aJ _ _ _ _ _ _ (bI K) aZ (pv 6) ao (fun _ _=>rfl)) (fun _ _=>rfl))) (aK (i:=7) lY.nd rfl (Or.inl rfl)) (@aB _ _ _ _ _ (V0 (pv 4) (pv 7) Y7 ao Z7 set_list) (@aD _ _ _ (@cV _ _ _ _ _ _ _ _ (@bu _ _ _ _ _ _ _ _ fP (@aJ _ _ _ _ _ _ (bI K) aZ (pv 4) (pv 7) (fun _ _=>rfl)) ao (bG _)) (@aD _ _ _ (@kU _ _ _ _ (j7 PySem.F.plainAttrs_list PySem.F.slot_list_append PySem.F.type_list_append mR (pv 5) (@aa _ _ _ _ _ (pv 7) aj rfl)) (by rfl))) cX))) (by intro _;rfl)))) cX)))) (@aD _ _ _ (@aV _ _ _ _ (dH (bQ.of (show cy (az iV) ["net","lot","seated","inside","counts","waiting","alone","c"] _ ["place","inside"] [none,some 3]=true by decide+kernel)) (cN (K:=K) rfl (pv 1)) (fun _ _ _ _=>⟨(aK (i:=0) (by show List.Nodup (["place","inside"]:List Str);decide+kernel) rfl (Or.inl rfl)),(g6 (@bu _ _ _ _ _ _ _ _ (vA hr.units) (pv 0) (pv 1) (by with_unfolding_all rfl))),(pv 0)⟩))))))))),?_⟩
  refine Sv.fk hlive hds aC (ρ:=[.d false _, .d false _, .no, .no, .no, .no, .no, .no]) rfl ?_
  clear aC hds
  have n0:=hN.n0
  have n1:=hN.n1
  have hcl:=hN.cl
  have oW:=AO.len n1
  have jZ:(ai.map PyData.int).length=ai.length:=List.length_map ..
  have iN:(cs.map dg).length=cs.length:=List.length_map ..
  obtain⟨rows,sL⟩:∃rows,cQ n.toNat cs cs.length=rows:=⟨_,rfl⟩
  have hrl:rows.length=n.toNat:=by rw[<-sL];exact rR
  refine Sv.seq ?_
  refine Sv.asg ?_
  refine Ev.G0 ?_
  walk_at "dt"
  refine⟨p,n,cs,rfl,hN.HR,?_⟩
  rw[sL]
  refine Gv.C2 ?_
  refine Sv.seq ?_
  refine Sv.qQ (jG.YF ?_)
  refine ay.ev (ay.fT (by decide) rfl ?_)
  walk_at "dt"
  refine fun v=>⟨true,fun i ds=>ds=(bA (ai.take i)).map sD,rfl,?_,?_⟩
  · rintro i d ds hd hl' rfl
    obtain⟨x,hx,rfl⟩:=cW hd
    walk_at "dt"
    refine⟨by walk_at "wk",?_⟩
    walk_at "dt"
    refine⟨fun _=>rfl,?_⟩
    show _=(bA (ai.take (i+1))).map sD
    unfold bA
    rw[take_snoc hx,List.map_append,List.map_append]
    rfl
  rintro ds hl' rfl
  rw[jZ,List.take_length]
  refine⟨bA ai,rfl,by unfold bA;rw[List.length_map];omega,?_⟩
  rw[S7 AO.nd]
  intro A3
  refine Sv.seq ?_
  refine Sv.zP ?_
  refine ay.fT (by decide) rfl ?_
  walk_at "dt"
  refine fun v=>⟨true,fun i ds=>ds=(cs.take i).map fun prs=> .int (br ai prs),rfl,?_,?_⟩
  · rintro i d ds hd hl' rfl
    obtain⟨prs,bf,rfl⟩:=cW hd
    walk_at "dt"
    refine⟨by walk_at "wk",?_⟩
    refine Tv.ko ?_
    rw[if_pos rfl]
    refine Ev.m8 ?_
    refine Ev.P9 ?_
    refine jh.Po 1 rfl ?_
    refine jh.cZ FA ?_
    walk_at "dt"
    refine⟨rfl,prs,ai,bA ai,rfl,j3 ai,hpl prs (List.mem_of_getElem? bf),rfl,_, .inl rfl,fun _=>rfl,?_⟩
    show _=List.map _ (cs.take (i+1))
    rw[take_snoc bf,List.map_append,List.length_map]
    rfl
  rintro ds hl' rfl
  rw[iN,List.take_length]
  intro A4
  refine Sv.seq ?_
  refine Sv.zP ?_
  refine ay.YG 4 rfl ?_
  refine ay.IP (by decide) rfl ?_
  walk_at "dt"
  have YM:(cs.map fun prs=>PyData.int (br ai prs)).length=cs.length:=List.length_map ..
  refine⟨by omega,fun v=>⟨true,fun i ds=>ds=((List.range i).filter fun c=>decide (br ai (cs.getD c [])=1)).map fun(c:Nat)=> .int (c:Int),rfl,?_,?_⟩⟩
  · rintro i d ds ⟨e,he,rfl⟩ hl' rfl
    obtain⟨prs,bf,rfl⟩:=cW he
    have hgd:cs.getD i []=prs:=by rw[List.getD_eq_getElem?_getD,bf];rfl
    walk_at "dt"
    refine⟨by walk_at "wk",?_⟩
    walk_at "dt"
    have mK:(List.range (i+1)).filter (fun c=>decide (br ai (cs.getD c [])=1))=(List.range i).filter (fun c=>decide (br ai (cs.getD c [])=1))++if br ai prs=1 then[i] else[]:=by
      rw[List.range_succ,List.filter_append,List.filter_cons,List.filter_nil,hgd]
      by_cases c:br ai prs=1<;>simp[c]
    by_cases c:br ai prs=1
    · rw[if_pos (decide_eq_true (by omega))]
      walk_at "dt"
      show _=List.map _ (List.filter _ (List.range (i+1)))
      rw[mK,if_pos c,List.map_append]
      rfl
    · rw[if_neg (by simp;omega)]
      show _=List.map _ (List.filter _ (List.range (i+1)))
      rw[mK,if_neg c,List.append_nil]
  rintro ds hl' rfl
  rw[YM]
  refine⟨?_,?_⟩
  · rw[List.all_eq_true]
    intro d hd
    obtain⟨c,_,rfl⟩:=List.mem_map.mp hd
    rfl
  intro A5
  have hcell:∀(S cn ws:List Int),GI cs ai S cn ws->∀x∈S,0<=x/\x<n:=fun S cn ws h x hx=>AO.rg x (h.mem x hx)
  refine Sv.seq ?_
  refine Sv.uJ (fun ρ=>∃(S cn ws:List Int) (f3 f4 f5:Bool) (x6 x7:Sl),GI cs ai S cn ws/\ρ=[.d false (cS p n cs), .d false (.list (ai.map .int)), .d true (.list (rows.map iR)), .aX A3 f3 (bA S), .own A4 f4 (cn.map .int), .own A5 f5 (ws.map .int),x6,x7]) Vx ?_ ?_
  · refine⟨ai,cs.map fun prs=>(br ai prs:Int),((List.range cs.length).filter fun c=>decide (br ai (cs.getD c [])=1)).map fun(c:Nat)=>(c:Int),true,true,true, .no, .no,GI.init rfl,?_⟩
    simp only[List.map_map]
    rfl
  rintro ρ ⟨S,cn,ws,f3,f4,f5,x6,x7,hG,rfl⟩
  refine Tv.Ni rfl ?_
  rcases List.eq_nil_or_concat ws with ews|⟨j6,c0,ews⟩
  · subst ews
    rw[if_neg (by simp)]
    have hgr:=hG.done
    refine Sv.ret ?_
    refine ay.ev (ay.fT (by decide) rfl ?_)
    walk_at "dt"
    refine fun v=>⟨true,fun i ds=>ds=((ai.take i).filter fun x=>decide (x∈S)).map .int,rfl,?_,?_⟩
    · rintro i d ds hd hl' rfl
      obtain⟨x,hx,rfl⟩:=cW hd
      walk_at "dt"
      refine⟨by walk_at "wk",?_⟩
      refine Tv.test ?_
      refine Ev.zg rfl ?_
      walk_at "dt"
      rw[j3]
      by_cases c:x∈S
      · rw[if_pos (by simpa using c)]
        walk_at "dt"
        show _=List.map _ (List.filter _ (ai.take (i+1)))
        rw[CT _ hx,if_pos (by simpa using c),List.map_append]
        rfl
      · rw[if_neg (by simpa using c)]
        show _=List.map _ (List.filter _ (ai.take (i+1)))
        rw[CT _ hx,if_neg (by simpa using c),List.append_nil]
    · rintro ds hl' rfl
      rw[jZ,List.take_length]
      have e:ai.filter (fun x=>decide (x∈S))=S:=by
        obtain⟨qq,eq⟩:=hG.sub
        conv=>rhs;rw[eq]
        apply List.filter_congr
        intro x hx
        rw[Bool.eq_iff_iff,decide_eq_true_eq,eq,List.mem_filter]
        exact⟨fun z=>z.2,fun z=>⟨hx,z⟩⟩
      rw[e]
      exact q S hgr
  · rw[List.concat_eq_append] at ews
    subst ews
    rw[if_pos (by simp)]
    have hc0:=hG.rg c0 (List.mem_append_right _ (by simp))
    obtain⟨gX,hp0,RW⟩:=nO (xs:=cs) dg hc0.1 hc0.2 rfl
    have hfew:=hG.few c0 (List.mem_append_right _ (by simp)) gX hp0
    rw[List.map_append]
    refine Sv.seq ?_
    refine Sv.NV (j:=5) (q:=3) (i0:=0) FA (by decide) rfl rfl rfl rfl RW ?_
    refine⟨gX,S,bA S,rfl,j3 S,hpl gX (List.mem_of_getElem? hp0),rfl,?_⟩
    refine Sv.jx ?_
    refine Tv.L7 ?_
    walk_at "dt"
    cases pe:gX.filter (fun pr=>decide (pr.1∈S)) with
    | nil =>
      rw[if_neg (by simp)]
      refine Sv.next ?_
      have h0:br S gX=0:=by unfold br;rw[pe];rfl
      refine⟨⟨S,cn,j6,_,_,_,_,_,hG.drop hp0 h0,rfl⟩,?_⟩
      show(bA S).length*1000+(j6.map PyData.int).length<(bA S).length*1000+(j6.map PyData.int++[PyData.int c0]).length
      rw[List.length_append,List.length_singleton]
      omega
    | cons pr rest =>
      rw[if_pos (by simp)]
      have fU:pr∈gX.filter (fun pr=>decide (pr.1∈S)):=by rw[pe];exact List.mem_cons_self ..
      obtain⟨WU,x9⟩:=List.mem_filter.mp fU
      have gU:pr.1∈S:=by simpa using x9
      have iJ:pr.1∈gX.map (·.1):=List.mem_map.mpr ⟨pr,WU,rfl⟩
      obtain⟨x0,x1⟩:=hcell S cn _ hG pr.1 gU
      obtain⟨row,Fg,aan⟩:=nO (xs:=rows) (k:=pr.1) (m:=rows.length) iR x0 (by omega) rfl
      have z7:∀(c:Nat) prs,cs[c]?=some prs->row.count (c:Int)=(prs.map (·.1)).count pr.1:=fun c prs e=>by
        have hc:=(List.getElem?_eq_some_iff.mp e).1
        have e1:=qz (n:=n.toNat) (cs:=cs) (x:=(c:Int)) cs.length (Nat.le_refl _) pr.1.toNat row (by rw[sL];exact Fg)
        rw[if_pos (by omega),Int.toNat_natCast,List.getD_eq_getElem?_getD,e] at e1
        rw[e1]
        exact AX (by omega) fun y hy=>(hN.ok prs (List.mem_of_getElem? e) y hy).1
      have PV:∀c∈row,0<=c/\c<cs.length:=fun c hc=>Hs (n:=n.toNat) (cs:=cs) (k:=pr.1.toNat) (r:=row) (by rw[sL];exact Fg) hc
      refine Sv.seq ?_
      have PN:bB ((pr::rest).map fun pr=>PyData.int pr.1) 0=some (.int pr.1):=gC (by decide) rfl
      refine Sv.CQ rfl ?_
      refine Ev.Iz ?_
      refine Ev.var rfl ?_
      refine⟨_,rfl,?_⟩
      refine Ev.int ?_
      refine⟨0,rfl, .int pr.1,PN,?_⟩
      refine⟨pr.1,rfl,by rw[j3];exact decide_eq_true gU,?_⟩
      rw[DR]
      refine Sv.forL ?_
      walk_at "dt"
      have hrm:(row.map PyData.int).length=row.length:=List.length_map ..
      refine fun v=>⟨fun m ρ=>∃(iG jR:List Int) (f4 f5:Bool) (x7:Sl),GJ cs S row c0 m iG jR/\ρ=[.d false (cS p n cs), .d false (.list (ai.map .int)), .d true (.list (rows.map iR)), .aX A3 f3 (bA (S.filter fun y=>decide (y≠pr.1))), .own A4 f4 (iG.map .int), .own A5 f5 (jR.map .int), .d true (.list ((pr::rest).map fun pr=> .int pr.1)),x7],⟨cn,j6,_,_,_,hG.start,rfl⟩,?_,?_⟩
      · rintro m d ρ hd ⟨iG,jR,f4',f5',x7',hJ,rfl⟩
        obtain⟨c,iN,rfl⟩:=cW hd
        obtain⟨k0,k1⟩:=PV c (List.mem_of_getElem? iN)
        obtain⟨val,hval⟩:=hJ.at k0 k1
        have aam:=hJ.len
        have hwl:=hJ.ZL
        have hJ':=hJ.step iN k0 k1 hval
        refine Gv.je ?_
        refine Sv.seq ?_
        refine Sv.WG rfl ?_
        refine Ev.var rfl ?_
        have hix:fG (iG.map PyData.int).length c=some c.toNat:=by
          unfold fG
          rw[List.length_map]
          repeat (first|rw[if_pos (by omega)]|rw[if_neg (by omega)])
        refine⟨c,c.toNat,val,rfl,k0,hix,gC k0 (by rw[List.getElem?_map,hval];rfl),?_⟩
        rw[<-List.map_set]
        have Q3:bB ((iG.set c.toNat (val-1)).map PyData.int) c=some (.int (val-1)):=gC k0 (by rw[List.getElem?_map,List.getElem?_set_self (by omega)];rfl)
        refine Sv.jx ?_
        refine Tv.test ?_
        refine Ev.eq ?_
        refine Ev.D4 rfl ?_
        refine Ev.var rfl ?_
        refine⟨c,rfl,_,Q3,?_⟩
        walk_at "dt"
        by_cases c1:val-1=1
        · rw[if_pos (decide_eq_true c1)]
          rw[if_pos c1] at hJ'
          refine Sv.append rfl ?_
          refine Ev.var rfl ?_
          refine⟨by rw[List.length_map];omega,?_⟩
          exact⟨_,jR++[c],_,_,_,hJ',by rw[List.map_append];rfl⟩
        · rw[if_neg (by simpa using c1)]
          rw[if_neg c1] at hJ'
          refine Sv.next ?_
          exact⟨_,jR,_,_,_,hJ',rfl⟩
      · rintro ρ ⟨iG,jR,f4',f5',x7',hJ,rfl⟩
        rw[hrm] at hJ
        have B9:=GJ.fin hG hp0 gU iJ z7 hJ
        have hwl:=B9.len
        refine⟨⟨_,iG,jR,_,_,_,_,_,B9,rfl⟩,?_⟩
        show(bA (S.filter fun y=>decide (y≠pr.1))).length*1000+(jR.map PyData.int).length<(bA S).length*1000+(j6.map PyData.int++[PyData.int c0]).length
        have hlt:(S.filter fun y=>decide (y≠pr.1)).length<S.length:=by
          have h1:(S.filter fun y=>decide (y≠pr.1)).length<=S.length:=List.length_filter_le _ _
          have h2:(S.filter fun y=>decide (y≠pr.1)).length≠S.length:=fun z=>by
            have:=List.length_filter_eq_length_iff.mp z pr.1 gU
            simp at this
          omega
        unfold bA
        rw[List.length_map,List.length_map,List.length_map,List.length_append]
        omega
def q8:DF:=fun ds Φ=>∃(p rest:Int) (prs:ak) (wd:Wo),ds=[.int p,dg prs, .int rest,eZ wd]/\d7 p/\p<10^40/\0<=rest/\rest<p/\prs.length<=10000/\jt prs wd.length/\yQ p prs/\fE wd/\Φ true (Dy (cL p prs rest wd))
theorem Vy:cJ q8:=by
 intro ds Φ Ψ hm z
 obtain⟨p,r,prs,wd,e,h1,h2,h3,h4,h5,h6,h7,h8,q⟩:=hm
 exact⟨p,r,prs,wd,e,h1,h2,h3,h4,h5,h6,h7,h8,z _ _ q⟩
theorem sW:bM ["p","pairs","rest","word","lost","place","factor"] ["p","pairs","rest","word"] (az lR):=⟨rfl,rfl,rfl,by decide+kernel,rfl,by decide+kernel,by decide+kernel⟩
theorem Sq(F:bC K "told_for" "told_for" lR f fd)(Ln:Callee P w K mg base "over" 2 ["p","a","b"] Bb)(uD:Callee P w K mg base "total" 1 ["p","pairs","word"] ua)(bR:mg "len"=none):
    aY P w K mg base bw 3 f fd ["p","pairs","rest","word"] (bJ 4 q8):=by
  refine F.ok sW (fun vs H Q E h=>h.1) (fun cdv A outer s H vs Q E hr h=>?_)
  obtain⟨_,nb,ds,hlive,hds,hF⟩:=h
  obtain⟨Φ,aC,hF⟩:∃Φ:Pd,(∀f d v H',Φ f d->bx H H'->ah (fun a=>nb a\/(f=true/\H a≠none)) H' d v->Q v H')/\q8 ds Φ:=⟨_,fun f d v H' q=>q v H',hF⟩
  obtain⟨p,rest,prs,wd,rfl,hp,Ea,r0,r1,hl,hP,HA,hW,q⟩:=hF
  refine⟨_,(@aB _ _ _ _ _ (kq (i:=4) sW.nd rfl rfl (bQ.of (show cy (az lR) ["p","pairs","rest","word","lost","place","factor"] _ ["place","factor","word"] [none,none,some 3]=true by decide+kernel)) (cN (K:=K) rfl (pv 1)) (fun _ _ _ _=>⟨(@iB _ (K) _ _ _ (2) _ rfl rfl (@bZ _ _ _ _ _ (aK (i:=0) (by show List.Nodup (["place","factor","word"]:List Str);decide+kernel) rfl (Or.inl rfl)) (@bZ _ _ _ _ _ (aK (i:=1) (by show List.Nodup (["place","factor","word"]:List Str);decide+kernel) rfl (Or.inl rfl)) gF (by rfl)) (by rfl)) (by rfl) (by rfl)),(g6 (@bu _ _ _ _ _ _ _ _ Gq (@aJ _ _ _ _ _ _ (bI K) aZ (pv 2) (pv 0) (fun _ _=>rfl)) iX (bG _))),(@fQ _ _ _ _ _ (@aa _ _ _ _ _ (pv 0) (@aa _ _ _ _ _ (pv 1) aj rfl) rfl))⟩)) (@aB _ _ _ _ _ (@cV _ _ _ _ _ _ _ _ (@bu _ _ _ _ _ _ _ _ iS (@bT _ _ _ _ _ _ _ _ (gk K) ia rfl bR PySem.boot_len (@aa _ _ _ _ _ (pv 4) aj rfl) (by decide) (by decide) (by rfl) (by rfl)) ao (bG _)) (@aD _ _ _ (@aV _ _ _ _ iX)) cX) (@aB _ _ _ _ _ (@aT _ _ (5) _ _ _ _ sW.nd rfl (Or.inl rfl) (@aJ _ _ _ _ _ _ (cO K) dD (@aJ _ _ _ _ _ _ (bI K) aZ (pv 4) ao (fun _ _=>rfl)) ao (fun _ _=>rfl)) (by rfl) (by first|exact .inl rfl|exact .inr rfl|assumption)) (@aB _ _ _ _ _ (@aT _ _ (6) _ _ _ _ sW.nd rfl (Or.inl rfl) (@aJ _ _ _ _ _ _ (cO K) dD (@aJ _ _ _ _ _ _ (bI K) aZ (pv 4) ao (fun _ _=>rfl)) ao (fun _ _=>rfl)) (by rfl) (by first|exact .inl rfl|exact .inr rfl|assumption)) (@aD _ _ _ (@aV _ _ _ _ (@fQ _ _ _ _ _ (@aa _ _ _ _ _ (pv 5) (@aa _ _ _ _ _ (@aO _ _ _ _ _ _ _ _ _ _ Ln (hr.mono (by decide)) (@aa _ _ _ _ _ (pv 0) (@aa _ _ _ _ _ (@aF _ _ _ _ _ _ _ _ jj (pv 2) (@aO _ _ _ _ _ _ _ _ _ _ uD (hr.mono (by decide)) (@aa _ _ _ _ _ (pv 0) (@aa _ _ _ _ _ (pv 1) (@aa _ _ _ _ _ (pv 3) aj rfl) rfl) rfl) (by rfl) (by decide) (by rfl) (by rfl))) (@aa _ _ _ _ _ (pv 6) aj rfl) rfl) rfl) (by rfl) (by decide) (by rfl) (by rfl)) aj rfl) rfl)))))))),?_⟩
  refine Sv.fk hlive hds aC (ρ:=[.d false _, .d false _, .d false _, .d false _, .no, .no, .no]) rfl ?_
  clear aC hds
  have jZ:(prs.map pairD).length=prs.length:=List.length_map ..
  have p2:=hp.1
  walk_at "dt"
  refine ay.ev (ay.fT (by decide) rfl ?_)
  walk_at "dt"
  refine fun v=>⟨true,fun i ds=>ds=(cz wd (prs.take i)).map pairD,rfl,?_,?_⟩
  · rintro i d ds hd hl' rfl
    obtain⟨pr,bz,rfl⟩:=cW hd
    obtain⟨g1,g2,g3⟩:=hP pr (List.mem_of_getElem? bz)
    obtain⟨o,ho,hat⟩:=nO (xs:=wd) cM g1 g2 rfl
    walk_at "dt"
    refine⟨by walk_at "wk",?_⟩
    walk_at "dt"
    rw[wz]
    cases o with
    | none =>
      walk_at "dt"
      refine⟨fun _=>rfl,?_⟩
      show _=List.map pairD (cz wd (prs.take (i+1)))
      rw[take_snoc bz,II,if_pos ho,List.map_append]
      rfl
    | some x =>
      walk_at "dt"
      show _=List.map pairD (cz wd (prs.take (i+1)))
      rw[take_snoc bz,II,if_neg (by rw[ho];simp)]
  rintro ds hl' rfl
  rw[jZ,List.take_length]
  walk_at "dt"
  have key:∀L,cz wd prs=L->cL p prs rest wd=(match L with|[pr]=>some (pr.1,sol p pr.2 (rest-aG prs wd%p))|_=>none):=fun L e=>by unfold cL;rw[e]<;>rfl
  cases hL:cz wd prs with
  | nil =>
    walk_at "dt"
    rw[key _ hL] at q
    exact q
  | cons pr r =>
    cases r with
    | cons pr2 r2 =>
      have:¬((List.map pairD (pr::pr2::r2)).length:Int)=1:=by simp;omega
      walk_at "dt"
      rw[key _ hL] at q
      exact q
    | nil =>
      have hm:=(sP (wd:=wd) (prs:=prs) (pr:=pr) (by rw[hL];simp)).1
      have d0:=Int.emod_nonneg (aG prs wd) (show p≠0 by omega)
      have d1:=Int.emod_lt_of_pos (aG prs wd) (show 0<p by omega)
      walk_at "dt"
      refine Ev.over ?_
      walk_at "dt"
      refine Ev.total ?_
      walk_at "dt"
      refine⟨p,prs,wd,rfl,by omega,hP,hW,?_⟩
      walk_at "dt"
      refine⟨p,rest-aG prs wd%p,pr.2,rfl,hp,Ea,HA pr hm,by omega,by omega,fun x x0 x1 hx=>?_⟩
      walk_at "dt"
      rw[key _ hL] at q
      have e:=xS hp (HA pr hm) x0 x1 hx
      rw[e]
      exact q
def rj:DF:=fun ds Φ=>∃(p n c:Int) (cs:List ak) (wd:Wo),ds=[cS p n cs,eZ wd, .int c]/\e7 p cs wd.length/\fE wd/\0<=c/\c<cs.length/\Φ true (Dy (cL p (cs.getD c.toNat []) 0 wd))
theorem LG:cJ rj:=by
 intro ds Φ Ψ hm z
 obtain⟨p,n,c,cs,wd,e,h1,h2,h3,h4,q⟩:=hm
 exact⟨p,n,c,cs,wd,e,h1,h2,h3,h4,z _ _ q⟩
theorem Uq:bM ["net","word","c"] ["net","word","c"] (az nE):=⟨rfl,rfl,rfl,by decide+kernel,rfl,by decide+kernel,by decide+kernel⟩
theorem Sg(F:bC K "told_by" "told_by" nE f fd)(XQ:Callee P w K mg base "told_for" 3 ["p","pairs","rest","word"] (bJ 4 q8)):
  aY P w K mg base bw 4 f fd ["net","word","c"] (bJ 3 rj):=by
 refine F.ok Uq (fun vs H Q E h=>h.1) (fun cdv A outer s H vs Q E hr h=>?_)
 obtain⟨_,nb,ds,hlive,hds,hF⟩:=h
 obtain⟨Φ,aC,hF⟩:∃Φ:Pd,(∀f d v H',Φ f d->bx H H'->ah (fun a=>nb a\/(f=true/\H a≠none)) H' d v->Q v H')/\rj ds Φ:=⟨_,fun f d v H' q=>q v H',hF⟩
 obtain⟨p,n,c,cs,wd,rfl,hN,hW,c0,c1,q⟩:=hF
 refine⟨_,(@aD _ _ _ (@aV _ _ _ _ (@aO _ _ _ _ _ _ _ _ _ _ XQ (hr.mono (by decide)) (@aa _ _ _ _ _ (@aJ _ _ _ _ _ _ (cO K) dD (pv 0) ao (fun _ _=>rfl)) (@aa _ _ _ _ _ (@aJ _ _ _ _ _ _ (bI K) aZ (@aJ _ _ _ _ _ _ (cO K) dD (pv 0) ao (fun _ _=>rfl)) (pv 2) (fun _ _=>rfl)) (@aa _ _ _ _ _ ao (@aa _ _ _ _ _ (pv 1) aj rfl) rfl) rfl) rfl) (by rfl) (by decide) (by rfl) (by rfl)))),?_⟩
 refine Sv.fk hlive hds aC (ρ:=[.d false _, .d false _, .d false _]) rfl ?_
 clear aC hds
 obtain⟨prs,e1,e2,e3,e4,e5⟩:=hN.at c0 c1
 have p2:=hN.1.1
 have hat:bB (cs.map dg) c=some (dg prs):=gC c0 (by rw[List.getElem?_map,e1];rfl)
 walk_at "dt"
 refine Ev.cZ Vy ?_
 walk_at "dt"
 rw[e2] at q
 exact⟨rfl,p,0,prs,wd,rfl,hN.1,hN.2.1,by omega,by omega,by omega,e4,e5,hW,q⟩
def t8:DF:=fun ds Φ=>∃(p n:Int) (cs:List ak) (wd:Wo),ds=[cS p n cs,eZ wd]/\e7 p cs wd.length/\fE wd/\wd.length<64/\Φ true (iP (aR p cs wd))
theorem UC:cJ t8:=by
 intro ds Φ Ψ hm z
 obtain⟨p,n,cs,wd,e,h1,h2,h3,q⟩:=hm
 exact⟨p,n,cs,wd,e,h1,h2,h3,z _ _ q⟩
theorem tW:bM ["net","word","found","c","told"] ["net","word"] (az lC):=⟨rfl,rfl,rfl,by decide+kernel,rfl,by decide+kernel,by decide+kernel⟩
theorem Um(F:bC K "round_of" "round_of" lC f fd)(Jx:Callee P w K mg base "told_by" 4 ["net","word","c"] (bJ 3 rj))(bO:mg "range"=none)(bR:mg "len"=none)(iW:mg "sorted"=none):
    aY P w K mg base bw 5 f fd ["net","word"] (bJ 2 t8):=by
  refine F.ok tW (fun vs H Q E h=>h.1) (fun cdv A outer s H vs Q E hr h=>?_)
  obtain⟨_,nb,ds,hlive,hds,hF⟩:=h
  obtain⟨Φ,aC,hF⟩:∃Φ:Pd,(∀f d v H',Φ f d->bx H H'->ah (fun a=>nb a\/(f=true/\H a≠none)) H' d v->Q v H')/\t8 ds Φ:=⟨_,fun f d v H' q=>q v H',hF⟩
  obtain⟨p,n,cs,wd,rfl,hN,hW,hl,q⟩:=hF
  refine⟨_,(@aB _ _ _ _ _ (@aT _ _ (2) _ _ _ _ tW.nd rfl (Or.inr rfl) zq (by rfl) (by first|exact .inl rfl|exact .inr rfl|assumption)) (@aB _ _ _ _ _ (@fM _ _ _ _ _ _ _ _ PassesOwn.never rfl (@gz _ _ _ _ _ _ rfl bO (@aa _ _ _ _ _ (@bT _ _ _ _ _ _ _ _ (gk K) ia rfl bR PySem.boot_len (@aa _ _ _ _ _ (@aJ _ _ _ _ _ _ (cO K) dD (pv 0) ao (fun _ _=>rfl)) aj rfl) (by decide) (by decide) (by rfl) (by rfl)) aj rfl) (by rfl)) (aK (i:=3) tW.nd rfl (Or.inl rfl)) (@aB _ _ _ _ _ (@aT _ _ (4) _ _ _ _ tW.nd rfl (Or.inl rfl) (@aO _ _ _ _ _ _ _ _ _ _ Jx (hr.mono (by decide)) (@aa _ _ _ _ _ (pv 0) (@aa _ _ _ _ _ (pv 1) (@aa _ _ _ _ _ (pv 3) aj rfl) rfl) rfl) (by rfl) (by decide) (by rfl) (by rfl)) (by rfl) (by first|exact .inl rfl|exact .inr rfl|assumption)) (@aD _ _ _ (@cV _ _ _ _ _ _ _ _ (PW.pt (sr (@bu _ _ _ _ _ _ _ _ vQ (pv 4) iX (bG _)) (r6 (@bu _ _ _ _ _ _ _ _ (VV hr.units) (@aJ _ _ _ _ _ _ (cO K) dD (pv 4) ao (fun _ _=>rfl)) (pv 2) (by with_unfolding_all rfl))))) (@aD _ _ _ (@iy _ _ _ _ _ _ (@fQ _ _ _ _ _ (@aa _ _ _ _ _ (@aJ _ _ _ _ _ _ (cO K) dD (pv 4) ao (fun _ _=>rfl)) (@aa _ _ _ _ _ (pv 3) (@aa _ _ _ _ _ (@aJ _ _ _ _ _ _ (cO K) dD (pv 4) ao (fun _ _=>rfl)) aj rfl) rfl) rfl)) (jy (pv 2) (@aJ _ _ _ _ _ _ (cO K) dD (pv 4) ao (fun _ _=>rfl)) set_dict) (by rfl) (by rfl) (by rfl))) cX))) (by intro _;rfl)) (@aD _ _ _ (@aV _ _ _ _ (dH (bQ.of (show cy (az lC) ["net","word","found","c","told"] _ ["place","found"] [none,some 2]=true by decide+kernel)) (cN (K:=K) rfl (@bT _ _ _ _ _ _ _ _ (nP) (vO rfl) rfl iW PyProof.Rows.boot_sorted (@aa _ _ _ _ _ (pv 2) aj rfl) (by decide) (by decide) (by rfl) (by rfl))) (fun _ _ _ _=>⟨(aK (i:=0) (by show List.Nodup (["place","found"]:List Str);decide+kernel) rfl (Or.inl rfl)),eG,(@aJ _ _ _ _ _ _ (xW) YV (pv 1) (pv 0) (fun _ _=>rfl))⟩)))))),?_⟩
  refine Sv.fk hlive hds aC (ρ:=[.d false _, .d false _, .no, .no, .no]) rfl ?_
  clear aC hds
  have p2:=hN.1.1
  have hcl:=hN.2.2.1
  have iN:((cs.map dg).length:Int)=cs.length:=by rw[List.length_map]
  refine Sv.seq ?_
  refine Sv.qQ (jG.new ?_)
  intro A2
  refine Sv.seq ?_
  refine Sv.HH ?_
  refine Ev.m8 ?_
  refine Ev.Ex ?_
  refine Ev.var rfl ?_
  refine⟨_,rfl,Ev.int ⟨_,rfl,_,rfl,_, .inl rfl,_,rfl,by omega,by omega,?_⟩⟩
  rw[show((cs.map dg).length:Int).toNat=cs.length by omega]
  refine⟨fun i ρ=>∃(x3 x4:Sl),ρ=[.d false (cS p n cs), .d false (eZ wd), .aX A2 true ((cF p cs wd i).map kM),x3,x4],⟨_,_,rfl⟩,?_,?_⟩
  · rintro i d ρ' ⟨hi,rfl⟩ ⟨x3,x4,rfl⟩
    have hfl:=GB (p:=p) (cs:=cs) (wd:=wd) (by omega) hN.rg (i:=i) (by omega)
    walk_at "dt"
    refine Ev.cZ LG ?_
    walk_at "dt"
    refine⟨rfl,p,n,0+(i:Int),cs,wd,rfl,hN,hW,by omega,by omega,?_⟩
    rw[show(0+(i:Int)).toNat=i by omega]
    have ef:cF p cs wd (i+1)=match cL p (cs.getD i []) 0 wd with
      |some (a,x)=>if a∈(cF p cs wd i).map (·.1) then cF p cs wd i else cF p cs wd i++[(a,(i:Int),x)]
      |none=>cF p cs wd i:=by rw[cF]<;>rfl
    cases ht:cL p (cs.getD i []) 0 wd with
    | none =>
      rw[ht] at ef
      dsimp only at ef
      show Gv _ _ _ _ PyData.none _
      walk_at "dt"
      show∃(x3 x4:Sl),(_:Rh)=[Sl.d false (cS p n cs),Sl.d false (eZ wd),Sl.aX A2 true ((cF p cs wd (i+1)).map kM),x3,x4]
      rw[ef]
      exact⟨_,_,rfl⟩
    | some ax =>
      obtain⟨a,x⟩:=ax
      rw[ht] at ef
      dsimp only at ef
      show Gv _ _ _ _ (PyData.tuple [.int a, .int x]) _
      walk_at "dt"
      refine Ev.zg rfl ?_
      walk_at "dt"
      rw[Bool.bne_true]
      by_cases c:a∈(cF p cs wd i).map (·.1)
      · rw[if_pos c] at ef
        have:fR ((cF p cs wd i).map kM) a=true:=by rw[rE,BD];exact c
        rw[this]
        walk_at "dt"
        show∃(x3 x4:Sl),(_:Rh)=[Sl.d false (cS p n cs),Sl.d false (eZ wd),Sl.aX A2 true ((cF p cs wd (i+1)).map kM),x3,x4]
        rw[ef]
        exact⟨_,_,rfl⟩
      · rw[if_neg c] at ef
        have:fR ((cF p cs wd i).map kM) a=false:=by rw[<-Bool.not_eq_true,rE,BD];exact c
        rw[this]
        generalize qm:(fW _ (qa (bq 2) _ _):TS)=tl
        walk_at "dt"
        subst qm
        refine Sv.uz rfl ?_
        walk_at "dt"
        refine⟨by rw[List.length_map];omega,?_⟩
        show∃(x3 x4:Sl),(_:Rh)=[Sl.d false (cS p n cs),Sl.d false (eZ wd),Sl.aX A2 true ((cF p cs wd (i+1)).map kM),x3,x4]
        rw[ef,List.map_append]
        unfold gH
        rw[this,show(0+(i:Int))=i by omega]
        exact⟨_,_,rfl⟩
  · rintro ρ' ⟨x3,x4,rfl⟩
    have hfl:=GB (p:=p) (cs:=cs) (wd:=wd) (by omega) hN.rg (i:=cs.length) (Nat.le_refl _)
    refine Sv.ret (ay.ev (ay.fT (by decide) rfl ?_))
    refine ay.ev (ay.DO rfl (by rw[List.length_map];omega) fun rs hrs fU=>?_)
    rw[BD] at fU
    obtain⟨ms,rfl,hms⟩:=JW fU _ rfl
    have hmr:=QZ hms hrs
    have hml:ms.length<=wd.length:=by rw[hms.length_eq];exact hfl
    refine⟨_,rfl,by rw[List.length_map,List.length_map];omega,fun v=>⟨true,fun i ds=>ds=(ms.take i).map sC,rfl,?_,?_⟩⟩
    · rintro i d ds hd hl' rfl
      obtain⟨a,ha,rfl⟩:=cW hd
      obtain⟨m,hm,rfl⟩:=cW ha
      have hv:=IA (lO (p:=p) (cs:=cs) (wd:=wd) cs.length) (hms.mem_iff.mp (List.mem_of_getElem? hm))
      walk_at "dt"
      refine⟨by walk_at "wk",?_⟩
      walk_at "dt"
      refine Ev.Rc rfl ?_
      walk_at "dt"
      refine⟨_,hv,fun _=>rfl,?_⟩
      show _=List.map _ (List.take (i+1) ms)
      rw[take_snoc hm,List.map_append]
      rfl
    · rintro ds hl' rfl
      rw[List.length_map,List.length_map,List.take_length,hmr,Bool.true_or]
      exact q
def uh:DF:=fun ds Φ=>∃(p n:Int) (cs:List ak),ds=[cS p n cs]/\cs.length<=10000/\(∀prs∈cs,prs.length<=10000)/\∀f,Φ f (cS p n cs)
theorem Ri:cJ uh:=by
 intro ds Φ Ψ hm z
 obtain⟨p,n,cs,e,h1,h2,q⟩:=hm
 exact⟨p,n,cs,e,h1,h2,fun f=>z _ _ (q f)⟩
theorem YH:bM ["net"] ["net"] (az mj):=⟨rfl,rfl,rfl,by decide+kernel,rfl,by decide+kernel,by decide+kernel⟩
theorem Uj(F:bC K "copied" "copied" mj f fd)(cB:mg "list"=none):
  aY P w K mg base bw 1 f fd ["net"] (bJ 1 uh):=by
 refine F.ok YH (fun vs H Q E h=>h.1) (fun cdv A outer s H vs Q E hr h=>?_)
 obtain⟨_,nb,ds,hlive,hds,hF⟩:=h
 obtain⟨Φ,aC,hF⟩:∃Φ:Pd,(∀f d v H',Φ f d->bx H H'->ah (fun a=>nb a\/(f=true/\H a≠none)) H' d v->Q v H')/\uh ds Φ:=⟨_,fun f d v H' q=>q v H',hF⟩
 obtain⟨p,n,cs,rfl,hl,hl2,q⟩:=hF
 refine⟨_,(@aD _ _ _ (@aV _ _ _ _ (@fQ _ _ _ _ _ (@aa _ _ _ _ _ (@aJ _ _ _ _ _ _ (cO K) dD (pv 0) ao (fun _ _=>rfl)) (@aa _ _ _ _ _ (@aJ _ _ _ _ _ _ (cO K) dD (pv 0) ao (fun _ _=>rfl)) (@aa _ _ _ _ _ (dH (bQ.of (show cy (az mj) ["net"] _ ["pairs"] [none]=true by decide+kernel)) (cN (K:=K) rfl (@aJ _ _ _ _ _ _ (cO K) dD (pv 0) ao (fun _ _=>rfl))) (fun _ _ _ _=>⟨(aK (i:=0) (by show List.Nodup (["pairs"]:List Str);decide+kernel) rfl (Or.inl rfl)),eG,(@gy _ _ _ _ _ _ _ _ (iz K) kc rfl cB PyProof.Rows.boot_list (@aa _ _ _ _ _ (pv 0) aj rfl) (by decide) (by decide) (by rfl) (by rfl))⟩)) aj rfl) rfl) rfl)))),?_⟩
 refine Sv.fk hlive hds aC (ρ:=[.d false _]) rfl ?_
 clear aC hds
 walk_at "dt"
 refine ay.ev (ay.fT (by decide) rfl ?_)
 walk_at "dt"
 refine⟨by rw[List.length_map];exact hl,fun v=>⟨false,fun i ds=>ds=(cs.take i).map dg,rfl,?_,?_⟩⟩
 ·rintro i d ds hd hl' rfl
  obtain⟨prs,bf,rfl⟩:=cW hd
  walk_at "dt"
  refine⟨by walk_at "wk",?_⟩
  walk_at "dt"
  refine⟨fun z=>(by cases z),?_⟩
  show _=List.map dg (List.take (i+1) cs)
  rw[take_snoc bf,List.map_append]
  rfl
 ·rintro ds hl' rfl
  rw[List.length_map,List.take_length]
  walk_at "dt"
  exact q _
def qh(C:Addr):CF:=fun c ds Φ=>∃(x dx l:Addr) (p n:Int) (cs:List ak) (wd:Wo),c=bF C x dx (g9 (cS p n cs) l wd)/\ds=[]/\e7 p cs wd.length/\fE wd/\wd.length<64/\Φ (bF C x dx (g9 (cS p n cs) l (putAll wd (aR p cs wd)))) true (iP (aR p cs wd))
theorem ET{C:Addr}:kL (qh C):=by
 intro c ds Φ Ψ h z
 obtain⟨x,dx,l,p,n,cs,wd,e1,e2,h1,h2,h3,q⟩:=h
 exact⟨x,dx,l,p,n,cs,wd,e1,e2,h1,h2,h3,z _ _ _ q⟩
theorem oJ:bM ["self","found","place","c","letter"] ["self"] (az nZ):=⟨rfl,rfl,rfl,by decide+kernel,rfl,by decide+kernel,by decide+kernel⟩
theorem Tf(F:bC K "step" "Mender.step" nZ f fd){aW:Addr}(gb:dJ K aW)(kD:fc K aW "net")(ic:fc K aW "letters")(Xp:Callee P w K mg base "round_of" 5 ["net","word"] (bJ 2 t8)):
  aY P w K mg base bw 6 f fd ["self"] (gc 1 (qh aW)):=by
 refine F.ok oJ (fun vs H Q E h=>h.1) (fun cdv A outer s H vs Q E hr h=>?_)
 obtain⟨_,nb,c,ws,ds,rfl,hlive,iY,hcf,kH,hds,hF⟩:=h
 obtain⟨Φ,aC,hF⟩:∃Φ:Cu->Pd,(∀c' f d v H',Φ c' f d->nG c c' H H'->c'.P (fun a=>nb a\/a∈c'.F) H'->ah (fun a=>nb a\/a∈c'.F\/(f=true/\H a≠none)) H' d v->Q v H')/\qh aW c ds Φ:=⟨_,fun c' f d v H' q=>q v H',hF⟩
 obtain⟨x,dx,l,p,n,cs,wd,rfl,rfl,hN,hW,hl,q⟩:=hF
 refine⟨_,(@aB _ _ _ _ _ (@aT _ _ (1) _ _ _ _ oJ.nd rfl (Or.inl rfl) (@aO _ _ _ _ _ _ _ _ _ _ Xp (hr.mono (by decide)) (@aa _ _ _ _ _ (@tY _ _ _ _ _ (pv 0) rfl) (@aa _ _ _ _ _ (@tY _ _ _ _ _ (pv 0) rfl) aj rfl) rfl) (by rfl) (by decide) (by rfl) (by rfl)) (by rfl) (by first|exact .inl rfl|exact .inr rfl|assumption)) (@aB _ _ _ _ _ (@fM _ _ _ _ _ _ _ _ PassesOwn.never rfl (cN (K:=K) rfl (pv 1)) (@iB _ (K) _ _ _ (3) _ rfl rfl (@bZ _ _ _ _ _ (aK (i:=2) oJ.nd rfl (Or.inl rfl)) (@bZ _ _ _ _ _ (aK (i:=3) oJ.nd rfl (Or.inl rfl)) (@bZ _ _ _ _ _ (aK (i:=4) oJ.nd rfl (Or.inl rfl)) gF (by rfl)) (by rfl)) (by rfl)) (by rfl) (by rfl)) (@aD _ _ _ (@iy _ _ _ _ _ _ (pv 4) (jy (@tY _ _ _ _ _ (pv 0) rfl) (pv 2) set_list) (by rfl) (by rfl) (by rfl))) (by intro _;rfl)) (@aD _ _ _ (@aV _ _ _ _ (pv 1))))),?_⟩
 refine Sv.rJ hlive iY hcf kH hds aC (ρ:=[.cu _, .no, .no, .no, .no]) rfl ?_
 clear aC hds
 have p2:=hN.1.1
 refine Sv.seq ?_
 refine Sv.asg ?_
 refine Ev.w9 UC ?_
 refine dM.cons (Ev.fld rfl gb kD rfl ?_)
 refine dM.fld rfl gb ic rfl ?_
 refine dM.nil ?_
 refine⟨rfl,p,n,cs,wd,rfl,hN,hW,hl, .inl rfl,?_⟩
 refine Gv.name ?_
 refine Sv.seq ?_
 refine Sv.forL ?_
 refine Ev.var rfl ?_
 refine⟨_,rfl,fun v=>⟨fun i ρ=>∃(x2 x3 x4:Sl),ρ=[.cu (bF aW x dx (g9 (cS p n cs) l (putAll wd ((aR p cs wd).take i)))), .d true (iP (aR p cs wd)),x2,x3,x4],⟨_,_,_,rfl⟩,?_,?_⟩⟩
 ·rintro i d ρ hd ⟨x2,x3,x4,rfl⟩
  obtain⟨m,hm,rfl⟩:=cW hd
  obtain⟨b1,b2,b3,b4,b5⟩:=pG (by omega) (List.mem_of_getElem? hm) hN.rg
  generalize qm:(fW (bq 4) _:TS)=tl
  walk_at "dt"
  subst qm
  refine Sv.XH rfl gb ic rfl ?_
  walk_at "dt"
  refine⟨_,m.1.toNat,rfl,JA b1 (by rw[List.length_map,jn];omega),?_⟩
  have e:((putAll wd ((aR p cs wd).take i)).map cM).set m.1.toNat (.int m.2.2)=(putAll wd ((aR p cs wd).take (i+1))).map cM:=by
   rw[take_snoc hm,oS]
   show _=((putAll wd ((aR p cs wd).take i)).set m.1.toNat (some m.2.2)).map cM
   rw[List.map_set]
   rfl
  rw[e,LR]
  exact⟨_,_,_,rfl⟩
 ·rintro ρ ⟨x2,x3,x4,rfl⟩
  rw[List.length_map,List.take_length]
  refine Sv.AV (d9.of ?_)
  refine Ev.var rfl ?_
  intro aM v' H' hv
  exact⟨_,_,_,rfl,⟨rfl,rfl,fun a m=>m⟩,q,hv⟩
def oN(C:Addr):CF:=fun c ds Φ=>∃(x dx l:Addr) (p n:Int) (cs:List ak) (wd:Wo),c=bF C x dx (g9 (cS p n cs) l wd)/\ds=[]/\e7 p cs wd.length/\fE wd/\wd.length<64/\Φ (bF C x dx (g9 (cS p n cs) l (eV p cs wd))) true (.list ((eX p cs wd).map iP))
theorem Jc{C:Addr}:kL (oN C):=by
 intro c ds Φ Ψ h z
 obtain⟨x,dx,l,p,n,cs,wd,e1,e2,h1,h2,h3,q⟩:=h
 exact⟨x,dx,l,p,n,cs,wd,e1,e2,h1,h2,h3,z _ _ _ q⟩
theorem qB:bM ["self","rounds","found"] ["self"] (az nk):=⟨rfl,rfl,rfl,by decide+kernel,rfl,by decide+kernel,by decide+kernel⟩
theorem Px(F:bC K "mend" "Mender.mend" nk f fd){aW:Addr}(Hq:jS P w K mg base aW "step" 6 ["self"] (gc 1 (qh aW))):
  aY P w K mg base bw 7 f fd ["self"] (gc 1 (oN aW)):=by
 refine F.ok qB (fun vs H Q E h=>h.1) (fun cdv A outer s H vs Q E hr h=>?_)
 obtain⟨_,nb,c,ws,ds,rfl,hlive,iY,hcf,kH,hds,hF⟩:=h
 obtain⟨Φ,aC,hF⟩:∃Φ:Cu->Pd,(∀c' f d v H',Φ c' f d->nG c c' H H'->c'.P (fun a=>nb a\/a∈c'.F) H'->ah (fun a=>nb a\/a∈c'.F\/(f=true/\H a≠none)) H' d v->Q v H')/\oN aW c ds Φ:=⟨_,fun c' f d v H' q=>q v H',hF⟩
 obtain⟨x,dx,l,p,n,cs,wd,rfl,rfl,hN,hW,hl,q⟩:=hF
 refine⟨_,(@aB _ _ _ _ _ (@aT _ _ (1) _ _ _ _ qB.nd rfl (Or.inl rfl) (@gm _ _ _ _ aj) (by rfl) (by first|exact .inl rfl|exact .inr rfl|assumption)) (@aB _ _ _ _ _ (@aT _ _ (2) _ _ _ _ qB.nd rfl (Or.inl rfl) (@tM _ _ _ _ _ _ _ _ _ _ _ Hq (pv 0) (hr.mono (by decide)) (by rfl)) (by rfl) (by first|exact .inl rfl|exact .inr rfl|assumption)) (@aB _ _ _ _ _ (@sF _ _ _ _ _ _ PassesOwn.never (@bu _ _ _ _ _ _ _ _ (vU hr.units) (pv 2) (@gm _ _ _ _ aj) (bG _)) (@aB _ _ _ _ _ (@kU _ _ _ _ (j7 PySem.F.plainAttrs_list PySem.F.slot_list_append PySem.F.type_list_append mR (pv 1) (@aa _ _ _ _ _ (pv 2) aj rfl)) (by rfl)) (@aD _ _ _ (@aT _ _ (2) _ _ _ _ qB.nd rfl (Or.inl rfl) (@tM _ _ _ _ _ _ _ _ _ _ _ Hq (pv 0) (hr.mono (by decide)) (by rfl)) (by rfl) (by first|exact .inl rfl|exact .inr rfl|assumption))))) (@aD _ _ _ (@aV _ _ _ _ (pv 1)))))),?_⟩
 refine Sv.rJ hlive iY hcf kH hds aC (ρ:=[.cu _, .no, .no]) rfl ?_
 clear aC hds
 have p2:=hN.1.1
 have key:∀{w:Wo},w.length=wd.length->e7 p cs w.length:=fun{w} h=>by rw[h];exact hN
 refine Sv.seq ?_
 refine Sv.CC ?_
 intro A1
 refine Sv.seq ?_
 refine Sv.yT (d9.sE ET rfl rfl (bF.is rfl) ?_)
 refine Av.nil ?_
 refine⟨rfl,x,dx,l,p,n,cs,wd,rfl,rfl,hN,hW,hl,?_⟩
 refine Gv.name ?_
 refine Sv.seq ?_
 refine Sv.uJ (fun ρ=>∃(w:Wo) (st:List (List bV)),w.length=wd.length/\fE w/\st++eX p cs w=eX p cs wd/\eV p cs w=eV p cs wd/\ρ=[.cu (bF aW x dx (g9 (cS p n cs) l (putAll w (aR p cs w)))), .own A1 true (st.map iP), .d true (iP (aR p cs w))]) (fun(ρ:Rh)=>match ρ[1]? with|some (Sl.own _ _ ds)=>wd.length-ds.length|_=>0) ⟨wd,[],rfl,hW,rfl,rfl,rfl⟩ ?_
 rintro ρ' ⟨w,st,hwl,hwW,h1,h2,rfl⟩
 have jM:=key hwl
 walk_at "dt"
 refine⟨Ss _,Uv,_,rfl,?_⟩
 rw[List.map_nil,Na]
 by_cases c:aR p cs w=[]
 ·rw[if_neg (by rw[decide_eq_true c];simp)]
  rw[u6 c,List.append_nil] at h1
  rw[V6 c] at h2
  subst h1 h2
  rw[c]
  refine Sv.GF 1 rfl ?_
  refine Sv.AV (d9.of ?_)
  refine Ev.var rfl ?_
  intro aM v' H' hv
  exact⟨_,_,_,rfl,⟨rfl,rfl,fun a m=>m⟩,q,hv⟩
 rw[if_pos (by rw[decide_eq_false c];rfl)]
 have hl':=NJ (p:=p) (cs:=cs) (wd:=wd)
 rw[<-h1,qS (by omega) jM.rg c,List.length_append,List.length_cons] at hl'
 rw[qS (by omega) jM.rg c] at h1
 rw[WI (by omega) jM.rg c] at h2
 have MO:e7 p cs (putAll w (aR p cs w)).length:=by rw[jn];exact jM
 have E3:=Lv jM hwW
 refine Sv.seq ?_
 refine Sv.append rfl ?_
 refine Ev.var rfl ?_
 refine⟨by rw[List.length_map];omega,?_⟩
 refine Sv.yT (d9.sE ET rfl rfl (bF.is rfl) ?_)
 refine Av.nil ?_
 refine⟨rfl,x,dx,l,p,n,cs,putAll w (aR p cs w),rfl,rfl,MO,E3,by rw[jn,hwl];exact hl,?_⟩
 refine Gv.name ?_
 refine⟨⟨putAll w (aR p cs w),st++[aR p cs w],by rw[jn];exact hwl,E3,by rw[List.append_assoc];exact h1,h2,by rw[List.map_append];rfl⟩,?_⟩
 show wd.length-(List.map iP st++[_]).length<wd.length-(List.map iP st).length
 rw[List.length_append,List.length_singleton,List.length_map]
 omega
def o4(C:Addr):CF:=fun c ds Φ=>∃(x dx l:Addr) (nd:PyData) (wd:Wo),c=bF C x dx (g9 nd l wd)/\ds=[]/\Φ (bF C x dx (g9 nd l wd)) true (eZ wd)
theorem Z0{C:Addr}:kL (o4 C):=by
 intro c ds Φ Ψ h z
 obtain⟨x,dx,l,nd,wd,e1,e2,q⟩:=h
 exact⟨x,dx,l,nd,wd,e1,e2,z _ _ _ q⟩
theorem Zg:bM ["self"] ["self"] (az mQ):=⟨rfl,rfl,rfl,by decide+kernel,rfl,by decide+kernel,by decide+kernel⟩
theorem VD(F:bC K "word" "Mender.word" mQ f fd){aW:Addr}(gb:dJ K aW)(ic:fc K aW "letters")(cB:mg "list"=none):
  aY P w K mg base bw 1 f fd ["self"] (gc 1 (o4 aW)):=by
 refine F.ok Zg (fun vs H Q E h=>h.1) (fun cdv A outer s H vs Q E hr h=>?_)
 obtain⟨_,nb,c,ws,ds,rfl,hlive,iY,hcf,kH,hds,hF⟩:=h
 obtain⟨Φ,aC,hF⟩:∃Φ:Cu->Pd,(∀c' f d v H',Φ c' f d->nG c c' H H'->c'.P (fun a=>nb a\/a∈c'.F) H'->ah (fun a=>nb a\/a∈c'.F\/(f=true/\H a≠none)) H' d v->Q v H')/\o4 aW c ds Φ:=⟨_,fun c' f d v H' q=>q v H',hF⟩
 obtain⟨x,dx,l,nd,wd,rfl,rfl,q⟩:=hF
 refine⟨_,(@aD _ _ _ (@aV _ _ _ _ (@gy _ _ _ _ _ _ _ _ (iz K) kc rfl cB PyProof.Rows.boot_list (@aa _ _ _ _ _ (@tY _ _ _ _ _ (pv 0) rfl) aj rfl) (by decide) (by decide) (by rfl) (by rfl)))),?_⟩
 refine Sv.rJ hlive iY hcf kH hds aC (ρ:=[.cu _]) rfl ?_
 clear aC hds
 refine Sv.AV (d9.of (ay.ev (ay.Sx rfl gb ic rfl ?_)))
 rw[Vg]
 intro aM v' H' hv
 exact⟨_,_,_,rfl,⟨rfl,rfl,fun a m=>m⟩,q,hv⟩
def qo(C:Addr):CF:=fun c ds Φ=>∃(x dx:Addr) (p n:Int) (cs:List ak) (wd:Wo),c=bF C x dx []/\ds=[cS p n cs,eZ wd]/\cs.length<=10000/\(∀prs∈cs,prs.length<=10000)/\∀l,Φ (bF C x dx (g9 (cS p n cs) l wd)) true .none
theorem Kz{C:Addr}:kL (qo C):=by
 intro c ds Φ Ψ h z
 obtain⟨x,dx,p,n,cs,wd,e1,e2,h1,h2,q⟩:=h
 exact⟨x,dx,p,n,cs,wd,e1,e2,h1,h2,fun l=>z _ _ _ (q l)⟩
theorem JU:bM ["self","net","word"] ["self","net","word"] (az mS):=⟨rfl,rfl,rfl,by decide+kernel,rfl,by decide+kernel,by decide+kernel⟩
theorem Za(F:bC K "__init__" "Mender.__init__" mS f fd){aW:Addr}(gb:dJ K aW)(kD:fc K aW "net")(ic:fc K aW "letters")(MQ:Callee P w K mg base "copied" 1 ["net"] (bJ 1 uh))(cB:mg "list"=none):
  aY P w K mg base bw 2 f fd ["self","net","word"] (gc 3 (qo aW)):=by
 refine F.ok JU (fun vs H Q E h=>h.1) (fun cdv A outer s H vs Q E hr h=>?_)
 obtain⟨_,nb,c,ws,ds,rfl,hlive,iY,hcf,kH,hds,hF⟩:=h
 obtain⟨Φ,aC,hF⟩:∃Φ:Cu->Pd,(∀c' f d v H',Φ c' f d->nG c c' H H'->c'.P (fun a=>nb a\/a∈c'.F) H'->ah (fun a=>nb a\/a∈c'.F\/(f=true/\H a≠none)) H' d v->Q v H')/\qo aW c ds Φ:=⟨_,fun c' f d v H' q=>q v H',hF⟩
 obtain⟨x,dx,p,n,cs,wd,rfl,rfl,hl,hl2,q⟩:=hF
 refine⟨_,(@aB _ _ _ _ _ (@GD _ _ _ _ _ _ _ _ (pv 0) (@aO _ _ _ _ _ _ _ _ _ _ MQ (hr.mono (by decide)) (@aa _ _ _ _ _ (pv 1) aj rfl) (by rfl) (by decide) (by rfl) (by rfl)) rfl) (@aD _ _ _ (@GD _ _ _ _ _ _ _ _ (pv 0) (@gy _ _ _ _ _ _ _ _ (iz K) kc rfl cB PyProof.Rows.boot_list (@aa _ _ _ _ _ (pv 2) aj rfl) (by decide) (by decide) (by rfl) (by rfl)) rfl))),?_⟩
 refine Sv.rJ hlive iY hcf kH hds aC (ρ:=[.cu _, .d false _, .d false _]) rfl ?_
 clear aC hds
 refine Sv.seq ?_
 refine Sv.Zx rfl gb kD (.inl rfl) (by decide) ?_
 refine Ev.cZ Ri ?_
 walk_at "dt"
 refine⟨rfl,p,n,cs,rfl,hl,hl2,fun f=>?_⟩
 refine Sv.Yl rfl gb ic rfl (Nat.le_of_ble_eq_true rfl) ?_
 refine ay.listOf ?_
 walk_at "dt"
 intro l
 exact⟨_,rfl,⟨rfl,rfl,fun a m=>List.mem_append_left [l] m⟩,q l⟩
def sA:DF:=fun ds Φ=>∃(p n:Int) (cs:List ak) (wd:Wo),ds=[cS p n cs,eZ wd]/\e7 p cs wd.length/\fE wd/\wd.length<64/\Φ true (.tuple [eZ (eV p cs wd), .list ((eX p cs wd).map iP)])
theorem PJ:cJ sA:=by
 intro ds Φ Ψ hm z
 obtain⟨p,n,cs,wd,e,h1,h2,h3,q⟩:=hm
 exact⟨p,n,cs,wd,e,h1,h2,h3,z _ _ q⟩
theorem vZ:bM ["net","word","mender","rounds"] ["net","word"] (az nQ):=⟨rfl,rfl,rfl,by decide+kernel,rfl,by decide+kernel,by decide+kernel⟩
theorem Qg(F:bC K "mended" "mended" nQ f fd){aW:Addr}(LC:jS P w K mg base aW "mend" 7 ["self"] (gc 1 (oN aW)))(OS:jS P w K mg base aW "word" 1 ["self"] (gc 1 (o4 aW)))(O8:Bj P w K mg base aW "Mender" 2 ["self","net","word"] (gc 3 (qo aW))):
  aY P w K mg base bw 8 f fd ["net","word"] (bJ 2 sA):=by
 refine F.ok vZ (fun vs H Q E h=>h.1) (fun cdv A outer s H vs Q E hr h=>?_)
 obtain⟨_,nb,ds,hlive,hds,hF⟩:=h
 obtain⟨Φ,aC,hF⟩:∃Φ:Pd,(∀f d v H',Φ f d->bx H H'->ah (fun a=>nb a\/(f=true/\H a≠none)) H' d v->Q v H')/\sA ds Φ:=⟨_,fun f d v H' q=>q v H',hF⟩
 obtain⟨p,n,cs,wd,rfl,hN,hW,hl,q⟩:=hF
 refine⟨_,(@aB _ _ _ _ _ (@aT _ _ (2) _ _ _ _ vZ.nd rfl (Or.inl rfl) (@Mz _ _ _ _ _ _ _ _ _ _ _ O8 (hr.mono (by decide)) (@aa _ _ _ _ _ (pv 0) (@aa _ _ _ _ _ (pv 1) aj rfl) rfl) (by rfl) (by decide) (by rfl) (by rfl)) (by rfl) (by first|exact .inl rfl|exact .inr rfl|assumption)) (@aB _ _ _ _ _ (@aT _ _ (3) _ _ _ _ vZ.nd rfl (Or.inl rfl) (@tM _ _ _ _ _ _ _ _ _ _ _ LC (pv 2) (hr.mono (by decide)) (by rfl)) (by rfl) (by first|exact .inl rfl|exact .inr rfl|assumption)) (@aD _ _ _ (@aV _ _ _ _ (@fQ _ _ _ _ _ (@aa _ _ _ _ _ (@tM _ _ _ _ _ _ _ _ _ _ _ OS (pv 2) (hr.mono (by decide)) (by rfl)) (@aa _ _ _ _ _ (pv 3) aj rfl) rfl)))))),?_⟩
 refine Sv.fk hlive hds aC (ρ:=[.d false _, .d false _, .no, .no]) rfl ?_
 clear aC hds
 have hcl:=hN.2.2.1
 refine Sv.seq ?_
 refine Sv.make Kz ?_
 walk_at "dt"
 refine⟨rfl,fun x dx=>⟨x,dx,p,n,cs,wd,rfl,rfl,by omega,fun prs hp=>by have:=(hN.2.2.2 prs hp).1;omega,fun l=>⟨rfl,?_⟩⟩⟩
 refine Sv.seq ?_
 refine Sv.yT (d9.sE Jc rfl rfl (bF.is rfl) ?_)
 refine Av.nil ?_
 refine⟨rfl,x,dx,l,p,n,cs,wd,rfl,rfl,hN,hW,hl,?_⟩
 refine Gv.name ?_
 refine Sv.retS (d9.tup ?_)
 refine rC.cons (d9.sE Z0 rfl rfl (bF.is rfl) ?_)
 refine Av.nil ?_
 refine⟨rfl,x,dx,l,_,eV p cs wd,rfl,rfl,?_⟩
 walk_at "dt"
 exact q
theorem rY:bM ["script","stir","cell"] ["script"] (az kN):=⟨rfl,rfl,rfl,by decide+kernel,rfl,by decide+kernel,by decide+kernel⟩
theorem Zy(F:bC K "_law_bag" "_law_bag" kN f fd)(AK:mg "abs"=none):
  aY P w K mg base bw 1 f fd ["script"] (C4 K):=by
 refine F.ok rY (fun vs H Q E h=>?_) (fun cdv A outer s H vs Q E hr h=>?_)
 ·obtain⟨a,ns,rfl,hS,hl,q⟩:=h
  rfl
 obtain⟨a,ns,rfl,hS,hl,q⟩:=h
 refine⟨_,(@aB _ _ _ _ _ (@aT _ _ (1) _ _ _ _ rY.nd rfl (Or.inl rfl) ao (by rfl) (by first|exact .inl rfl|exact .inr rfl|assumption)) (@aB _ _ _ _ _ (@fM _ _ _ _ _ _ _ _ PassesOwn.never rfl (cN (K:=K) rfl (@sV _ _ _ _ _ _ _ _ _ _ se (pv 0) qO (@tO _ _ _ ao))) (aK (i:=2) rY.nd rfl (Or.inl rfl)) (@aD _ _ _ (@aT _ _ (1) _ _ _ _ rY.nd rfl (Or.inl rfl) (@aF _ _ _ _ _ _ _ _ fh (@aF _ _ _ _ _ _ _ _ ez (@aF _ _ _ _ _ _ _ _ ez (@aF _ _ _ _ _ _ _ _ dO (pv 1) ao) (@aF _ _ _ _ _ _ _ _ fh (pv 2) ao)) ao) ao) (by rfl) (by first|exact .inl rfl|exact .inr rfl|assumption))) (by intro _;rfl)) (@aD _ _ _ (@aV _ _ _ _ (@gm _ _ _ _ (@aa _ _ _ _ _ (dH (bQ.of (show cy (az kN) ["script","stir","cell"] _ ["cell"] [none]=true by decide+kernel)) (cN (K:=K) rfl (@sV _ _ _ _ _ _ _ _ _ _ se (pv 0) qO (@tO _ _ _ ao))) (fun _ _ _ _=>⟨(aK (i:=0) (by show List.Nodup (["cell"]:List Str);decide+kernel) rfl (Or.inl rfl)),eG,(@aF _ _ _ _ _ _ _ _ fh (@bT _ _ _ _ _ _ _ _ _ PB rfl AK PyProof.Rows.boot_abs (@aa _ _ _ _ _ (pv 0) aj rfl) (by decide) (by decide) (by rfl) (by rfl)) (@aF _ _ _ _ _ _ _ _ qA ao ao))⟩)) (@aa _ _ _ _ _ ao (@aa _ _ _ _ _ ao (@aa _ _ _ _ _ (pv 1) (@aa _ _ _ _ _ ao aj rfl) rfl) rfl) rfl) rfl)))))),?_⟩
 have Ck:jI (ns.map V.int) none (some 63)=ns.map V.int:=by
  have e:(ns.map V.int).length=ns.length:=List.length_map _
  show List.take (min 63 (ns.map V.int).length-0) (List.drop 0 (ns.map V.int))=_
  rw[List.drop_zero]
  exact List.take_of_length_le (by omega)
 walk_at "st"
 refine R.B3 hS fun c hc=>?_
 rw[Ck]
 refine R.qG (aQ.of aU) ?_
 refine zx (xs:=ns.map V.int) (fun i σ H1=>∃(st:Int) (x:Option V),σ=[some (.ref a),some (.int st),x]/\0<=st/\st<2147483647/\H1=upd H c (.lst (ns.map V.int))) ⟨19,none,rfl,by omega,by omega,rfl⟩ ?_ ?_ ?_
 ·rintro i σ H1 hi ⟨st,x,rfl,h1,h2,rfl⟩
  exact aQ.of aU
 ·rintro i x σ H1 hx ⟨st,y,rfl,h1,h2,rfl⟩
  rw[List.getElem?_map] at hx
  obtain⟨n,_,rfl⟩:=Option.map_eq_some_iff.mp hx
  walk_at "st"
  exact⟨_,_,rfl,Int.emod_nonneg _ (by decide),Int.emod_lt_of_pos _ (by decide),rfl⟩
 ·rintro σ H1 ⟨st,x,rfl,h1,h2,rfl⟩
  walk_at "st"
  refine R.B3 ((bW hc).seq hS) fun c2 hc2=>?_
  rw[Ck]
  refine R.qG (aQ.of aU) ?_
  intro acc hacc
  refine R.D5 (xs:=ns.map V.int) (fun i σ H2=>∃(x:Option V),σ=[x]/\H2=upd (upd (upd H c (.lst (ns.map V.int))) c2 (.lst (ns.map V.int))) acc (.lst (((ns.take i).map fun n=>(if n<0 then-n else n)%10^60).map V.int))) ⟨none,rfl,rfl⟩ ?_ ?_ ?_
  ·rintro i σ H1 hi ⟨x,rfl,rfl⟩
   refine aQ.of ?_
   rw[aN (fO aU hacc)]
   exact aU
  ·rintro i x σ H1 hx ⟨y,rfl,rfl⟩
   rw[List.getElem?_map] at hx
   obtain⟨n,hn,rfl⟩:=Option.map_eq_some_iff.mp hx
   walk_at "st"
   refine⟨_,aU,?_,_,rfl,?_⟩
   ·rw[List.length_map,List.length_map,List.length_take]
    exact HN (by omega)
   ·rw[xV,List.take_add_one,hn,List.map_append,List.map_append]
    rfl
  ·rintro σ H1 ⟨x,rfl,rfl⟩
   walk_at "st"
   refine(show v7 _ _ _ from⟨by show 5<=sizeLine;decide,fun p hp=>?_⟩)
   have hn1:=fO (aU (H:=upd (upd H c (.lst (ns.map V.int))) c2 (.lst (ns.map V.int))) (a:=acc)) hp
   have s1:bx H (upd (upd (upd H c (.lst (ns.map V.int))) c2 (.lst (ns.map V.int))) acc (.lst (((ns.take (ns.map V.int).length).map fun n=>(if n<0 then-n else n)%10^60).map V.int))):=(bW hc).trans ((bW hc2).trans (bW hacc))
   refine q p acc _ (s1.trans (bW hp)) (s1.free hp) ⟨_,0,0,st,0,aU,by rw[aN hn1];exact aU,?_,?_,by omega,by omega,by omega,h1,h2⟩
   ·intro y hy
    obtain⟨z,_,rfl⟩:=List.mem_map.mp hy
    exact⟨Int.emod_nonneg _ (by decide),Int.emod_lt_of_pos _ (by decide)⟩
   ·rw[List.length_map,List.length_take]
    omega
theorem Ec:bM ["bag","many","found"] ["bag","many"] (az nN):=⟨rfl,rfl,rfl,by decide+kernel,rfl,by decide+kernel,by decide+kernel⟩
theorem Uu(F:bC K "_law_draw" "_law_draw" nN f fd)(bR:mg "len"=none):
  aY P w K mg base bw 1 f fd ["bag","many"] jg:=by
 refine F.ok Ec (fun vs H Q E h=>?_) (fun cdv A outer s H vs Q E hr h=>?_)
 ·obtain⟨b,l,many,rfl,hB,hm,hs,q⟩:=h
  rfl
 obtain⟨b,l,many,rfl,hB,hm,hs,q⟩:=h
 refine⟨_,(@aB _ _ _ _ _ (@cV _ _ _ _ _ _ _ _ (PW.pt (sr (@bu _ _ _ _ _ _ _ _ fP (@aJ _ _ _ _ _ _ _ aZ (pv 0) ao (fun _ _=>rfl)) ao (bG _)) (r6 (@bu _ _ _ _ _ _ _ _ za (@aJ _ _ _ _ _ _ _ aZ (pv 0) ao (fun _ _=>rfl)) (@bT _ _ _ _ _ _ _ _ _ Gg rfl bR PySem.boot_len (@aa _ _ _ _ _ (@aJ _ _ _ _ _ _ _ aZ (pv 0) ao (fun _ _=>rfl)) aj rfl) (by decide) (by decide) (by rfl) (by rfl)) (bG _))))) (@aB _ _ _ _ _ (@iy _ _ _ _ _ _ (@aJ _ _ _ _ _ _ _ aZ (@aJ _ _ _ _ _ _ _ aZ (pv 0) ao (fun _ _=>rfl)) (@aJ _ _ _ _ _ _ _ aZ (pv 0) ao (fun _ _=>rfl)) (fun _ _=>rfl)) (jy (pv 0) ao set_list) (by rfl) (by rfl) (by rfl)) (@aD _ _ _ (@iy _ _ _ _ _ _ (@aF _ _ _ _ _ _ _ _ ez (@aJ _ _ _ _ _ _ _ aZ (pv 0) ao (fun _ _=>rfl)) ao) (jy (pv 0) ao set_list) (by rfl) (by rfl) (by rfl)))) (@aD _ _ _ (@cV _ _ _ _ _ _ _ _ (@bu _ _ _ _ _ _ _ _ fP (@aJ _ _ _ _ _ _ _ aZ (pv 0) ao (fun _ _=>rfl)) ao (bG _)) (@aB _ _ _ _ _ (@iy _ _ _ _ _ _ (@aF _ _ _ _ _ _ _ _ ez (@aJ _ _ _ _ _ _ _ aZ (pv 0) ao (fun _ _=>rfl)) ao) (jy (pv 0) ao set_list) (by rfl) (by rfl) (by rfl)) (@aB _ _ _ _ _ (@iy _ _ _ _ _ _ (@aF _ _ _ _ _ _ _ _ fh (@aF _ _ _ _ _ _ _ _ ez (@aF _ _ _ _ _ _ _ _ ez (@aF _ _ _ _ _ _ _ _ ez (@aF _ _ _ _ _ _ _ _ qA (@aJ _ _ _ _ _ _ _ aZ (pv 0) ao (fun _ _=>rfl)) ao) (@aF _ _ _ _ _ _ _ _ dO ao (@aJ _ _ _ _ _ _ _ aZ (pv 0) ao (fun _ _=>rfl)))) (@aF _ _ _ _ _ _ _ _ dO ao (@aJ _ _ _ _ _ _ _ aZ (pv 0) ao (fun _ _=>rfl)))) ao) ao) (jy (pv 0) ao set_list) (by rfl) (by rfl) (by rfl)) (@aD _ _ _ (@aV _ _ _ _ (@aF _ _ _ _ _ _ _ _ fh (@aF _ _ _ _ _ _ _ _ oq (@aJ _ _ _ _ _ _ _ aZ (pv 0) ao (fun _ _=>rfl)) ao) (pv 1)))))) cX))) (@aB _ _ _ _ _ (@aT _ _ (2) _ _ _ _ Ec.nd rfl (Or.inl rfl) (@aF _ _ _ _ _ _ _ _ fh (@aJ _ _ _ _ _ _ _ aZ (pv 0) ao (fun _ _=>rfl)) (pv 1)) (by rfl) (by first|exact .inl rfl|exact .inr rfl|assumption)) (@aB _ _ _ _ _ (@iy _ _ _ _ _ _ (@aF _ _ _ _ _ _ _ _ oq (@aJ _ _ _ _ _ _ _ aZ (pv 0) ao (fun _ _=>rfl)) (pv 1)) (jy (pv 0) ao set_list) (by rfl) (by rfl) (by rfl)) (@aD _ _ _ (@aV _ _ _ _ (pv 2)))))),?_⟩
 obtain⟨ns,i,c,st,n,h1,h2,h3,h4,h5,h6,h7,h8,h9⟩:=id hB
 have hlb:=Vm h1 h2
 have fin:∀(H1:Hp) (i' c':Int),H1 b=some (.lst [.ref l, .int i', .int c', .int st, .int n])->aP (Nb b) H H1->0<=i'->0<=c'->c'<10^60->
   ∀(H2:Hp),H2=upd H1 b (.lst [.ref l, .int i', .int (c'/many), .int st, .int n])->Q (.int (c'%many)) H2:=fun H1 i' c' e1 bt g1 g2 g3 H2 e2=>by
  subst e2
  have hd1:0<=c'/many:=Int.ediv_nonneg g2 (by omega)
  have hd2:c'/many<=c':=Int.ediv_le_self _ g2
  exact q _ _ (Int.emod_nonneg _ (by omega)) (Int.emod_lt_of_pos _ hm) (bt.trans (aP.set rfl)) (cG.put hlb (bt _ _ hlb h2) h3 h4 g1 hd1 (by omega) h8 h9)
 walk_at "st"
 refine nW (fun c1=>?_) (fun c1=>?_)
 ·have c1:c=0:=of_decide_eq_true c1
  walk_at "st"
  refine nW (fun c2=>?_) (fun c2=>?_)
  ·have c2:i<(List.map V.int ns).length:=of_decide_eq_true c2
   rw[List.length_map] at c2
   have hi:i.toNat<ns.length:=by omega
   obtain⟨g1,g2⟩:=h3 _ (List.getElem_mem hi)
   walk_at "st"
   refine R.su h2 (v:= .int ns[i.toNat]) (gC h5 (by rw[List.getElem?_map,List.getElem?_eq_getElem hi];rfl)) ?_
   walk_at "st"
   refine fin (upd H b (.lst [.ref l, .int (i+1), .int ns[i.toNat], .int st, .int n])) (i+1) ns[i.toNat] aU (aP.set rfl) (by omega) g1 g2 _ ?_
   rw[xV]
   rfl
  ·walk_at "st"
   exact q _ _ (Int.emod_nonneg _ (by omega)) (Int.emod_lt_of_pos _ hm) (aP.set rfl) (cG.put hlb h2 h3 h4 h5 h6 h7 (Int.emod_nonneg _ (by decide)) (Int.emod_lt_of_pos _ (by decide)))
 ·have c1:¬c=0:=of_decide_eq_false (Bool.eq_false_iff.mpr c1)
  walk_at "st"
  exact fin H i c h1 (aP.refl _ _) h5 h6 h7 _ rfl
theorem Ob(is:List Int):PyData.eqv (.list (is.map PyData.int)) (.list [])=decide (is=[]):=by
 cases is<;>simp[PyData.eqv,PyData.eqvAll]
theorem TQ(is:List Int):SeqAt.shaped (.list (is.map PyData.int))=true:=by
 have h:PyData.depthAll (is.map PyData.int)=0/\PyData.canLayAll0 (is.map PyData.int)=true:=by
  induction is with
  |nil=>simp[PyData.depthAll,PyData.canLayAll0]
  |cons a r ih=>simp[PyData.depthAll,PyData.depth,PyData.canLayAll0,PyData.canLay0,ih.2,ih.1]
 unfold SeqAt.shaped
 simp[PyData.canLay0,PyData.depth,h.2,h.1]
theorem BL{nb:Addr->Prop}{H:Hp}:∀is:List Int,af nb H (is.map PyData.int) (is.map V.int)
 |[]=>af.nil
 |i::is=>af.cons (.int i) (BL is)
theorem WE{r:Int}(h0:r<=10100)(h:∀d:Int,2<=d->d<102->¬(d*d<=r/\r%d=0)):tu r:=fun d d1 d2 e=>by
 by_cases hd:d<102
 ·exact h d d1 hd ⟨d2,e⟩
 ·have:102*102<=d*d:=Int.mul_le_mul (by omega) (by omega) (by omega) (by omega)
  omega
theorem BW:bM ["number","found"] ["number"] (az lH):=⟨rfl,rfl,rfl,by decide+kernel,rfl,by decide+kernel,by decide+kernel⟩
theorem O7(F:bC K "_law_prime_from" "_law_prime_from" lH f fd)(bO:mg "range"=none):
  aY P w K mg base bw 1 f fd ["number"] zJ:=by
 refine F.ok BW (fun vs H Q E h=>?_) (fun cdv A outer s H vs Q E hr h=>?_)
 ·obtain⟨n,rfl,hn1,hn2,q⟩:=h
  rfl
 obtain⟨n,rfl,hn1,hn2,q⟩:=h
 refine⟨_,(@aB _ _ _ _ _ (@fM _ _ _ _ _ _ _ _ PassesOwn.never rfl (@Hv _ _ _ _ _ _ _ rfl bO (@aa _ _ _ _ _ (pv 0) (@aa _ _ _ _ _ (@aF _ _ _ _ _ _ _ _ ez (pv 0) ao) aj rfl) rfl) (by rfl) (by rfl)) (aK (i:=1) BW.nd rfl (Or.inr rfl)) (@aD _ _ _ (@cV _ _ _ _ _ _ _ _ (@bu _ _ _ _ _ _ _ _ (L6 hr.units) (dH (bQ.of (show cy (az lH) ["number","found"] _ ["k","found"] [none,some 1]=true by decide+kernel)) (@Hv _ _ _ _ _ _ _ rfl bO (@aa _ _ _ _ _ ao (@aa _ _ _ _ _ ao aj rfl) rfl) (by rfl) (by rfl)) (fun _ _ _ _=>⟨(aK (i:=0) (by show List.Nodup (["k","found"]:List Str);decide+kernel) rfl (Or.inl rfl)),(g6 (PW.pt (sr (@bu _ _ _ _ _ _ _ _ E5 (@aF _ _ _ _ _ _ _ _ dO (pv 0) (pv 0)) (pv 1) (bG _)) (r6 (@bu _ _ _ _ _ _ _ _ fP (@aF _ _ _ _ _ _ _ _ fh (pv 1) (pv 0)) ao (bG _)))))),(pv 0)⟩)) (@gm _ _ _ _ aj) (bG _)) (@aD _ _ _ (@aV _ _ _ _ (pv 1))) cX)) (by intro _;rfl)) (@aD _ _ _ (@aV _ _ _ _ ao))),?_⟩
 walk_at "st"
 refine Cc (fun i σ H1=>bx H H1/\∃(x:Option V),σ=[some (.int n),x]) ⟨bx.refl _,none,rfl⟩ ?_ ?_
 ·rintro i σ H1 hi ⟨s1,x,rfl⟩
  have hi2:(i:Int)<60:=by omega
  walk_at "st"
  intro acc hacc
  refine R.wV (fun j σ H2=>bx H1 H2/\(∃x:Option V,σ=[x,some (.int (n+i))])/\∃is:List Int,H2 acc=some (.lst (is.map V.int))/\is.length<=j/\(is=[]->∀d:Int,2<=d->d<2+j->¬(d*d<=n+i/\(n+i)%d=0))) ?_ ?_ ?_
  ·exact⟨bW hacc,⟨none,rfl⟩,[],aU,Nat.zero_le _,fun _ d d1 d2=>by omega⟩
  ·rintro j σ H2 hj ⟨s2,⟨x,rfl⟩,is,e2,l2,h2⟩
   have hj2:(j:Int)<100:=by omega
   have next:∀d:Int,d<2+((j+1:Nat):Int)->d<2+j\/d=2+j:=fun d h=>by omega
   walk_at "st"
   refine nW (fun c1=>?_) (fun c1=>?_)
   ·have c1:(2+(j:Int))*(2+j)<=n+i:=of_decide_eq_true c1
    walk_at "st"
    refine nW (fun c2=>?_) (fun c2=>?_)
    ·have c2:(n+i)%(2+(j:Int))=0:=of_decide_eq_true c2
     walk_at "st"
     refine⟨_,e2,?_,?_,⟨_,rfl⟩,is++[2+(j:Int)],?_,?_,fun e=>?_⟩
     ·rw[List.length_map];exact HN (by omega)
     ·exact fun a o h=>by rw[aN (fO h hacc)];exact s2 _ _ h
     ·rw[aU,List.map_append];rfl
     ·rw[List.length_append,List.length_singleton];omega
     ·simp at e
    ·have c2:¬(n+i)%(2+(j:Int))=0:=of_decide_eq_false (Bool.eq_false_iff.mpr c2)
     refine⟨s2,⟨_,rfl⟩,is,e2,by omega,fun e d d1 d2=>?_⟩
     rcases next d d2 with h|h
     ·exact h2 e d d1 h
     ·rw[h];exact fun z=>c2 z.2
   ·have c1:¬(2+(j:Int))*(2+j)<=n+i:=of_decide_eq_false (Bool.eq_false_iff.mpr c1)
    walk_at "st"
    refine⟨s2,⟨_,rfl⟩,is,e2,by omega,fun e d d1 d2=>?_⟩
    rcases next d d2 with h|h
    ·exact h2 e d d1 h
    ·rw[h];exact fun z=>c1 z.1
  ·rintro σ H2 ⟨s2,⟨x,rfl⟩,is,e2,l2,h2⟩
   walk_at "st"
   refine R.XS (by decide) fun p H3 s3 f3 e3=>?_
   refine⟨fun _=>False, .list (is.map PyData.int), .list [], .lst id (s3 _ _ e2) (BL is), .lst id e3 af.nil,TQ is,by decide,?_⟩
   rw[Ob]
   walk_at "st"
   have s:bx H H3:=s1.trans (s2.trans s3)
   refine nW (fun c=>?_) (fun c=>?_)
   ·have c:is=[]:=by simpa using c
    walk_at "st"
    exact q _ _ s (by omega) (by omega) (WE (by omega) fun d d1 d2=>h2 c d d1 (by omega))
   ·walk_at "st"
    exact⟨s,_,rfl⟩
 ·rintro σ H1 ⟨s1,x,rfl⟩
  walk_at "st"
  refine q _ _ s1 (by omega) (by omega) fun d d1 d2=>?_
  have:2*2<=d*d:=Int.mul_le_mul d1 d1 (by omega) (by omega)
  omega
def tT:DF:=fun ds Φ=>ds=[]/\∀p:Int,d7 p->p<10^40->∀f,Φ f (.int p)
theorem M7:cJ tT:=by
 intro ds Φ Ψ hm z
 obtain⟨e,q⟩:=hm
 exact⟨e,fun p h1 h2 f=>z _ _ (q p h1 h2 f)⟩
theorem TJ:∀x∈([2,3,5,7,2,11,101,10007,65537,1000003,998244353,1000000007,2147483647,1000000000039,10^Int.toNat 39+3,10^Int.toNat 40-17,2305843009213693951,618970019642690137449562111,162259276829213363391578010288127,170141183460469231731687303715884105727]:List Int),x∈qZ/\x<10^40:=by decide
theorem pU:bM ["bag","some","way"] ["bag"] (az mF):=⟨rfl,rfl,rfl,by decide+kernel,rfl,by decide+kernel,by decide+kernel⟩
theorem SQ(F:bC K "_law_prime" "_law_prime" mF f fd)(d8:Callee P w K mg base "_law_draw" 1 ["bag","many"] jg)(R5:Callee P w K mg base "_law_prime_from" 1 ["number"] zJ):
  aY P w K mg base bw 2 f fd ["bag"] (eB 1 tT):=by
 refine F.ok pU (fun vs H Q E h=>h.1) (fun cdv A outer s H vs Q E hr h=>?_)
 obtain⟨_,b,l,ws,nb,ds,rfl,hB,hlive,hnb,hds,hF⟩:=h
 obtain⟨Φ,aC,hF⟩:∃Φ:Pd,(∀f d v H',Φ f d->aP (Nb b) H H'->cG H' b l->ah (fun a=>nb a\/(f=true/\H a≠none)) H' d v->Q v H')/\tT ds Φ:=⟨_,fun f d v H' q=>q v H',hF⟩
 obtain⟨rfl,q⟩:=hF
 refine⟨_,(@aB _ _ _ _ _ (@XO _ 1 _ _ _ _ _ _ pU.nd rfl (Or.inl rfl) rfl (Or.inl rfl)) (@aB _ _ _ _ _ (@aT _ _ (1) _ _ _ _ pU.nd rfl (Or.inl rfl) (@aF _ _ _ _ _ _ _ _ G9 (pv 1) (@gm _ _ _ _ (@aa _ _ _ _ _ (@aF _ _ _ _ _ _ _ _ ez (@aF _ _ _ _ _ _ _ _ qA ao ao) ao) (@aa _ _ _ _ _ (@aF _ _ _ _ _ _ _ _ jj (@aF _ _ _ _ _ _ _ _ qA ao ao) ao) (@aa _ _ _ _ _ ao (@aa _ _ _ _ _ ao aj rfl) rfl) rfl) rfl))) (by rfl) (by first|exact .inl rfl|exact .inr rfl|assumption)) (@aB _ _ _ _ _ (@aT _ _ (1) _ _ _ _ pU.nd rfl (Or.inl rfl) (@aF _ _ _ _ _ _ _ _ G9 (pv 1) (@gm _ _ _ _ (@aa _ _ _ _ _ ao (@aa _ _ _ _ _ ao aj rfl) rfl))) (by rfl) (by first|exact .inl rfl|exact .inr rfl|assumption)) (@aB _ _ _ _ _ (@aT _ _ (2) _ _ _ _ pU.nd rfl (Or.inl rfl) (@aO _ _ _ _ _ _ _ _ _ _ d8 (hr.mono (by decide)) (@aa _ _ _ _ _ (pv 0) (@aa _ _ _ _ _ ao aj rfl) rfl) (by rfl) (by decide) (by rfl) (by rfl)) (by rfl) (by first|exact .inl rfl|exact .inr rfl|assumption)) (@aD _ _ _ (@aV _ _ _ _ (@zj _ _ _ _ _ _ _ _ (@bu _ _ _ _ _ _ _ _ za (pv 2) ao (bG _)) (@aJ _ _ _ _ _ _ (bI K) aZ (pv 1) (pv 2) (fun _ _=>rfl)) (@aO _ _ _ _ _ _ _ _ _ _ R5 (hr.mono (by decide)) (@aa _ _ _ _ _ (@aF _ _ _ _ _ _ _ _ ez ao (@aO _ _ _ _ _ _ _ _ _ _ d8 (hr.mono (by decide)) (@aa _ _ _ _ _ (pv 0) (@aa _ _ _ _ _ ao aj rfl) rfl) (by rfl) (by decide) (by rfl) (by rfl))) aj rfl) (by rfl) (by decide) (by rfl) (by rfl))))))))),?_⟩
 refine Sv.kR hB hlive hnb hds aC (ρ:=[.aA, .no, .no]) rfl ?_
 clear aC hds
 walk_at "dt"
 intro way w1 w2
 by_cases c:way<20
 ·walk_at "dt"
  obtain⟨m,em,hm1,hm2⟩:=pick (L:=[2,3,5,7,2,11,101,10007,65537,1000003,998244353,1000000007,2147483647,1000000000039,10^Int.toNat 39+3,10^Int.toNat 40-17,2305843009213693951,618970019642690137449562111,162259276829213363391578010288127,170141183460469231731687303715884105727]) (k:=way) w1 (by show _<(20:Int);omega) _ TJ
  refine⟨_,em,?_⟩
  exact q m (RM m hm1) hm2 _
 ·walk_at "dt"
  intro r r1 r2
  walk_at "dt"
  exact fun r' h1 h2=>q r' h1 h2 _
def qW:DF:=fun ds Φ=>∃p a b:Int,ds=[.int p, .int a, .int b]/\d7 p/\p<10^40/\b%p≠0/\ -(10^85)<=a/\a<=10^85/\((∃k,b*sol p b a-a=p*k)->Φ true (.int (sol p b a)))
theorem DA:cJ qW:=by
 intro ds Φ Ψ hm z
 obtain⟨p,a,b,e,h1,h2,h3,h4,h5,q⟩:=hm
 exact⟨p,a,b,e,h1,h2,h3,h4,h5,fun h=>z _ _ (q h)⟩
theorem jk:bM ["p","a","b","old","new","one","two","times"] ["p","a","b"] (az nv):=⟨rfl,rfl,rfl,by decide+kernel,rfl,by decide+kernel,by decide+kernel⟩
theorem Uy(F:bC K "_law_over" "_law_over" nv f fd):
  aY P w K mg base bw 1 f fd ["p","a","b"] (bJ 3 qW):=by
 refine F.ok jk (fun vs H Q E h=>h.1) (fun cdv A outer s H vs Q E hr h=>?_)
 obtain⟨_,nb,ds,hlive,hds,hF⟩:=h
 obtain⟨Φ,aC,hF⟩:∃Φ:Pd,(∀f d v H',Φ f d->bx H H'->ah (fun a=>nb a\/(f=true/\H a≠none)) H' d v->Q v H')/\qW ds Φ:=⟨_,fun f d v H' q=>q v H',hF⟩
 obtain⟨p,a,b,rfl,hp,Ea,hb,a0,a1,q⟩:=hF
 refine⟨_,(@aB _ _ _ _ _ (@iy _ _ _ _ _ _ (@fQ _ _ _ _ _ (@aa _ _ _ _ _ (@aF _ _ _ _ _ _ _ _ fh (pv 2) (pv 0)) (@aa _ _ _ _ _ (pv 0) (@aa _ _ _ _ _ ao (@aa _ _ _ _ _ ao aj rfl) rfl) rfl) rfl)) (@iB _ (K) _ _ _ (4) _ rfl rfl (@bZ _ _ _ _ _ (aK (i:=3) jk.nd rfl (Or.inl rfl)) (@bZ _ _ _ _ _ (aK (i:=4) jk.nd rfl (Or.inl rfl)) (@bZ _ _ _ _ _ (aK (i:=5) jk.nd rfl (Or.inl rfl)) (@bZ _ _ _ _ _ (aK (i:=6) jk.nd rfl (Or.inl rfl)) gF (by rfl)) (by rfl)) (by rfl)) (by rfl)) (by rfl) (by rfl)) (by rfl) (by rfl) (by rfl)) (@aB _ _ _ _ _ (@sF _ _ _ _ _ _ PassesOwn.never (@bu _ _ _ _ _ _ _ _ iS (pv 4) ao (bG _)) (@aB _ _ _ _ _ (@aT _ _ (7) _ _ _ _ jk.nd rfl (Or.inl rfl) (@aF _ _ _ _ _ _ _ _ oq (pv 3) (pv 4)) (by rfl) (by first|exact .inl rfl|exact .inr rfl|assumption)) (@aD _ _ _ (@iy _ _ _ _ _ _ (@fQ _ _ _ _ _ (@aa _ _ _ _ _ (pv 4) (@aa _ _ _ _ _ (@aF _ _ _ _ _ _ _ _ jj (pv 3) (@aF _ _ _ _ _ _ _ _ dO (pv 7) (pv 4))) (@aa _ _ _ _ _ (pv 6) (@aa _ _ _ _ _ (@aF _ _ _ _ _ _ _ _ jj (pv 5) (@aF _ _ _ _ _ _ _ _ dO (pv 7) (pv 6))) aj rfl) rfl) rfl) rfl)) (@iB _ (K) _ _ _ (4) _ rfl rfl (@bZ _ _ _ _ _ (aK (i:=3) jk.nd rfl (Or.inl rfl)) (@bZ _ _ _ _ _ (aK (i:=4) jk.nd rfl (Or.inl rfl)) (@bZ _ _ _ _ _ (aK (i:=5) jk.nd rfl (Or.inl rfl)) (@bZ _ _ _ _ _ (aK (i:=6) jk.nd rfl (Or.inl rfl)) gF (by rfl)) (by rfl)) (by rfl)) (by rfl)) (by rfl) (by rfl)) (by rfl) (by rfl) (by rfl))))) (@aD _ _ _ (@aV _ _ _ _ (@aF _ _ _ _ _ _ _ _ fh (@aF _ _ _ _ _ _ _ _ dO (pv 1) (pv 5)) (pv 0)))))),?_⟩
 refine Sv.fk hlive hds aC (ρ:=[.d false _, .d false _, .d false _, .no, .no, .no, .no, .no]) rfl ?_
 clear aC hds
 have p2:=hp.1
 have m1:=Int.emod_nonneg b (show p≠0 by omega)
 have m2:=Int.emod_lt_of_pos b (show 0<p by omega)
 walk_at "dt"
 show jO _ _ _ _ [PyData.int (b%p), .int p, .int 1, .int 0] _
 walk_at "dt"
 refine Sv.uJ (fun ρ=>∃(L lt r t:Int) (x6:Sl),ρ=[.d false (.int p), .d false (.int a), .d false (.int b), .d true (.int L), .d true (.int r), .d true (.int lt), .d true (.int t),x6]/\(-p<=lt/\lt<=p)/\((L=b%p/\r=p/\lt=1/\t=0)\/Eu p b L lt r t)) (fun ρ:Rh=>match ρ[4]? with|some (Sl.d _ (PyData.int r))=>r.toNat|_=>0) ⟨_,_,_,_,_,rfl,by omega, .inl ⟨rfl,rfl,rfl,rfl⟩⟩ ?_
 rintro ρ ⟨L,lt,r,t,x6,rfl,hlt,hI⟩
 by_cases c:r=0
 ·rcases hI with ⟨_,h,_,_⟩|hE
  ·omega
  subst c
  obtain⟨k,hk⟩:=hE.fin hp hb
  obtain⟨t1,t2⟩:=hE.tb
  have sa:Sm a:=by unfold Sm;omega
  have sl:Sm lt:=by unfold Sm;omega
  walk_at "dt"
  have e:=Int.mul_ediv_add_emod (a*lt) p
  have ef:=Int.mul_ediv_add_emod lt p
  have ex:∃k,b*(a*lt%p)-a=p*k:=⟨a*k+a*(lt/p)*b-a*lt/p*b,by
   generalize a*lt/p=Q1 at*
   generalize a*lt%p=R1 at*
   generalize lt/p=Q2 at*
   generalize lt%p=R2 at*
   have h1:R1=a*lt-p*Q1:=by omega
   have h2:lt=p*Q2+R2:=by omega
   rw[h1]
   have h3:a*(R2*b)=a*(1+p*k):=by rw[hk]
   grind⟩
  have es:=xS (x:=a*lt%p) (a:=a) hp hb (Int.emod_nonneg _ (by omega)) (Int.emod_lt_of_pos _ (by omega)) ex
  rw[es]
  rw[es] at ex
  exact q ex
 ·rcases hI with ⟨rfl,rfl,rfl,rfl⟩|hE
  ·have e0:b%r/r=0:=Int.ediv_eq_zero_of_lt m1 m2
   walk_at "dt"
   show jO _ _ _ _ [PyData.int r, .int (b%r-b%r/r*r), .int 0, .int (1-b%r/r*0)] _
   rw[e0]
   walk_at "dt"
   refine⟨⟨_,_,_,_,_,rfl,by omega, .inr ?_⟩,?_⟩
   ·rw[Int.zero_mul,Int.sub_zero,Int.mul_zero,Int.sub_zero]
    exact Eu.start p2
   ·show(b%r-0*r).toNat<r.toNat
    rw[Int.zero_mul];omega
  ·obtain⟨t1,t2⟩:=hE.tb
   have e1:=hE.l0
   have e2:=hE.r0
   have e3:=hE.lp
   have e4:=hE.rp
   have hr:0<r:=by omega
   have q1:0<=L/r:=Int.ediv_nonneg (by omega) (by omega)
   have q2:L/r<=L:=Int.ediv_le_self _ (by omega)
   obtain⟨N1,N2⟩:=hE.next hr
   walk_at "dt"
   show jO _ _ _ _ [PyData.int r, .int (L-L/r*r), .int t, .int (lt-L/r*t)] _
   walk_at "dt"
   exact⟨⟨_,_,_,_,_,rfl,⟨t1,t2⟩, .inr N1⟩,by show(L-L/r*r).toNat<r.toNat;omega⟩
def t9:DF:=fun ds Φ=>∃(p:Int) (prs:ak) (wd:Wo),ds=[.int p,dg prs,eZ wd]/\0<p/\prs.length<=10000/\jt prs wd.length/\fE wd/\Φ true (.int (aG prs wd%p))
theorem GK:cJ t9:=by
 intro ds Φ Ψ hm z
 obtain⟨p,prs,wd,e,h1,h2,h3,h4,q⟩:=hm
 exact⟨p,prs,wd,e,h1,h2,h3,h4,z _ _ q⟩
theorem RC:bM ["p","pairs","word"] ["p","pairs","word"] (az lX):=⟨rfl,rfl,rfl,by decide+kernel,rfl,by decide+kernel,by decide+kernel⟩
theorem PZ(F:bC K "_law_sum" "_law_sum" lX f fd)(zU:mg "sum"=none):
    aY P w K mg base bw 1 f fd ["p","pairs","word"] (bJ 3 t9):=by
  refine F.ok RC (fun vs H Q E h=>h.1) (fun cdv A outer s H vs Q E hr h=>?_)
  obtain⟨_,nb,ds,hlive,hds,hF⟩:=h
  obtain⟨Φ,aC,hF⟩:∃Φ:Pd,(∀f d v H',Φ f d->bx H H'->ah (fun a=>nb a\/(f=true/\H a≠none)) H' d v->Q v H')/\t9 ds Φ:=⟨_,fun f d v H' q=>q v H',hF⟩
  obtain⟨p,prs,wd,rfl,hp,hl,h1,h2,q⟩:=hF
  refine⟨_,(@aD _ _ _ (@aV _ _ _ _ (@aF _ _ _ _ _ _ _ _ fh (@bT _ _ _ _ _ _ _ _ (wI K) (U9 rfl) rfl zU PyProof.Rows.boot_sum (@aa _ _ _ _ _ (dH (bQ.of (show cy (az lX) ["p","pairs","word"] _ ["place","factor","word"] [none,none,some 2]=true by decide+kernel)) (cN (K:=K) rfl (pv 1)) (fun _ _ _ _=>⟨(@iB _ (K) _ _ _ (2) _ rfl rfl (@bZ _ _ _ _ _ (aK (i:=0) (by show List.Nodup (["place","factor","word"]:List Str);decide+kernel) rfl (Or.inl rfl)) (@bZ _ _ _ _ _ (aK (i:=1) (by show List.Nodup (["place","factor","word"]:List Str);decide+kernel) rfl (Or.inl rfl)) gF (by rfl)) (by rfl)) (by rfl) (by rfl)),(g6 (@bu _ _ _ _ _ _ _ _ vQ (@aJ _ _ _ _ _ _ (bI K) aZ (pv 2) (pv 0) (fun _ _=>rfl)) iX (bG _))),(@aF _ _ _ _ _ _ _ _ dO (pv 1) (@aJ _ _ _ _ _ _ (bI K) aZ (pv 2) (pv 0) (fun _ _=>rfl)))⟩)) aj rfl) (by decide) (by decide) (by rfl) (by rfl)) (pv 0)))),?_⟩
  refine Sv.fk hlive hds aC (ρ:=[.d false _, .d false _, .d false _]) rfl ?_
  clear aC hds
  walk_at "dt"
  refine ay.ev (ay.fT (by decide) rfl ?_)
  walk_at "dt"
  refine⟨by rw[List.length_map];exact hl,fun v=>⟨false,fun i ds=>∃ns:List Int,ds=ns.map .int/\ns.sum=aG (prs.take i) wd,⟨[],rfl,by simp[aG]⟩,?_,?_⟩⟩
  · rintro i d ds hd hl' ⟨ns,rfl,hs⟩
    obtain⟨pr,bz,rfl⟩:=cW hd
    obtain⟨g1,g2,g3⟩:=h1 pr (List.mem_of_getElem? bz)
    obtain⟨o,ho,hat⟩:=nO (xs:=wd) cM g1 g2 rfl
    have hi:i<prs.length:=(List.getElem?_eq_some_iff.mp bz).1
    have mK:=Gd (wd:=wd) hi
    have Q9:prs[i]=pr:=(List.getElem?_eq_some_iff.mp bz).2
    rw[Q9] at mK
    walk_at "dt"
    refine⟨by walk_at "wk",?_⟩
    walk_at "dt"
    rw[wz]
    cases o with
    | none =>
      walk_at "dt"
      refine⟨ns,rfl,?_⟩
      rw[mK,hs]
      unfold eO
      rw[ho];simp
    | some x =>
      have hx:Sm x:=h2 x (List.mem_of_getElem? ho)
      have aaX:bB (wd.map cM) pr.1=some (.int x):=hat
      walk_at "dt"
      refine⟨ns++[pr.2*x],by simp,?_⟩
      rw[mK,List.sum_append,hs]
      unfold eO
      rw[ho];simp
  · rintro ds hl' ⟨ns,rfl,hs⟩
    rw[List.length_map,List.take_length] at hs
    refine⟨ns,rfl,?_⟩
    rw[hs]
    walk_at "dt"
    exact q
def oE:DF:=fun ds Φ=>∃p:Int,ds=[.int p]/\2<=p/\p<10^40/\∀x:Int,0<=x->x<p->Φ true (.int x)
theorem qY:cJ oE:=by
 intro ds Φ Ψ hm z
 obtain⟨p,e,h1,h2,q⟩:=hm
 exact⟨p,e,h1,h2,fun x a b=>z _ _ (q x a b)⟩
theorem MP:bM ["bag","p"] ["bag","p"] (az nR):=⟨rfl,rfl,rfl,by decide+kernel,rfl,by decide+kernel,by decide+kernel⟩
theorem Ot(F:bC K "_law_letter" "_law_letter" nR f fd)(d8:Callee P w K mg base "_law_draw" 1 ["bag","many"] jg):
  aY P w K mg base bw 2 f fd ["bag","p"] (eB 2 oE):=by
 refine F.ok MP (fun vs H Q E h=>h.1) (fun cdv A outer s H vs Q E hr h=>?_)
 obtain⟨_,b,l,ws,nb,ds,rfl,hB,hlive,hnb,hds,hF⟩:=h
 obtain⟨Φ,aC,hF⟩:∃Φ:Pd,(∀f d v H',Φ f d->aP (Nb b) H H'->cG H' b l->ah (fun a=>nb a\/(f=true/\H a≠none)) H' d v->Q v H')/\oE ds Φ:=⟨_,fun f d v H' q=>q v H',hF⟩
 obtain⟨p,rfl,p2,dU,q⟩:=hF
 refine⟨_,(@aD _ _ _ (@aV _ _ _ _ (@aF _ _ _ _ _ _ _ _ fh (@aF _ _ _ _ _ _ _ _ dO (@aO _ _ _ _ _ _ _ _ _ _ d8 (hr.mono (by decide)) (@aa _ _ _ _ _ (pv 0) (@aa _ _ _ _ _ (pv 1) aj rfl) rfl) (by rfl) (by decide) (by rfl) (by rfl)) (@aF _ _ _ _ _ _ _ _ ez (@aF _ _ _ _ _ _ _ _ oq (pv 1) ao) ao)) (pv 1)))),?_⟩
 refine Sv.kR hB hlive hnb hds aC (ρ:=[.aA, .d false _]) rfl ?_
 clear aC hds
 walk_at "dt"
 intro r r1 r2
 have h1:0<=r*(p/3+1):=Int.mul_nonneg r1 (by omega)
 have h2:r*(p/3+1)<=10^40*10^40:=Int.mul_le_mul (by omega) (by omega) (by omega) (by omega)
 walk_at "dt"
 exact q _ (Int.emod_nonneg _ (by omega)) (Int.emod_lt_of_pos _ (by omega))
def ur:DF:=fun ds Φ=>∃p:Int,ds=[.int p]/\d7 p/\p<10^40/\∀x:Int,0<x->x<p->Φ true (.int x)
theorem Vs:cJ ur:=by
 intro ds Φ Ψ hm z
 obtain⟨p,e,h1,h2,q⟩:=hm
 exact⟨p,e,h1,h2,fun x a b=>z _ _ (q x a b)⟩
theorem M3{p a b:Int}(hp:d7 p)(h:p∣a*b):p∣a\/p∣b:=by
 by_cases ha:p∣a
 ·exact .inl ha
 ·right
  have hg:Int.gcd p a=1:=by
   have d1:(Int.gcd p a:Int)∣p:=Int.gcd_dvd_left ..
   have d2:(Int.gcd p a:Int)∣a:=Int.gcd_dvd_right ..
   have h0:0<(Int.gcd p a:Int):=by
    have:Int.gcd p a≠0:=fun z=>by have:=(Int.gcd_eq_zero_iff.mp z).1;have:=hp.1;omega
    omega
   rcases hp.2 _ h0 d1 with e|e
   ·exact_mod_cast e
   ·rw[e] at d2;exact absurd d2 ha
  have h':p.natAbs∣a.natAbs*b.natAbs:=by rw[<-Int.natAbs_mul];exact Int.natAbs_dvd_natAbs.mpr h
  have c:Nat.Coprime p.natAbs a.natAbs:=hg
  exact Int.natAbs_dvd_natAbs.mp (c.dvd_of_dvd_mul_left h')
theorem Nn:bM ["bag","p"] ["bag","p"] (az mL):=⟨rfl,rfl,rfl,by decide+kernel,rfl,by decide+kernel,by decide+kernel⟩
theorem TX(F:bC K "_law_factor" "_law_factor" mL f fd)(d8:Callee P w K mg base "_law_draw" 1 ["bag","many"] jg):
  aY P w K mg base bw 2 f fd ["bag","p"] (eB 2 ur):=by
 refine F.ok Nn (fun vs H Q E h=>h.1) (fun cdv A outer s H vs Q E hr h=>?_)
 obtain⟨_,b,l,ws,nb,ds,rfl,hB,hlive,hnb,hds,hF⟩:=h
 obtain⟨Φ,aC,hF⟩:∃Φ:Pd,(∀f d v H',Φ f d->aP (Nb b) H H'->cG H' b l->ah (fun a=>nb a\/(f=true/\H a≠none)) H' d v->Q v H')/\ur ds Φ:=⟨_,fun f d v H' q=>q v H',hF⟩
 obtain⟨p,rfl,hp,dU,q⟩:=hF
 refine⟨_,(@aD _ _ _ (@aV _ _ _ _ (@aF _ _ _ _ _ _ _ _ fh (@aF _ _ _ _ _ _ _ _ dO (@aF _ _ _ _ _ _ _ _ ez ao (@aO _ _ _ _ _ _ _ _ _ _ d8 (hr.mono (by decide)) (@aa _ _ _ _ _ (pv 0) (@aa _ _ _ _ _ (@aF _ _ _ _ _ _ _ _ jj (pv 1) ao) aj rfl) rfl) (by rfl) (by decide) (by rfl) (by rfl))) (@aF _ _ _ _ _ _ _ _ ez (@aF _ _ _ _ _ _ _ _ oq (pv 1) ao) ao)) (pv 1)))),?_⟩
 refine Sv.kR hB hlive hnb hds aC (ρ:=[.aA, .d false _]) rfl ?_
 clear aC hds
 have p2:=hp.1
 walk_at "dt"
 intro r r1 r2
 walk_at "dt"
 refine q _ ?_ (Int.emod_lt_of_pos _ (by omega))
 have h0:=Int.emod_nonneg ((1+r)*(p/3+1)) (show p≠0 by omega)
 have hne:(1+r)*(p/3+1)%p≠0:=fun e=>by
  rcases M3 hp (Int.dvd_of_emod_eq_zero e) with h|h
  ·have:=Int.le_of_dvd (by omega) h;omega
  ·have:=Int.le_of_dvd (by omega) h;omega
 omega
def qE:DF:=fun ds Φ=>∃p n:Int,ds=[.int p, .int n]/\2<=p/\p<10^40/\0<=n/\n<=10000/\∀os:List Int,(os.length:Int)=n->(∀x∈os,0<=x/\x<p)->Φ true (.list (os.map .int))
theorem HM:cJ qE:=by
 intro ds Φ Ψ hm z
 obtain⟨p,n,e,h1,h2,h3,h4,q⟩:=hm
 exact⟨p,n,e,h1,h2,h3,h4,fun os a b=>z _ _ (q os a b)⟩
theorem EA:bM ["bag","p","n","way"] ["bag","p","n"] (az jA):=⟨rfl,rfl,rfl,by decide+kernel,rfl,by decide+kernel,by decide+kernel⟩
theorem ZX(F:bC K "_law_letters" "_law_letters" jA f fd)(d8:Callee P w K mg base "_law_draw" 1 ["bag","many"] jg)(o9:Callee P w K mg base "_law_letter" 2 ["bag","p"] (eB 2 oE))(bO:mg "range"=none)(jo:mg "int"=none)(zm:mg "min"=none):
  aY P w K mg base bw 3 f fd ["bag","p","n"] (eB 3 qE):=by
 refine F.ok EA (fun vs H Q E h=>h.1) (fun cdv A outer s H vs Q E hr h=>?_)
 obtain⟨_,b,l,ws,nb,ds,rfl,hB,hlive,hnb,hds,hF⟩:=h
 obtain⟨Φ,aC,hF⟩:∃Φ:Pd,(∀f d v H',Φ f d->aP (Nb b) H H'->cG H' b l->ah (fun a=>nb a\/(f=true/\H a≠none)) H' d v->Q v H')/\qE ds Φ:=⟨_,fun f d v H' q=>q v H',hF⟩
 obtain⟨p,n,rfl,p2,dU,n0,n1,q⟩:=hF
 refine⟨_,(@aB _ _ _ _ _ (@aT _ _ (3) _ _ _ _ EA.nd rfl (Or.inl rfl) (@aO _ _ _ _ _ _ _ _ _ _ d8 (hr.mono (by decide)) (@aa _ _ _ _ _ (pv 0) (@aa _ _ _ _ _ ao aj rfl) rfl) (by rfl) (by decide) (by rfl) (by rfl)) (by rfl) (by first|exact .inl rfl|exact .inr rfl|assumption)) (@aB _ _ _ _ _ (@cV _ _ _ _ _ _ _ _ (@bu _ _ _ _ _ _ _ _ fP (pv 3) ao (bG _)) (@aD _ _ _ (@aV _ _ _ _ (dH (bQ.of (show cy (az jA) ["bag","p","n","way"] _ ["k","bag","p"] [none,some 0,some 1]=true by decide+kernel)) (@gz _ _ _ _ _ _ rfl bO (@aa _ _ _ _ _ (pv 2) aj rfl) (by rfl)) (fun _ _ _ _=>⟨(aK (i:=0) (by show List.Nodup (["k","bag","p"]:List Str);decide+kernel) rfl (Or.inl rfl)),eG,(@aF _ _ _ _ _ _ _ _ dO (@aO _ _ _ _ _ _ _ _ _ _ o9 (hr.mono (by decide)) (@aa _ _ _ _ _ (pv 1) (@aa _ _ _ _ _ (pv 2) aj rfl) rfl) (by rfl) (by decide) (by rfl) (by rfl)) (@gy _ _ _ _ _ _ _ _ _ YJ rfl jo PyProof.Rows.boot_int (@aa _ _ _ _ _ (@qg _ _ _ _ _ _ _ _ fP (@aO _ _ _ _ _ _ _ _ _ _ d8 (hr.mono (by decide)) (@aa _ _ _ _ _ (pv 1) (@aa _ _ _ _ _ ao aj rfl) rfl) (by rfl) (by decide) (by rfl) (by rfl)) ao (bG _)) aj rfl) (by decide) (by decide) (by rfl) (by rfl)))⟩)))) cX) (@aB _ _ _ _ _ (@cV _ _ _ _ _ _ _ _ (@bu _ _ _ _ _ _ _ _ fP (pv 3) ao (bG _)) (@aD _ _ _ (@aV _ _ _ _ (dH (bQ.of (show cy (az jA) ["bag","p","n","way"] _ ["k","bag","p"] [none,some 0,some 1]=true by decide+kernel)) (@gz _ _ _ _ _ _ rfl bO (@aa _ _ _ _ _ (pv 2) aj rfl) (by rfl)) (fun _ _ _ _=>⟨(aK (i:=0) (by show List.Nodup (["k","bag","p"]:List Str);decide+kernel) rfl (Or.inl rfl)),eG,(@aO _ _ _ _ _ _ _ _ _ _ d8 (hr.mono (by decide)) (@aa _ _ _ _ _ (pv 1) (@aa _ _ _ _ _ (@bT _ _ _ _ _ _ _ _ _ (Zo rfl) rfl zm PyProof.Rows.boot_min (@aa _ _ _ _ _ (pv 2) (@aa _ _ _ _ _ ao aj rfl) rfl) (by decide) (by decide) (by rfl) (by rfl)) aj rfl) rfl) (by rfl) (by decide) (by rfl) (by rfl))⟩)))) cX) (@aD _ _ _ (@aV _ _ _ _ (dH (bQ.of (show cy (az jA) ["bag","p","n","way"] _ ["k","bag","p"] [none,some 0,some 1]=true by decide+kernel)) (@gz _ _ _ _ _ _ rfl bO (@aa _ _ _ _ _ (pv 2) aj rfl) (by rfl)) (fun _ _ _ _=>⟨(aK (i:=0) (by show List.Nodup (["k","bag","p"]:List Str);decide+kernel) rfl (Or.inl rfl)),eG,(@aO _ _ _ _ _ _ _ _ _ _ o9 (hr.mono (by decide)) (@aa _ _ _ _ _ (pv 1) (@aa _ _ _ _ _ (pv 2) aj rfl) rfl) (by rfl) (by decide) (by rfl) (by rfl))⟩))))))),?_⟩
 refine Sv.kR hB hlive hnb hds aC (ρ:=[.aA, .d false _, .d false _, .no]) rfl ?_
 clear aC hds
 walk_at "dt"
 intro way w1 w2
 by_cases c:way=2
 ·walk_at "dt"
  refine ay.ev (ay.ig (by decide) rfl ?_)
  walk_at "dt"
  refine fY.ints (fun x=>0<=x/\x<p) ?_ fun os jv hos=>q os (by omega) hos
  rintro i d ⟨hi,rfl⟩
  walk_at "dt"
  refine⟨by walk_at "wk",?_⟩
  walk_at "dt"
  refine Ev.gZ qY rfl ?_
  walk_at "dt"
  refine⟨rfl,p,rfl,p2,dU,fun r r1 r2=>?_⟩
  walk_at "dt"
  intro s s1 s2
  by_cases c2:s=3
  ·walk_at "dt"
   rw[decide_eq_true c2]
   exact⟨by simp;omega,by simp;omega⟩
  ·walk_at "dt"
   rw[decide_eq_false c2]
   exact⟨by simp,by simp;omega⟩
 by_cases c3:way=1
 ·walk_at "dt"
  refine ay.ev (ay.ig (by decide) rfl ?_)
  walk_at "dt"
  refine fY.ints (fun x=>0<=x/\x<p) ?_ fun os jv hos=>q os (by omega) hos
  rintro i d ⟨hi,rfl⟩
  walk_at "dt"
  refine⟨by walk_at "wk",?_⟩
  walk_at "dt"
  intro r r1 r2
  refine⟨r,rfl,r1,?_⟩
  split at r2<;>omega
 ·walk_at "dt"
  refine ay.ev (ay.ig (by decide) rfl ?_)
  walk_at "dt"
  refine fY.ints (fun x=>0<=x/\x<p) ?_ fun os jv hos=>q os (by omega) hos
  rintro i d ⟨hi,rfl⟩
  walk_at "dt"
  refine⟨by walk_at "wk",?_⟩
  walk_at "dt"
  refine Ev.gZ qY rfl ?_
  walk_at "dt"
  exact⟨rfl,p,rfl,p2,dU,fun r r1 r2=>⟨r,rfl,r1,r2⟩⟩
def sX:DF:=fun ds Φ=>∃n wide:Int,ds=[.int n, .int wide]/\1<=n/\n<=420/\1<=wide/\wide<=60/\∀rs:List Int,rs≠[]->rs.length<=420->rs.Nodup->(∀x∈rs,0<=x/\x<n)->Φ true (.list (rs.map .int))
theorem O3:cJ sX:=by
 intro ds Φ Ψ hm z
 obtain⟨n,wide,e,h1,h2,h3,h4,q⟩:=hm
 exact⟨n,wide,e,h1,h2,h3,h4,fun rs a b c d=>z _ _ (q rs a b c d)⟩
theorem Pa:bM ["bag","n","wide"] ["bag","n","wide"] (az kZ):=⟨rfl,rfl,rfl,by decide+kernel,rfl,by decide+kernel,by decide+kernel⟩
theorem Og(F:bC K "_law_places" "_law_places" kZ f fd)(d8:Callee P w K mg base "_law_draw" 1 ["bag","many"] jg)(iW:mg "sorted"=none)(cB:mg "list"=none)(yC:mg "set"=none)(bO:mg "range"=none):
  aY P w K mg base bw 2 f fd ["bag","n","wide"] (eB 3 sX):=by
 refine F.ok Pa (fun vs H Q E h=>h.1) (fun cdv A outer s H vs Q E hr h=>?_)
 obtain⟨_,b,l,ws,nb,ds,rfl,hB,hlive,hnb,hds,hF⟩:=h
 obtain⟨Φ,aC,hF⟩:∃Φ:Pd,(∀f d v H',Φ f d->aP (Nb b) H H'->cG H' b l->ah (fun a=>nb a\/(f=true/\H a≠none)) H' d v->Q v H')/\sX ds Φ:=⟨_,fun f d v H' q=>q v H',hF⟩
 obtain⟨n,wide,rfl,n0,n1,w0,w1,q⟩:=hF
 refine⟨_,(@aB _ _ _ _ _ (@cV _ _ _ _ _ _ _ _ (PW.pt (sr (@bu _ _ _ _ _ _ _ _ E5 (pv 1) ao (bG _)) (r6 (@bu _ _ _ _ _ _ _ _ fP (@aO _ _ _ _ _ _ _ _ _ _ d8 (hr.mono (by decide)) (@aa _ _ _ _ _ (pv 0) (@aa _ _ _ _ _ ao aj rfl) rfl) (by rfl) (by decide) (by rfl) (by rfl)) ao (bG _))))) (@aD _ _ _ (@aV _ _ _ _ (@gy _ _ _ _ _ _ _ _ _ (M9 rfl) rfl cB PyProof.Rows.boot_list (@aa _ _ _ _ _ (@gy _ _ _ _ _ _ _ _ _ KD rfl bO PyProof.Rows.boot_range (@aa _ _ _ _ _ (pv 1) aj rfl) (by decide) (by decide) (by rfl) (by rfl)) aj rfl) (by decide) (by decide) (by rfl) (by rfl)))) cX) (@aD _ _ _ (@aV _ _ _ _ (@bT _ _ _ _ _ _ _ _ (tX P w) (YX rfl) rfl iW PyProof.Rows.boot_sorted (@aa _ _ _ _ _ (@gy _ _ _ _ _ _ _ _ (ug P w K) (Rj rfl) rfl yC PyProof.Rows.boot_set (@aa _ _ _ _ _ (dH (bQ.of (show cy (az kZ) ["bag","n","wide"] _ ["k","bag","n"] [none,some 0,some 1]=true by decide+kernel)) (@gz _ _ _ _ _ _ rfl bO (@aa _ _ _ _ _ (@aF _ _ _ _ _ _ _ _ ez ao (@aO _ _ _ _ _ _ _ _ _ _ d8 (hr.mono (by decide)) (@aa _ _ _ _ _ (pv 0) (@aa _ _ _ _ _ (pv 2) aj rfl) rfl) (by rfl) (by decide) (by rfl) (by rfl))) aj rfl) (by rfl)) (fun _ _ _ _=>⟨(aK (i:=0) (by show List.Nodup (["k","bag","n"]:List Str);decide+kernel) rfl (Or.inl rfl)),eG,(@aO _ _ _ _ _ _ _ _ _ _ d8 (hr.mono (by decide)) (@aa _ _ _ _ _ (pv 1) (@aa _ _ _ _ _ (pv 2) aj rfl) rfl) (by rfl) (by decide) (by rfl) (by rfl))⟩)) aj rfl) (by decide) (by decide) (by rfl) (by rfl)) aj rfl) (by decide) (by decide) (by rfl) (by rfl))))),?_⟩
 refine Sv.kR hB hlive hnb hds aC (ρ:=[.aA, .d false _, .d false _]) rfl ?_
 clear aC hds
 have main:Ev {B:=some (b,l),H0:=H,A:=nb} [Sl.aA,Sl.d false (PyData.int n),Sl.d false (PyData.int wide)]
          (dw (tX P w)
           (aS
            (dw (ug P w K)
             (aS
              (jE
               (o5
                (aS
                 (bX (fX fun i j => V.int (i + j)) (tC (V.int 1))
                  (eS jg [] E0 (aS (bq 0) (aS (bq 2) bh))))
                 bh))
               (dW 0) kX (eS jg [] E0 (aS (bq 1) (aS (bq 2) bh)))
               [none,some 0,some 1])
              bh))
            bh)) Φ:=by
  refine ay.ev (ay.Yd (ay.ev (ay.ig (by decide) rfl ?_)))
  walk_at "dt"
  intro m0 m1 m2
  walk_at "dt"
  refine fY.ints (fun x=>0<=x/\x<n) ?_ fun os jv hos=>⟨os,rfl,by omega,fun rs hrs hmem=>?_⟩
  ·rintro i d ⟨hi,rfl⟩
   walk_at "dt"
   refine⟨by walk_at "wk",?_⟩
   walk_at "dt"
   exact fun r r1 r2=>⟨r,rfl,r1,r2⟩
  have hrl:0<rs.length:=by
   have:0<os.length:=by omega
   obtain⟨y,hy⟩:=List.exists_mem_of_length_pos this
   exact List.length_pos_of_mem ((hmem y).mpr hy)
  have aax:rs.length<=os.length:=List.Nodup.length_le_of_subset (hrs.imp fun h=>by omega) fun k hk=>(hmem k).mp hk
  exact q rs (fun z=>by rw[z] at hrl;simp at hrl) (by omega) (hrs.imp fun h=>by omega) fun x hx=>hos x ((hmem x).mp hx)
 walk_at "dt"
 by_cases c:n<=20
 ·rw[if_pos (decide_eq_true c)]
  walk_at "dt"
  intro r r1 r2
  by_cases c2:r=15
  ·walk_at "dt"
   refine ay.ev (ay.ON ?_)
   walk_at "dt"
   refine q _ ?_ ?_ ?_ ?_
   ·intro z
    have:=congrArg List.length z
    simp at this
    omega
   ·simp;omega
   ·rw[List.nodup_iff_pairwise_ne,List.pairwise_map]
    exact List.pairwise_lt_range.imp fun h=>by omega
   ·intro x hx
    obtain⟨i,hi,rfl⟩:=List.mem_map.mp hx
    have:=List.mem_range.mp hi
    omega
  ·walk_at "dt"
   exact main
 ·rw[if_neg (by simpa using c)]
  walk_at "dt"
  exact main
def qD:DF:=fun ds Φ=>∃(cs:List ak) (ai:List Int),ds=[.list (cs.map dg), .list (ai.map .int)]/\ai.Pairwise (· < ·)/\ai.length<64/\(∀prs∈cs,prs.length<=10000)/\∀g:List Int,gY cs ai g->Φ true (.list (g.map .int))
theorem Th:cJ qD:=by
 intro ds Φ Ψ hm z
 obtain⟨cs,ai,e,h1,h2,h3,q⟩:=hm
 exact⟨cs,ai,e,h1,h2,h3,fun g a=>z _ _ (q g a)⟩
theorem Kd{S:List Int}{x:Int}(h:x∉S):gH (bA S) x (.bool true)=bA (S++[x]):=by
 unfold gH
 rw[j3,if_neg (by simpa using h)]
 unfold bA
 rw[List.map_append];rfl
theorem kI:bM ["checks","lot","left","place","k","many","pairs","here"] ["checks","lot"] (az lQ):=⟨rfl,rfl,rfl,by decide+kernel,rfl,by decide+kernel,by decide+kernel⟩
theorem Nc(F:bC K "_law_peeled" "_law_peeled" lQ f fd)(bO:mg "range"=none)(iW:mg "sorted"=none)(bR:mg "len"=none):
  aY P w K mg base bw 1 f fd ["checks","lot"] (bJ 2 qD):=by
 refine F.ok kI (fun vs H Q E h=>h.1) (fun cdv A outer s H vs Q E hr h=>?_)
 obtain⟨_,nb,ds,hlive,hds,hF⟩:=h
 obtain⟨Φ,aC,hF⟩:∃Φ:Pd,(∀f d v H',Φ f d->bx H H'->ah (fun a=>nb a\/(f=true/\H a≠none)) H' d v->Q v H')/\qD ds Φ:=⟨_,fun f d v H' q=>q v H',hF⟩
 obtain⟨cs,ai,rfl,hup,aa6,hpl,q⟩:=hF
 refine⟨_,(@aB _ _ _ _ _ (@aT _ _ (2) _ _ _ _ kI.nd rfl (Or.inr rfl) zq (by rfl) (by first|exact .inl rfl|exact .inr rfl|assumption)) (@aB _ _ _ _ _ (@fM _ _ _ _ _ _ _ _ PassesOwn.never rfl (cN (K:=K) rfl (pv 1)) (aK (i:=3) kI.nd rfl (Or.inl rfl)) (@aD _ _ _ (@iy _ _ _ _ _ _ gf (jy (pv 2) (pv 3) set_dict) (by rfl) (by rfl) (by rfl))) (by intro _;rfl)) (@aB _ _ _ _ _ (@fM _ _ _ _ _ _ _ _ PassesOwn.never rfl (@gz _ _ _ _ _ _ rfl bO (@aa _ _ _ _ _ (@bT _ _ _ _ _ _ _ _ (gk K) ia rfl bR PySem.boot_len (@aa _ _ _ _ _ (pv 1) aj rfl) (by decide) (by decide) (by rfl) (by rfl)) aj rfl) (by rfl)) (aK (i:=4) kI.nd rfl (Or.inl rfl)) (@aB _ _ _ _ _ (@aT _ _ (5) _ _ _ _ kI.nd rfl (Or.inl rfl) (@bT _ _ _ _ _ _ _ _ (tU) Di rfl bR PySem.boot_len (@aa _ _ _ _ _ (pv 2) aj rfl) (by decide) (by decide) (by rfl) (by rfl)) (by rfl) (by first|exact .inl rfl|exact .inr rfl|assumption)) (@aB _ _ _ _ _ (@fM _ _ _ _ _ _ _ _ PassesOwn.never rfl (cN (K:=K) rfl (pv 0)) (aK (i:=6) kI.nd rfl (Or.inl rfl)) (@aB _ _ _ _ _ (kq (i:=7) kI.nd rfl rfl (bQ.of (show cy (az lQ) ["checks","lot","left","place","k","many","pairs","here"] _ ["place","factor","left"] [none,none,some 2]=true by decide+kernel)) (cN (K:=K) rfl (pv 6)) (fun _ _ _ _=>⟨(@iB _ (K) _ _ _ (2) _ rfl rfl (@bZ _ _ _ _ _ (aK (i:=0) (by show List.Nodup (["place","factor","left"]:List Str);decide+kernel) rfl (Or.inl rfl)) (@bZ _ _ _ _ _ (aK (i:=1) (by show List.Nodup (["place","factor","left"]:List Str);decide+kernel) rfl (Or.inl rfl)) gF (by rfl)) (by rfl)) (by rfl) (by rfl)),(g6 (@bu _ _ _ _ _ _ _ _ (vA hr.units) (pv 0) (pv 2) (by with_unfolding_all rfl))),(pv 0)⟩)) (@aD _ _ _ (@cV _ _ _ _ _ _ _ _ (@bu _ _ _ _ _ _ _ _ fP (@bT _ _ _ _ _ _ _ _ (gk K) ia rfl bR PySem.boot_len (@aa _ _ _ _ _ (pv 7) aj rfl) (by decide) (by decide) (by rfl) (by rfl)) ao (bG _)) (@aD _ _ _ (@kU _ _ _ _ (j7 PySem.F.plainAttrs_dict PySem.F.slot_dict_pop PySem.F.type_dict_pop Iu (pv 2) (@aa _ _ _ _ _ (@aJ _ _ _ _ _ _ (bI K) aZ (pv 7) ao (fun _ _=>rfl)) aj rfl)) (by rfl))) cX))) (by intro _;rfl)) (@aD _ _ _ (@cV _ _ _ _ _ _ _ _ (@bu _ _ _ _ _ _ _ _ fP (@bT _ _ _ _ _ _ _ _ (tU) Di rfl bR PySem.boot_len (@aa _ _ _ _ _ (pv 2) aj rfl) (by decide) (by decide) (by rfl) (by rfl)) (pv 5) (bG _)) (@aD _ _ _ (@aV _ _ _ _ (@bT _ _ _ _ _ _ _ _ (nP) (vO rfl) rfl iW PyProof.Rows.boot_sorted (@aa _ _ _ _ _ (pv 2) aj rfl) (by decide) (by decide) (by rfl) (by rfl)))) cX)))) (by intro _;rfl)) (@aD _ _ _ (@aV _ _ _ _ (@bT _ _ _ _ _ _ _ _ (nP) (vO rfl) rfl iW PyProof.Rows.boot_sorted (@aa _ _ _ _ _ (pv 2) aj rfl) (by decide) (by decide) (by rfl) (by rfl))))))),?_⟩
 refine Sv.fk hlive hds aC (ρ:=[.d false _, .d false _, .no, .no, .no, .no, .no, .no]) rfl ?_
 clear aC hds
 have hnd:ai.Nodup:=hup.imp fun h=>by omega
 have jZ:(ai.map PyData.int).length=ai.length:=List.length_map ..
 refine Sv.seq ?_
 refine Sv.qQ (jG.new ?_)
 intro A2
 refine Sv.seq ?_
 refine Sv.forL ?_
 walk_at "dt"
 refine fun v1=>⟨fun i ρ=>∃(f:Bool) (x3 x4 x5 x6 x7:Sl),ρ=[.d false (.list (cs.map dg)), .d false (.list (ai.map .int)), .aX A2 f (bA (ai.take i)),x3,x4,x5,x6,x7],⟨_,_,_,_,_,_,rfl⟩,?_,?_⟩
 ·rintro i d ρ hd ⟨f,x3,x4,x5,x6,x7,rfl⟩
  obtain⟨x,hx,rfl⟩:=cW hd
  have hil:=(List.getElem?_eq_some_iff.mp hx).1
  have hxn:x∉ai.take i:=fun z=>by
   have h1:=hnd
   obtain⟨k,hk⟩:=List.getElem?_of_mem z
   have hki:k<i:=by have:=(List.getElem?_eq_some_iff.mp hk).1;rw[List.length_take] at this;omega
   rw[List.getElem?_take_of_lt hki] at hk
   obtain⟨l1,e1⟩:=List.getElem?_eq_some_iff.mp hk
   obtain⟨l2,e2⟩:=List.getElem?_eq_some_iff.mp hx
   have:=(List.getElem_inj h1).mp (e1.trans e2.symm)
   omega
  refine Gv.je ?_
  refine Sv.uz rfl ?_
  walk_at "dt"
  refine⟨by unfold bA;rw[List.length_map,List.length_take];omega,?_⟩
  rw[Kd hxn,<-take_snoc hx]
  exact⟨_,_,_,_,_,_,rfl⟩
 rintro ρ ⟨f,x3,x4,x5,x6,x7,rfl⟩
 rw[jZ,List.take_length]
 have fin:∀(S:List Int) (f:Bool) (x3 x4 x5 x6 x7:Sl),(∃q:Int->Bool,S=ai.filter q)->gY cs ai S->ay {B:=none,H0:=H,A:=nb} [.d false (.list (cs.map dg)), .d false (.list (ai.map .int)), .aX A2 f (bA S),x3,x4,x5,x6,x7] (dw nP (aS (bq 2) bh)) (fun f ds=>Φ f (.list ds)):=fun S f x3 x4 x5 x6 x7 hq hG=>by
  have hSl:S.length<=ai.length:=by obtain⟨qq,e⟩:=hq;rw[e];exact List.length_filter_le _ _
  refine ay.DO rfl (by unfold bA;rw[List.length_map];omega) fun rs hs hp=>?_
  have e:(bA S).map (·.1)=S:=by unfold bA;rw[List.map_map];exact List.map_id'' (fun _=>rfl) S
  rw[e] at hp
  rw[Ys (hG.up hup) hs hp]
  exact q S hG
 refine Sv.seq ?_
 refine Sv.HH ?_
 walk_at "dt"
 refine⟨fun t ρ=>∃(S:List Int) (f:Bool) (x3 x4 x5 x6 x7:Sl),((∃q:Int->Bool,S=ai.filter q)/\S.length+t<=ai.length/\∀T:List Int,(∀x∈T,x∈ai)->dI cs T=true->∀x∈T,x∈S)/\ρ=[.d false (.list (cs.map dg)), .d false (.list (ai.map .int)), .aX A2 f (bA S),x3,x4,x5,x6,x7],⟨ai,_,_,_,_,_,_,⟨⟨fun _=>true,(List.filter_eq_self.mpr fun _ _=>rfl).symm⟩,Nat.le_refl _,fun T hT _=>hT⟩,rfl⟩,?_,?_⟩
 ·rintro t d ρ ⟨ht,rfl⟩ ⟨S0,f,x3,x4,x5,x6,x7,⟨hS1,hS2,hS3⟩,rfl⟩
  refine Gv.je ?_
  refine Sv.seq ?_
  refine Sv.asg ?_
  refine Ev.Ey rfl ?_
  refine Gv.je ?_
  have hsl:(bA S0).length=S0.length:=by unfold bA;rw[List.length_map]
  rw[hsl]
  refine Sv.seq ?_
  refine Sv.forL ?_
  walk_at "dt"
  refine fun v2=>⟨fun i ρ=>∃(S:List Int) (f:Bool) (x6 x7:Sl),((∃q:Int->Bool,S=ai.filter q)/\S.length<=S0.length/\(S.length=S0.length->∀prs∈cs.take i,br S prs≠1)/\∀T:List Int,(∀x∈T,x∈ai)->dI cs T=true->∀x∈T,x∈S)/\ρ=[.d false (.list (cs.map dg)), .d false (.list (ai.map .int)), .aX A2 f (bA S),x3, .d true (.int (0+(t:Int))), .d true (.int (S0.length:Int)),x6,x7],⟨S0,_,_,_,⟨hS1,Nat.le_refl _,fun _ _ h=>(by simp at h),hS3⟩,rfl⟩,?_,?_⟩
  ·rintro i d ρ hd ⟨S,f,x6,x7,⟨g1,g2,g3,g4⟩,rfl⟩
   obtain⟨prs,bf,rfl⟩:=cW hd
   have fU:=List.mem_of_getElem? bf
   have ZH:(prs.map pairD).length=prs.length:=List.length_map ..
   have aaF:=hpl prs fU
   refine Gv.kP ?_
   refine Sv.seq ?_
   refine Sv.rq ?_
   refine ay.ev (ay.fT (by decide) rfl ?_)
   walk_at "dt"
   refine fun v=>⟨true,fun i ds=>ds=((prs.take i).filter fun pr=>decide (pr.1∈S)).map fun pr=> .int pr.1,rfl,?_,?_⟩
   ·rintro i d ds hd hl' rfl
    obtain⟨pr,bz,rfl⟩:=cW hd
    walk_at "dt"
    refine⟨by walk_at "wk",?_⟩
    refine Tv.test ?_
    refine Ev.zg rfl ?_
    walk_at "dt"
    rw[j3]
    by_cases c:pr.1∈S
    ·rw[if_pos (by simpa using c)]
     walk_at "dt"
     show _=List.map _ (List.filter _ (prs.take (i+1)))
     rw[take_snoc bz,qU,if_pos c,List.map_append]
     rfl
    ·rw[if_neg (by simpa using c)]
     show _=List.map _ (List.filter _ (prs.take (i+1)))
     rw[take_snoc bz,qU,if_neg c,List.append_nil]
   rintro ds hl' rfl
   rw[ZH,List.take_length]
   refine Sv.jx ?_
   refine Tv.test ?_
   refine Ev.eq ?_
   refine Ev.m8 ?_
   walk_at "dt"
   rw[List.length_map]
   by_cases c:br S prs=1
   ·rw[if_pos (decide_eq_true (by unfold br at c;omega))]
    obtain⟨pr,pe⟩:=List.length_eq_one_iff.mp (show(prs.filter fun pr=>decide (pr.1∈S)).length=1 from c)
    have x9:pr∈prs.filter fun pr=>decide (pr.1∈S):=by rw[pe];exact List.mem_singleton.mpr rfl
    obtain⟨h1,h2⟩:=List.mem_filter.mp x9
    have gU:pr.1∈S:=of_decide_eq_true h2
    have iJ:pr.1∈prs.map (·.1):=List.mem_map.mpr ⟨pr,h1,rfl⟩
    rw[pe]
    refine Sv.CQ rfl ?_
    walk_at "dt"
    refine⟨by rw[j3];exact decide_eq_true gU,?_⟩
    rw[DR]
    have hlt:(S.filter fun y=>decide (y≠pr.1)).length<S.length:=by
     have h1:(S.filter fun y=>decide (y≠pr.1)).length<=S.length:=List.length_filter_le _ _
     have h2:(S.filter fun y=>decide (y≠pr.1)).length≠S.length:=fun z=>by
      have:=List.length_filter_eq_length_iff.mp z pr.1 gU
      simp at this
     omega
    refine⟨_,_,_,_,⟨?_,by omega,fun z=>by omega,Tq g4 fU c iJ⟩,rfl⟩
    obtain⟨qq,e⟩:=g1
    exact⟨_,by rw[e,List.filter_filter]⟩
   ·rw[if_neg (by simp;unfold br at c;omega)]
    refine Sv.next ?_
    refine⟨S,_,_,_,⟨g1,g2,fun z u hu=>?_,g4⟩,rfl⟩
    rw[take_snoc bf] at hu
    rcases List.mem_append.mp hu with h|h
    ·exact g3 z u h
    ·rw[List.mem_singleton.mp h];exact c
  ·rintro ρ ⟨S,f,x6,x7,⟨g1,g2,g3,g4⟩,rfl⟩
   rw[List.length_map,List.take_length] at g3
   have hsl:(bA S).length=S.length:=by unfold bA;rw[List.length_map]
   refine Sv.jx ?_
   refine Tv.test ?_
   refine Ev.eq ?_
   refine Ev.Ey rfl ?_
   rw[hsl]
   walk_at "dt"
   by_cases c:S.length=S0.length
   ·rw[if_pos (decide_eq_true (by omega))]
    refine Sv.ret ?_
    refine ay.ev (fin S _ _ _ _ _ _ g1 ⟨g1,?_,g4⟩)
    unfold dI
    rw[List.all_eq_true]
    exact fun u hu=>decide_eq_true (g3 c u hu)
   ·rw[if_neg (by simp;omega)]
    refine Sv.next ?_
    exact⟨S,_,_,_,_,_,_,⟨g1,by omega,g4⟩,rfl⟩
 ·rintro ρ ⟨S,f,x3,x4,x5,x6,x7,⟨g1,g2,g4⟩,rfl⟩
  have e9:S=[]:=List.length_eq_zero_iff.mp (by omega)
  refine Sv.ret ?_
  refine ay.ev (fin S _ _ _ _ _ _ g1 ⟨g1,?_,g4⟩)
  rw[e9]
  exact Ws cs
def sq:DF:=fun ds Φ=>∃(p n:Int) (cs:List ak),ds=[cS p n cs]/\cs.length<=10000/\∀f,Φ f (cS p n cs)
theorem pM:cJ sq:=by
 intro ds Φ Ψ hm z
 obtain⟨p,n,cs,e,h,q⟩:=hm
 exact⟨p,n,cs,e,h,fun f=>z _ _ (q f)⟩
theorem Lg:bM ["net"] ["net"] (az kT):=⟨rfl,rfl,rfl,by decide+kernel,rfl,by decide+kernel,by decide+kernel⟩
theorem Qj(F:bC K "_law_copy" "_law_copy" kT f fd)(cB:mg "list"=none):
  aY P w K mg base bw 1 f fd ["net"] (bJ 1 sq):=by
 refine F.ok Lg (fun vs H Q E h=>h.1) (fun cdv A outer s H vs Q E hr h=>?_)
 obtain⟨_,nb,ds,hlive,hds,hF⟩:=h
 obtain⟨Φ,aC,hF⟩:∃Φ:Pd,(∀f d v H',Φ f d->bx H H'->ah (fun a=>nb a\/(f=true/\H a≠none)) H' d v->Q v H')/\sq ds Φ:=⟨_,fun f d v H' q=>q v H',hF⟩
 obtain⟨p,n,cs,rfl,hl,q⟩:=hF
 refine⟨_,(@aD _ _ _ (@aV _ _ _ _ (@fQ _ _ _ _ _ (@aa _ _ _ _ _ (@aJ _ _ _ _ _ _ (cO K) dD (pv 0) ao (fun _ _=>rfl)) (@aa _ _ _ _ _ (@aJ _ _ _ _ _ _ (cO K) dD (pv 0) ao (fun _ _=>rfl)) (@aa _ _ _ _ _ (dH (bQ.of (show cy (az kT) ["net"] _ ["pairs"] [none]=true by decide+kernel)) (cN (K:=K) rfl (@aJ _ _ _ _ _ _ (cO K) dD (pv 0) ao (fun _ _=>rfl))) (fun _ _ _ _=>⟨(aK (i:=0) (by show List.Nodup (["pairs"]:List Str);decide+kernel) rfl (Or.inl rfl)),eG,(@gy _ _ _ _ _ _ _ _ (iz K) kc rfl cB PyProof.Rows.boot_list (@aa _ _ _ _ _ (pv 0) aj rfl) (by decide) (by decide) (by rfl) (by rfl))⟩)) aj rfl) rfl) rfl)))),?_⟩
 refine Sv.fk hlive hds aC (ρ:=[.d false _]) rfl ?_
 clear aC hds
 walk_at "dt"
 refine ay.ev (ay.fT (by decide) rfl ?_)
 walk_at "dt"
 refine⟨by rw[List.length_map];exact hl,fun v=>⟨false,fun i ds=>ds=(cs.take i).map dg,rfl,?_,?_⟩⟩
 ·rintro i d ds hd hl' rfl
  obtain⟨prs,bf,rfl⟩:=cW hd
  walk_at "dt"
  refine⟨by walk_at "wk",?_⟩
  walk_at "dt"
  refine⟨fun z=>(by cases z),?_⟩
  show _=List.map _ _
  rw[take_snoc bf,List.map_append]
  rfl
 ·rintro ds hl' rfl
  rw[List.length_map,List.take_length]
  walk_at "dt"
  exact q _
def vj:Nat->PyData->Prop
 |0,_=>False
 |n+1,d=>gQ d=true\/∃ds,(d= .list ds\/d= .tuple ds)/\ds.length<=10000/\∀e∈ds,vj n e
def kY(n:Nat):DF:=fun ds Φ=>∃d,ds=[d,d]/\vj n d/\Φ true (.bool true)
theorem oK(n:Nat):cJ (kY n):=fun ds Φ Ψ ⟨d,e,h,q⟩ z=>⟨d,e,h,z _ _ q⟩
theorem Vc:∀vs H Q E,¬bJ 2 (kY 0) vs H Q E:=fun vs H Q E ⟨_,_,_,_,_,d,_,h,_⟩=>h
theorem PR:bM ["found","due"] ["found","due"] (az lM):=⟨rfl,rfl,rfl,by decide+kernel,rfl,by decide+kernel,by decide+kernel⟩
theorem Al(n:Nat)(F:bC K "_law_alike" "_law_alike" lM f fd)(pF:Callee P w K mg base "_law_alike" (n) ["found","due"] (bJ 2 (kY n)))(fj:mg "isinstance"=none)(cB:mg "list"=none)(jH:mg "tuple"=none)(jN:mg "all"=none)(bR:mg "len"=none)(mJ:mg "bool"=none)(jo:mg "int"=none)(mO:mg "str"=none)(bO:mg "range"=none):
  aY P w K mg base bw (n+1) f fd ["found","due"] (bJ 2 (kY (n+1))):=by
 refine F.ok PR (fun vs H Q E h=>h.1) (fun cdv A outer s H vs Q E hr h=>?_)
 obtain⟨_,nb,ds,hlive,hds,hF⟩:=h
 obtain⟨Φ,aC,hF⟩:∃Φ:Pd,(∀f d v H',Φ f d->bx H H'->ah (fun a=>nb a\/(f=true/\H a≠none)) H' d v->Q v H')/\kY (n+1) ds Φ:=⟨_,fun f d v H' q=>q v H',hF⟩
 obtain⟨d,rfl,hok,q⟩:=hF
 refine⟨_,(@aB _ _ _ _ _ (@cV _ _ _ _ _ _ _ _ (@kj _ (K) _ _ rfl (@bT _ _ _ _ _ _ _ _ (uc) Ez rfl fj PyProof.Rows.boot_isinstance (@aa _ _ _ _ _ (pv 1) (@aa _ _ _ _ _ (@fQ _ _ _ _ _ (@aa _ _ _ _ _ (gV (v:= .ty "list") rfl cB PyProof.Rows.boot_list rfl) (@aa _ _ _ _ _ (gV (v:= .ty "tuple") rfl jH PyProof.Rows.boot_tuple rfl) aj rfl) rfl)) aj rfl) rfl) (by decide) (by decide) (by rfl) (by rfl)) (fun _=>rfl)) (@aB _ _ _ _ _ (@cV _ _ _ _ _ _ _ _ (PW.pt (qi (@oF _ _ _ _ (@kj _ (K) _ _ rfl (@bT _ _ _ _ _ _ _ _ (uc) Ez rfl fj PyProof.Rows.boot_isinstance (@aa _ _ _ _ _ (pv 0) (@aa _ _ _ _ _ (@fQ _ _ _ _ _ (@aa _ _ _ _ _ (gV (v:= .ty "list") rfl cB PyProof.Rows.boot_list rfl) (@aa _ _ _ _ _ (gV (v:= .ty "tuple") rfl jH PyProof.Rows.boot_tuple rfl) aj rfl) rfl)) aj rfl) rfl) (by decide) (by decide) (by rfl) (by rfl)) (fun _=>rfl))) (pX (@bu _ _ _ _ _ _ _ _ iS (@bT _ _ _ _ _ _ _ _ (iE K) jr rfl fj PyProof.Rows.boot_isinstance (@aa _ _ _ _ _ (pv 0) (@aa _ _ _ _ _ (gV (v:= .ty "list") rfl cB PyProof.Rows.boot_list rfl) aj rfl) rfl) (by decide) (by decide) (by rfl) (by rfl)) (@bT _ _ _ _ _ _ _ _ (iE K) jr rfl fj PyProof.Rows.boot_isinstance (@aa _ _ _ _ _ (pv 1) (@aa _ _ _ _ _ (gV (v:= .ty "list") rfl cB PyProof.Rows.boot_list rfl) aj rfl) rfl) (by decide) (by decide) (by rfl) (by rfl)) (bG _))))) (@aD _ _ _ (@aV _ _ _ _ gf)) cX) (@aB _ _ _ _ _ (@cV _ _ _ _ _ _ _ _ (@bu _ _ _ _ _ _ _ _ iS (@bT _ _ _ _ _ _ _ _ (gk K) ia rfl bR PySem.boot_len (@aa _ _ _ _ _ (pv 0) aj rfl) (by decide) (by decide) (by rfl) (by rfl)) (@bT _ _ _ _ _ _ _ _ (gk K) ia rfl bR PySem.boot_len (@aa _ _ _ _ _ (pv 1) aj rfl) (by decide) (by decide) (by rfl) (by rfl)) (bG _)) (@aD _ _ _ (@aV _ _ _ _ gf)) cX) (@aD _ _ _ (@aV _ _ _ _ (@bT _ _ _ _ _ _ _ _ (qK K) (Fy rfl) rfl jN PyProof.Rows.boot_all (@aa _ _ _ _ _ (dH (bQ.of (show cy (az lM) ["found","due"] _ ["k","found","due"] [none,some 0,some 1]=true by decide+kernel)) (@gz _ _ _ _ _ _ rfl bO (@aa _ _ _ _ _ (@bT _ _ _ _ _ _ _ _ (gk K) ia rfl bR PySem.boot_len (@aa _ _ _ _ _ (pv 1) aj rfl) (by decide) (by decide) (by rfl) (by rfl)) aj rfl) (by rfl)) (fun _ _ _ _=>⟨(aK (i:=0) (by show List.Nodup (["k","found","due"]:List Str);decide+kernel) rfl (Or.inl rfl)),eG,(@aO _ _ _ _ _ _ _ _ _ _ pF (hr.mono (Nat.le_refl _)) (@aa _ _ _ _ _ (@aJ _ _ _ _ _ _ (rm K) En (pv 1) (pv 0) (fun _ _=>rfl)) (@aa _ _ _ _ _ (@aJ _ _ _ _ _ _ (rm K) En (pv 2) (pv 0) (fun _ _=>rfl)) aj rfl) rfl) (by rfl) (by decide) (by rfl) (by rfl))⟩)) aj rfl) (by decide) (by decide) (by rfl) (by rfl)))))) cX) (@aB _ _ _ _ _ (@cV _ _ _ _ _ _ _ _ (PW.pt (qi (@bu _ _ _ _ _ _ _ _ iS (@bT _ _ _ _ _ _ _ _ (iE K) jr rfl fj PyProof.Rows.boot_isinstance (@aa _ _ _ _ _ (pv 0) (@aa _ _ _ _ _ (gV (v:= .ty "bool") rfl mJ PyProof.Rows.boot_bool rfl) aj rfl) rfl) (by decide) (by decide) (by rfl) (by rfl)) (@bT _ _ _ _ _ _ _ _ (iE K) jr rfl fj PyProof.Rows.boot_isinstance (@aa _ _ _ _ _ (pv 1) (@aa _ _ _ _ _ (gV (v:= .ty "bool") rfl mJ PyProof.Rows.boot_bool rfl) aj rfl) rfl) (by decide) (by decide) (by rfl) (by rfl)) (bG _)) (pX (@bu _ _ _ _ _ _ _ _ iS (@bT _ _ _ _ _ _ _ _ (iE K) jr rfl fj PyProof.Rows.boot_isinstance (@aa _ _ _ _ _ (pv 0) (@aa _ _ _ _ _ (gV (v:= .ty "int") rfl jo PyProof.Rows.boot_int rfl) aj rfl) rfl) (by decide) (by decide) (by rfl) (by rfl)) (@bT _ _ _ _ _ _ _ _ (iE K) jr rfl fj PyProof.Rows.boot_isinstance (@aa _ _ _ _ _ (pv 1) (@aa _ _ _ _ _ (gV (v:= .ty "int") rfl jo PyProof.Rows.boot_int rfl) aj rfl) rfl) (by decide) (by decide) (by rfl) (by rfl)) (bG _))))) (@aD _ _ _ (@aV _ _ _ _ gf)) cX) (@aD _ _ _ (@aV _ _ _ _ (@VP _ _ _ _ _ _ _ (@qg _ _ _ _ _ _ _ _ fP (@bT _ _ _ _ _ _ _ _ (iE K) jr rfl fj PyProof.Rows.boot_isinstance (@aa _ _ _ _ _ (pv 0) (@aa _ _ _ _ _ (gV (v:= .ty "str") rfl mO PyProof.Rows.boot_str rfl) aj rfl) rfl) (by decide) (by decide) (by rfl) (by rfl)) (@bT _ _ _ _ _ _ _ _ (iE K) jr rfl fj PyProof.Rows.boot_isinstance (@aa _ _ _ _ _ (pv 1) (@aa _ _ _ _ _ (gV (v:= .ty "str") rfl mO PyProof.Rows.boot_str rfl) aj rfl) rfl) (by decide) (by decide) (by rfl) (by rfl)) (bG _)) (@R0 _ _ _ _ _ (@qg _ _ _ _ _ _ _ _ fP (pv 0) (pv 1) (bG _)))))))),?_⟩
 refine Sv.fk hlive hds aC (ρ:=[.d false _, .d false _]) rfl ?_
 clear aC hds
 walk_at "dt"
 rcases hok with hs|⟨ds,hd,hl,he⟩
 ·have h1:(gp d "list" ||gp d "tuple")=false:=by cases d<;>first|rfl|cases hs
  rw[h1]
  walk_at "dt"
  rw[beq_self_eq_true]
  walk_at "dt"
  rw[beq_self_eq_true]
  walk_at "dt"
  rw[beq_self_eq_true]
  walk_at "dt"
  exact⟨true, .self hs,q⟩
 rcases hd with rfl|rfl
 ·rw[(CU ds).1,(CU ds).2,Bool.true_or]
  walk_at "dt"
  refine ay.ev (ay.ig (by decide) rfl ?_)
  walk_at "dt"
  refine⟨true,fun i es=>es=List.replicate i (.bool true),rfl,?_,?_⟩
  ·rintro i d' es ⟨hi,rfl⟩ hl' rfl
   have hi':i<ds.length:=by omega
   have hat:bB ds (0+(i:Int))=some ds[i]:=gC (by omega) (by rw[show(0+(i:Int)).toNat=i by omega];exact List.getElem?_eq_getElem hi')
   walk_at "dt"
   refine⟨by walk_at "wk",?_⟩
   walk_at "dt"
   refine Ev.cZ (oK n) ?_
   walk_at "dt"
   refine⟨rfl,ds[i],rfl,he _ (List.getElem_mem hi'),fun _=>rfl,?_⟩
   show _=List.replicate (i+1) _
   rw[List.replicate_succ']
  ·rintro es hl' rfl
   refine⟨List.replicate ds.length true,by simp,?_⟩
   rw[show(List.replicate ds.length true).all id=true by simp]
   exact q
 ·rw[(DV ds).1,(DV ds).2,Bool.false_or]
  walk_at "dt"
  refine ay.ev (ay.ig (by decide) rfl ?_)
  walk_at "dt"
  refine⟨true,fun i es=>es=List.replicate i (.bool true),rfl,?_,?_⟩
  ·rintro i d' es ⟨hi,rfl⟩ hl' rfl
   have hi':i<ds.length:=by omega
   have hat:bB ds (0+(i:Int))=some ds[i]:=gC (by omega) (by rw[show(0+(i:Int)).toNat=i by omega];exact List.getElem?_eq_getElem hi')
   walk_at "dt"
   refine⟨by walk_at "wk",?_⟩
   walk_at "dt"
   refine Ev.cZ (oK n) ?_
   walk_at "dt"
   refine⟨rfl,ds[i],rfl,he _ (List.getElem_mem hi'),fun _=>rfl,?_⟩
   show _=List.replicate (i+1) _
   rw[List.replicate_succ']
  ·rintro es hl' rfl
   refine⟨List.replicate ds.length true,by simp,?_⟩
   rw[show(List.replicate ds.length true).all id=true by simp]
   exact q
def qR:DF:=fun ds Φ=>∃(p wide:Int) (w1 w2:List Int),ds=[.int p, .list (w1.map .int), .list (w2.map .int), .int wide]/\d7 p/\p<10^40/\1<=w1.length/\w1.length<=60/\w2.length=w1.length/\(∀x∈w1,0<=x/\x<p)/\(∀x∈w2,0<=x/\x<p)/\1<=wide/\wide<=60/\∀(prs:ak) (f:Bool),prs.length<=430->(∀pr∈prs,0<=pr.1/\pr.1<w1.length/\1<=pr.2/\pr.2<p)->p∣aG prs (w1.map some)->p∣aG prs (w2.map some)->Φ f (dg prs)
theorem Sf:cJ qR:=by
 intro ds Φ Ψ hm z
 obtain⟨p,w,w1,w2,e,h1,h2,h3,h4,h5,h6,h7,h8,h9,q⟩:=hm
 exact⟨p,w,w1,w2,e,h1,h2,h3,h4,h5,h6,h7,h8,h9,fun prs f a b c d=>z _ _ (q prs f a b c d)⟩
theorem TV{α β:Type}(φ:α->β)(xs:List α):iA (xs.map φ) none (some (-2))=(xs.take (xs.length-2)).map φ:=by
 unfold iA
 have e:HT.cY (xs.map φ).length (xs.map φ).length (some (-2))=xs.length-2:=by
  rw[List.length_map]
  show(if(-2:Int)<0 then(-2+(xs.length:Int)).toNat else min (-2:Int).toNat xs.length)=_
  rw[if_pos (by decide)];omega
 rw[e,show HT.cY (xs.map φ).length 0 none=0 from rfl,List.drop_zero,Nat.sub_zero,List.map_take]
theorem Zl{α β:Type}(φ:α->β)(xs:List α)(a b:α):iA ((xs++[a,b]).map φ) (some (-2)) none=[φ a,φ b]:=by
 unfold iA
 have hl:((xs++[a,b]).map φ).length=xs.length+2:=by simp
 have e:HT.cY ((xs++[a,b]).map φ).length 0 (some (-2))=xs.length:=by
  rw[hl]
  show(if(-2:Int)<0 then(-2+((xs.length+2:Nat):Int)).toNat else min (-2:Int).toNat (xs.length+2))=_
  rw[if_pos (by decide)];omega
 rw[e,show HT.cY ((xs++[a,b]).map φ).length ((xs++[a,b]).map φ).length none=((xs++[a,b]).map φ).length from rfl,hl,List.map_append]
 rw[List.drop_append_of_le_length (by simp),List.drop_of_length_le (by simp)]
 simp
theorem Ou{xs:List Int}(h:2<=xs.length):∃r a b,xs=r++[a,b]:=by
 refine⟨xs.take (xs.length-2),xs[xs.length-2],xs[xs.length-1],?_⟩
 conv=>lhs;rw[<-List.take_append_drop (xs.length-2) xs]
 congr 1
 rw[List.drop_eq_getElem_cons (by omega),List.drop_eq_getElem_cons (by omega),List.drop_of_length_le (by omega)]
 have e:xs.length-2+1=xs.length-1:=by omega
 simp only[e]
theorem jQ:bM ["bag","p","one","two","wide","places","pairs","a","b","part","first","second"] ["bag","p","one","two","wide"] (az j5):=⟨rfl,rfl,rfl,by decide+kernel,rfl,by decide+kernel,by decide+kernel⟩
theorem YL(F:bC K "_law_check" "_law_check" j5 f fd)(V8:Callee P w K mg base "_law_places" 2 ["bag","n","wide"] (eB 3 sX))(Hw:Callee P w K mg base "_law_sum" 1 ["p","pairs","word"] (bJ 3 t9))(VM:Callee P w K mg base "_law_factor" 2 ["bag","p"] (eB 2 ur))(Hu:Callee P w K mg base "_law_over" 1 ["p","a","b"] (bJ 3 qW))(bR:mg "len"=none):
  aY P w K mg base bw 3 f fd ["bag","p","one","two","wide"] (eB 5 qR):=by
 refine F.ok jQ (fun vs H Q E h=>h.1) (fun cdv A outer s H vs Q E hr h=>?_)
 obtain⟨_,b,l,ws,nb,ds,rfl,hB,hlive,hnb,hds,hF⟩:=h
 obtain⟨Φ,aC,hF⟩:∃Φ:Pd,(∀f d v H',Φ f d->aP (Nb b) H H'->cG H' b l->ah (fun a=>nb a\/(f=true/\H a≠none)) H' d v->Q v H')/\qR ds Φ:=⟨_,fun f d v H' q=>q v H',hF⟩
 obtain⟨p,wide,w1,w2,rfl,hp,dU,n0,n1,hl2,hr1,hr2,d0,d1,q⟩:=hF
 refine⟨_,(@aB _ _ _ _ _ (@aT _ _ (5) _ _ _ _ jQ.nd rfl (Or.inl rfl) (@aO _ _ _ _ _ _ _ _ _ _ V8 (hr.mono (by decide)) (@aa _ _ _ _ _ (pv 0) (@aa _ _ _ _ _ (@bT _ _ _ _ _ _ _ _ (gk K) ia rfl bR PySem.boot_len (@aa _ _ _ _ _ (pv 2) aj rfl) (by decide) (by decide) (by rfl) (by rfl)) (@aa _ _ _ _ _ (pv 4) aj rfl) rfl) rfl) (by rfl) (by decide) (by rfl) (by rfl)) (by rfl) (by first|exact .inl rfl|exact .inr rfl|assumption)) (@aB _ _ _ _ _ (kq (i:=6) jQ.nd rfl rfl (bQ.of (show cy (az j5) ["bag","p","one","two","wide","places","pairs","a","b","part","first","second"] _ ["place","bag","p"] [none,some 0,some 1]=true by decide+kernel)) (cN (K:=K) rfl (@sV _ _ _ _ _ _ _ _ _ (nJ K) se (pv 5) qO (@tO _ _ _ (@GU _ _ _ _ _ _ HY ao)))) (fun _ _ _ _=>⟨(aK (i:=0) (by show List.Nodup (["place","bag","p"]:List Str);decide+kernel) rfl (Or.inl rfl)),eG,(@fQ _ _ _ _ _ (@aa _ _ _ _ _ (pv 0) (@aa _ _ _ _ _ (@aO _ _ _ _ _ _ _ _ _ _ VM (hr.mono (by decide)) (@aa _ _ _ _ _ (pv 1) (@aa _ _ _ _ _ (pv 2) aj rfl) rfl) (by rfl) (by decide) (by rfl) (by rfl)) aj rfl) rfl))⟩)) (@aB _ _ _ _ _ (@cV _ _ _ _ _ _ _ _ (@bu _ _ _ _ _ _ _ _ za (@bT _ _ _ _ _ _ _ _ (gk K) ia rfl bR PySem.boot_len (@aa _ _ _ _ _ (pv 5) aj rfl) (by decide) (by decide) (by rfl) (by rfl)) ao (bG _)) (@aD _ _ _ (@aV _ _ _ _ (@gm _ _ _ _ aj))) cX) (@aB _ _ _ _ _ (@iy _ _ _ _ _ _ (@sV _ _ _ _ _ _ _ _ _ (nJ K) se (pv 5) (@tO _ _ _ (@GU _ _ _ _ _ _ HY ao)) qO) (@Lh _ (K) _ _ _ (2) _ rfl rfl (@bZ _ _ _ _ _ (aK (i:=7) jQ.nd rfl (Or.inl rfl)) (@bZ _ _ _ _ _ (aK (i:=8) jQ.nd rfl (Or.inl rfl)) gF (by rfl)) (by rfl)) (by rfl) (by rfl)) (by rfl) (by rfl) (by rfl)) (@aB _ _ _ _ _ (@aT _ _ (9) _ _ _ _ jQ.nd rfl (Or.inl rfl) (@aF _ _ _ _ _ _ _ _ fh (@aF _ _ _ _ _ _ _ _ jj (@aF _ _ _ _ _ _ _ _ dO (@aJ _ _ _ _ _ _ (bI K) aZ (pv 2) (pv 7) (fun _ _=>rfl)) (@aJ _ _ _ _ _ _ (bI K) aZ (pv 3) (pv 8) (fun _ _=>rfl))) (@aF _ _ _ _ _ _ _ _ dO (@aJ _ _ _ _ _ _ (bI K) aZ (pv 2) (pv 8) (fun _ _=>rfl)) (@aJ _ _ _ _ _ _ (bI K) aZ (pv 3) (pv 7) (fun _ _=>rfl)))) (pv 1)) (by rfl) (by first|exact .inl rfl|exact .inr rfl|assumption)) (@aB _ _ _ _ _ (@cV _ _ _ _ _ _ _ _ (@bu _ _ _ _ _ _ _ _ fP (pv 9) ao (bG _)) (@aD _ _ _ (@aV _ _ _ _ (@gm _ _ _ _ aj))) cX) (@aB _ _ _ _ _ (@aT _ _ (10) _ _ _ _ jQ.nd rfl (Or.inl rfl) (@aO _ _ _ _ _ _ _ _ _ _ Hw (hr.mono (by decide)) (@aa _ _ _ _ _ (pv 1) (@aa _ _ _ _ _ (pv 6) (@aa _ _ _ _ _ (pv 2) aj rfl) rfl) rfl) (by rfl) (by decide) (by rfl) (by rfl)) (by rfl) (by first|exact .inl rfl|exact .inr rfl|assumption)) (@aB _ _ _ _ _ (@aT _ _ (11) _ _ _ _ jQ.nd rfl (Or.inl rfl) (@aO _ _ _ _ _ _ _ _ _ _ Hw (hr.mono (by decide)) (@aa _ _ _ _ _ (pv 1) (@aa _ _ _ _ _ (pv 6) (@aa _ _ _ _ _ (pv 3) aj rfl) rfl) rfl) (by rfl) (by decide) (by rfl) (by rfl)) (by rfl) (by first|exact .inl rfl|exact .inr rfl|assumption)) (@aB _ _ _ _ _ (@kU _ _ _ _ (j7 PySem.F.plainAttrs_list PySem.F.slot_list_append PySem.F.type_list_append mR (pv 6) (@aa _ _ _ _ _ (@fQ _ _ _ _ _ (@aa _ _ _ _ _ (pv 7) (@aa _ _ _ _ _ (@aO _ _ _ _ _ _ _ _ _ _ Hu (hr.mono (by decide)) (@aa _ _ _ _ _ (pv 1) (@aa _ _ _ _ _ (@aF _ _ _ _ _ _ _ _ jj (@aF _ _ _ _ _ _ _ _ dO (pv 11) (@aJ _ _ _ _ _ _ (bI K) aZ (pv 2) (pv 8) (fun _ _=>rfl))) (@aF _ _ _ _ _ _ _ _ dO (pv 10) (@aJ _ _ _ _ _ _ (bI K) aZ (pv 3) (pv 8) (fun _ _=>rfl)))) (@aa _ _ _ _ _ (pv 9) aj rfl) rfl) rfl) (by rfl) (by decide) (by rfl) (by rfl)) aj rfl) rfl)) aj rfl)) (by rfl)) (@aB _ _ _ _ _ (@kU _ _ _ _ (j7 PySem.F.plainAttrs_list PySem.F.slot_list_append PySem.F.type_list_append mR (pv 6) (@aa _ _ _ _ _ (@fQ _ _ _ _ _ (@aa _ _ _ _ _ (pv 8) (@aa _ _ _ _ _ (@aO _ _ _ _ _ _ _ _ _ _ Hu (hr.mono (by decide)) (@aa _ _ _ _ _ (pv 1) (@aa _ _ _ _ _ (@aF _ _ _ _ _ _ _ _ jj (@aF _ _ _ _ _ _ _ _ dO (pv 10) (@aJ _ _ _ _ _ _ (bI K) aZ (pv 3) (pv 7) (fun _ _=>rfl))) (@aF _ _ _ _ _ _ _ _ dO (pv 11) (@aJ _ _ _ _ _ _ (bI K) aZ (pv 2) (pv 7) (fun _ _=>rfl)))) (@aa _ _ _ _ _ (pv 9) aj rfl) rfl) rfl) (by rfl) (by decide) (by rfl) (by rfl)) aj rfl) rfl)) aj rfl)) (by rfl)) (@aD _ _ _ (@aV _ _ _ _ (dH (bQ.of (show cy (az j5) ["bag","p","one","two","wide","places","pairs","a","b","part","first","second"] _ ["place","factor"] [none,none]=true by decide+kernel)) (cN (K:=K) rfl (pv 6)) (fun _ _ _ _=>⟨(@iB _ (K) _ _ _ (2) _ rfl rfl (@bZ _ _ _ _ _ (aK (i:=0) (by show List.Nodup (["place","factor"]:List Str);decide+kernel) rfl (Or.inl rfl)) (@bZ _ _ _ _ _ (aK (i:=1) (by show List.Nodup (["place","factor"]:List Str);decide+kernel) rfl (Or.inl rfl)) gF (by rfl)) (by rfl)) (by rfl) (by rfl)),(g6 (@bu _ _ _ _ _ _ _ _ iS (pv 1) ao (bG _))),(@fQ _ _ _ _ _ (@aa _ _ _ _ _ (pv 0) (@aa _ _ _ _ _ (pv 1) aj rfl) rfl))⟩)))))))))))))),?_⟩
 refine Sv.kR hB hlive hnb hds aC (ρ:=[.aA, .d false _, .d false _, .d false _, .d false _, .no, .no, .no, .no, .no, .no, .no]) rfl ?_
 clear aC hds
 have p2:=hp.1
 have hm1:(w1.map PyData.int).length=w1.length:=List.length_map ..
 have HZ:∀{w:List Int},(∀x∈w,0<=x/\x<p)->fE (w.map some):=fun{w} h x hx=>by
  obtain⟨y,hy,e⟩:=List.mem_map.mp hx
  cases e
  have:=h x hy
  unfold Sm;omega
 have hD:∀w:List Int,w.map PyData.int=(w.map some).map cM:=fun w=>by rw[List.map_map];rfl
 walk_at "dt"
 refine Ev.gZ O3 rfl ?_
 walk_at "dt"
 rw[hm1]
 refine⟨rfl,(w1.length:Int),wide,rfl,by omega,by omega,d0,d1,fun rs r0 r1 hrs hos=>?_⟩
 refine Gv.kP ?_
 refine Sv.seq ?_
 refine Sv.zP ?_
 refine ay.fT (by decide) rfl ?_
 walk_at "dt"
 rw[TV]
 have qm:(rs.take (rs.length-2)).length<=420:=by rw[List.length_take];omega
 refine⟨by rw[List.length_map];omega,fun v=>fY.rel pairD true (fun i pr=>(rs.take (rs.length-2))[i]?=some pr.1/\1<=pr.2/\pr.2<p) ?_ fun prs hpl bf=>?_⟩
 ·rintro i d hd
  obtain⟨x,hx,rfl⟩:=cW hd
  walk_at "dt"
  refine⟨by walk_at "wk",?_⟩
  walk_at "dt"
  refine Ev.gZ Vs rfl ?_
  walk_at "dt"
  refine⟨rfl,p,rfl,hp,dU,fun y y1 y2=>?_⟩
  walk_at "dt"
  exact⟨fun _=>rfl,(x,y),rfl,hx,y1,y2⟩
 intro A6
 rw[List.length_map] at hpl
 have CG:∀pr∈prs,0<=pr.1/\pr.1<w1.length/\1<=pr.2/\pr.2<p:=fun pr bz=>by
  obtain⟨k,hk⟩:=List.getElem?_of_mem bz
  obtain⟨e1,e2,e3⟩:=bf k pr hk
  have:=hos pr.1 (List.mem_of_mem_take (List.mem_of_getElem? e1))
  exact⟨this.1,this.2,e2,e3⟩
 have aaz:prs.length<=420:=by omega
 clear hpl bf qm
 refine Sv.seq ?_
 refine Sv.jx ?_
 refine Tv.test ?_
 refine Ev.EH ?_
 refine Ev.m8 ?_
 refine Ev.var rfl ?_
 refine⟨_, .inl rfl,_,rfl,Ev.int ⟨_,rfl,_,rfl,?_⟩⟩
 rw[List.length_map]
 by_cases c2:rs.length<2
 ·rw[if_pos (by simp;omega)]
  walk_at "dt"
  exact q [] _ (by simp) (fun _ h=>nomatch h) (by simp[aG]) (by simp[aG])
 rw[if_neg (by simp;omega)]
 obtain⟨r3,pa,pb,rfl⟩:=Ou (xs:=rs) (by omega)
 obtain⟨a0,a1⟩:=hos pa (by simp)
 obtain⟨b0,b1⟩:=hos pb (by simp)
 have gr:∀{w:List Int} {x:Int},(∀x∈w,0<=x/\x<p)->0<=x->x<w.length->bB (w.map PyData.int) x=some (.int (gW w x.toNat))/\0<=gW w x.toNat/\gW w x.toNat<p:=fun{w x} h h0 h1=>by
  unfold gW
  have hx:x.toNat<w.length:=by omega
  rw[List.getD_eq_getElem?_getD,List.getElem?_eq_getElem hx]
  exact⟨gC h0 (by rw[List.getElem?_map,List.getElem?_eq_getElem hx];rfl),h _ (List.getElem_mem hx)⟩
 obtain⟨ta1,C3,DL⟩:=gr hr1 a0 a1
 obtain⟨tb1,DY,Em⟩:=gr hr1 b0 b1
 obtain⟨ta2,ha1,ha2⟩:=gr hr2 a0 (by omega)
 obtain⟨tb2,hb1,hb2⟩:=gr hr2 b0 (by omega)
 have tm:∀{w:List Int} {x:Int} (y:Int),0<=x->x<w.length->eO (w.map some) (x,y)=y*gW w x.toNat:=fun{w x} y h0 h1=>El (pr:=(x,y)) (by show x.toNat<_;omega)
 have N9:=fun y=>tm (w:=w1) y a0 a1
 have Ww:=fun y=>tm (w:=w1) y b0 b1
 have Rt:=fun y=>tm (w:=w2) y a0 (by omega)
 have JG:=fun y=>tm (w:=w2) y b0 (by omega)
 clear tm gr
 generalize gW w1 pa.toNat=oa at*
 generalize gW w1 pb.toNat=ob at*
 generalize gW w2 pa.toNat=ta at*
 generalize gW w2 pb.toNat=tb at*
 have sm:∀x:Int,0<=x->x<p->Sm x:=fun x h0 h1=>by unfold Sm;omega
 refine Sv.next ?_
 refine Sv.seq ?_
 refine Sv.asg ?_
 walk_at "dt"
 show Gv _ _ _ _ (.list (iA ((r3++[pa,pb]).map PyData.int) (some (-2)) none)) _
 rw[Zl]
 have s1:=sm oa C3 DL
 have s2:=sm ob DY Em
 have s3:=sm ta ha1 ha2
 have s4:=sm tb hb1 hb2
 walk_at "dt"
 obtain⟨D,j4⟩:∃D,(oa*tb-ob*ta)%p=D:=⟨_,rfl⟩
 have D0:0<=D:=by rw[<-j4];exact Int.emod_nonneg _ (by omega)
 have D1:D<p:=by rw[<-j4];exact Int.emod_lt_of_pos _ (by omega)
 have eD:p∣oa*tb-ob*ta-D:=by rw[<-j4];exact Int.dvd_self_sub_emod
 rw[j4]
 by_cases cD:D=0
 ·rw[if_pos (by simpa using cD)]
  walk_at "dt"
  exact q [] _ (by simp) (fun _ h=>nomatch h) (by simp[aG]) (by simp[aG])
 rw[if_neg (by simpa using cD)]
 have IQ:¬p∣D:=fun z=>by have:=Int.le_of_dvd (by omega) z;omega
 have D9:D%p≠0:=by rw[Int.emod_eq_of_lt D0 D1];exact cD
 have pV:∀{w:List Int},w.length=w1.length->jt prs (w.map some).length:=fun{w} h pr bz=>by
  obtain⟨e1,e2,e3,e4⟩:=CG pr bz
  rw[List.length_map,h]
  exact⟨e1,e2,by unfold Sm;omega⟩
 refine Sv.next ?_
 refine Sv.seq ?_
 refine Sv.asg ?_
 refine Ev.w9 GK ?_
 refine dM.cons (Ev.var rfl ?_)
 refine dM.own rfl ?_
 refine dM.cons (Ev.var rfl ?_)
 refine dM.nil ?_
 refine⟨rfl,p,prs,w1.map some,by rw[hD],by omega,by omega,pV rfl,HZ hr1, .inl rfl,?_⟩
 have F0:=Int.emod_nonneg (aG prs (w1.map some)) (show p≠0 by omega)
 have F1:=Int.emod_lt_of_pos (aG prs (w1.map some)) (show 0<p by omega)
 have F2:p∣aG prs (w1.map some)-aG prs (w1.map some)%p:=Int.dvd_self_sub_emod
 generalize aG prs (w1.map some)%p=ff at*
 refine Gv.je ?_
 refine Sv.seq ?_
 refine Sv.asg ?_
 refine Ev.w9 GK ?_
 refine dM.cons (Ev.var rfl ?_)
 refine dM.own rfl ?_
 refine dM.cons (Ev.var rfl ?_)
 refine dM.nil ?_
 refine⟨rfl,p,prs,w2.map some,by rw[hD],by omega,by omega,pV hl2,HZ hr2, .inl rfl,?_⟩
 have S0:=Int.emod_nonneg (aG prs (w2.map some)) (show p≠0 by omega)
 have S1:=Int.emod_lt_of_pos (aG prs (w2.map some)) (show 0<p by omega)
 have S2:p∣aG prs (w2.map some)-aG prs (w2.map some)%p:=Int.dvd_self_sub_emod
 generalize aG prs (w2.map some)%p=ss at*
 refine Gv.je ?_
 have sf:=sm ff F0 F1
 have sg:=sm ss S0 S1
 have bd:∀{x y:Int},0<=x->x<p->0<=y->y<p->0<=x*y/\x*y<=10^80:=fun{x y} h1 h2 h3 h4=>by
  refine⟨Int.mul_nonneg h1 h3,?_⟩
  have:x*y<=10^40*10^40:=Int.mul_le_mul (by omega) (by omega) h3 (by decide)
  omega
 have m1:=bd S0 S1 DY Em
 have m2:=bd F0 F1 hb1 hb2
 have m3:=bd F0 F1 ha1 ha2
 have m4:=bd S0 S1 C3 DL
 clear bd
 refine Sv.seq ?_
 refine Sv.append rfl ?_
 walk_at "dt"
 refine Ev.cZ DA ?_
 walk_at "dt"
 refine⟨rfl,p,ss*ob-ff*tb,D,rfl,hp,dU,D9,by omega,by omega,fun⟨k1,hk1⟩=>?_⟩
 have X0:=xP (p:=p) (b:=D) (a:=ss*ob-ff*tb) (by omega)
 generalize sol p D (ss*ob-ff*tb)=X at*
 walk_at "dt"
 refine⟨by rw[List.length_map];omega,?_⟩
 refine Sv.seq ?_
 refine Sv.append rfl ?_
 walk_at "dt"
 refine Ev.cZ DA ?_
 walk_at "dt"
 refine⟨rfl,p,ff*ta-ss*oa,D,rfl,hp,dU,D9,by omega,by omega,fun⟨k2,hk2⟩=>?_⟩
 have Y0:=xP (p:=p) (b:=D) (a:=ff*ta-ss*oa) (by omega)
 generalize sol p D (ff*ta-ss*oa)=Y at*
 walk_at "dt"
 refine⟨by rw[List.length_append,List.length_map];show _+1<_;omega,?_⟩
 refine Sv.GF 6 rfl ?_
 obtain⟨ql,pH⟩:∃ql:ak,ql=prs++[(pa,X),(pb,Y)]:=⟨_,rfl⟩
 have MD:List.map pairD prs++[pairD (pa,X)]++[pairD (pb,Y)]=ql.map pairD:=by rw[pH,List.map_append,List.append_assoc];rfl
 have Zc:ql.length<=430:=by rw[pH,List.length_append];show _+2<=_;omega
 have q9:(ql.map pairD).length=ql.length:=List.length_map ..
 refine Sv.ret ?_
 refine ay.ev (ay.fT (by decide) rfl ?_)
 refine Ev.var rfl ?_
 refine⟨List.map pairD prs++[pairD (pa,X)]++[pairD (pb,Y)],rfl,?_⟩
 rw[MD]
 refine⟨by omega,fun v=>⟨false,fun i ds=>ds=((ql.take i).filter fun pr=>decide (pr.2≠0)).map pairD,rfl,?_,?_⟩⟩
 ·rintro i d ds hd hl' rfl
  obtain⟨pr,bz,rfl⟩:=cW hd
  walk_at "dt"
  refine⟨by walk_at "wk",?_⟩
  walk_at "dt"
  have e:(ql.take (i+1)).filter (fun pr=>decide (pr.2≠0))=(ql.take i).filter (fun pr=>decide (pr.2≠0))++if pr.2≠0 then[pr] else[]:=by
   rw[take_snoc bz,List.filter_append]
   by_cases c:pr.2=0<;>simp[c]
  by_cases c:pr.2=0
  ·rw[if_neg (by simp[c])]
   show _=List.map pairD _
   rw[e,if_neg (by simp[c]),List.append_nil]
  ·rw[if_pos (by simp[c])]
   walk_at "dt"
   refine⟨fun z=>(by cases z),?_⟩
   show _=List.map pairD _
   rw[e,if_pos c,List.map_append]
   rfl
 ·rintro ds hl' rfl
  rw[q9,List.take_length]
  obtain⟨g1,g2⟩:=Qc (oa:=oa) (ob:=ob) (ta:=ta) (tb:=tb) (f:=ff) (s:=ss) (x:=X) (y:=Y) hp IQ eD ⟨k1,hk1⟩ ⟨k2,hk2⟩
  refine q _ _ (Nat.le_trans (List.length_filter_le _ _) Zc) (fun pr bz=>?_) ?_ ?_
  ·obtain⟨h1,h2⟩:=List.mem_filter.mp bz
   have h2:pr.2≠0:=of_decide_eq_true h2
   rw[pH] at h1
   rcases List.mem_append.mp h1 with h|h
   ·exact CG pr h
   ·rcases List.mem_cons.mp h with h|h
    ·subst h;exact⟨a0,a1,by omega,X0.2⟩
    ·rw[List.mem_singleton] at h;subst h;exact⟨b0,b1,by omega,Y0.2⟩
  ·rw[qv,pH,BX,jq,jq,N9,Ww]
   have:=Int.dvd_add F2 g1
   rw[show aG prs (w1.map some)+(X*oa+(Y*ob+aG [] (w1.map some)))=aG prs (w1.map some)-ff+(ff+X*oa+Y*ob) by show _+(_+(_+0))=_;omega]
   exact this
  ·rw[qv,pH,BX,jq,jq,Rt,JG]
   have:=Int.dvd_add S2 g2
   rw[show aG prs (w2.map some)+(X*ta+(Y*tb+aG [] (w2.map some)))=aG prs (w2.map some)-ss+(ss+X*ta+Y*tb) by show _+(_+(_+0))=_;omega]
   exact this
def qt:DF:=fun ds Φ=>∃(p:Int) (w1 w2:List Int),ds=[.int p, .list (w1.map .int), .list (w2.map .int)]/\2<=p/\p<10^40/\w1.length<=60/\w2.length=w1.length/\(∀x∈w1,0<=x/\x<p)/\(∀x∈w2,0<=x/\x<p)/\∀c d:Int,Φ true (.list ((gE p c d w1 w2).map .int))
theorem Io:cJ qt:=by
 intro ds Φ Ψ hm z
 obtain⟨p,w1,w2,e,h1,h2,h3,h4,h5,h6,q⟩:=hm
 exact⟨p,w1,w2,e,h1,h2,h3,h4,h5,h6,fun c d=>z _ _ (q c d)⟩
theorem Af:bM ["bag","p","one","two","first","second"] ["bag","p","one","two"] (az lV):=⟨rfl,rfl,rfl,by decide+kernel,rfl,by decide+kernel,by decide+kernel⟩
theorem W7(F:bC K "_law_made" "_law_made" lV f fd)(o9:Callee P w K mg base "_law_letter" 2 ["bag","p"] (eB 2 oE))(bO:mg "range"=none)(bR:mg "len"=none):
  aY P w K mg base bw 3 f fd ["bag","p","one","two"] (eB 4 qt):=by
 refine F.ok Af (fun vs H Q E h=>h.1) (fun cdv A outer s H vs Q E hr h=>?_)
 obtain⟨_,b,l,ws,nb,ds,rfl,hB,hlive,hnb,hds,hF⟩:=h
 obtain⟨Φ,aC,hF⟩:∃Φ:Pd,(∀f d v H',Φ f d->aP (Nb b) H H'->cG H' b l->ah (fun a=>nb a\/(f=true/\H a≠none)) H' d v->Q v H')/\qt ds Φ:=⟨_,fun f d v H' q=>q v H',hF⟩
 obtain⟨p,w1,w2,rfl,p2,dU,n1,hl2,hr1,hr2,q⟩:=hF
 refine⟨_,(@aB _ _ _ _ _ (@aT _ _ (4) _ _ _ _ Af.nd rfl (Or.inr rfl) (@aO _ _ _ _ _ _ _ _ _ _ o9 (hr.mono (by decide)) (@aa _ _ _ _ _ (pv 0) (@aa _ _ _ _ _ (pv 1) aj rfl) rfl) (by rfl) (by decide) (by rfl) (by rfl)) (by rfl) (by first|exact .inl rfl|exact .inr rfl|assumption)) (@aB _ _ _ _ _ (@aT _ _ (5) _ _ _ _ Af.nd rfl (Or.inr rfl) (@aO _ _ _ _ _ _ _ _ _ _ o9 (hr.mono (by decide)) (@aa _ _ _ _ _ (pv 0) (@aa _ _ _ _ _ (pv 1) aj rfl) rfl) (by rfl) (by decide) (by rfl) (by rfl)) (by rfl) (by first|exact .inl rfl|exact .inr rfl|assumption)) (@aD _ _ _ (@aV _ _ _ _ (dH (bQ.of (show cy (az lV) ["bag","p","one","two","first","second"] _ ["k","p","one","two","first","second"] [none,some 1,some 2,some 3,some 4,some 5]=true by decide+kernel)) (@gz _ _ _ _ _ _ rfl bO (@aa _ _ _ _ _ (@bT _ _ _ _ _ _ _ _ (gk K) ia rfl bR PySem.boot_len (@aa _ _ _ _ _ (pv 2) aj rfl) (by decide) (by decide) (by rfl) (by rfl)) aj rfl) (by rfl)) (fun _ _ _ _=>⟨(aK (i:=0) (by show List.Nodup (["k","p","one","two","first","second"]:List Str);decide+kernel) rfl (Or.inl rfl)),eG,(@aF _ _ _ _ _ _ _ _ fh (@aF _ _ _ _ _ _ _ _ ez (@aF _ _ _ _ _ _ _ _ dO (pv 4) (@aJ _ _ _ _ _ _ (bI K) aZ (pv 2) (pv 0) (fun _ _=>rfl))) (@aF _ _ _ _ _ _ _ _ dO (pv 5) (@aJ _ _ _ _ _ _ (bI K) aZ (pv 3) (pv 0) (fun _ _=>rfl)))) (pv 1))⟩)))))),?_⟩
 refine Sv.kR hB hlive hnb hds aC (ρ:=[.aA, .d false _, .d false _, .d false _, .no, .no]) rfl ?_
 clear aC hds
 have hm1:((w1.map PyData.int).length:Int)=w1.length:=by rw[List.length_map]
 walk_at "dt"
 refine Ev.gZ qY rfl ?_
 walk_at "dt"
 refine⟨rfl,p,rfl,p2,dU,fun c c0 c1=>?_⟩
 walk_at "dt"
 refine Ev.gZ qY rfl ?_
 walk_at "dt"
 refine⟨rfl,p,rfl,p2,dU,fun d d0 d1=>?_⟩
 walk_at "dt"
 refine ay.ev (ay.ig (by decide) rfl ?_)
 refine Ev.m8 ?_
 refine Ev.var rfl ?_
 refine⟨_, .inl rfl,_,rfl,by omega,by omega,?_⟩
 rw[show((w1.map PyData.int).length:Int).toNat=w1.length by omega]
 refine⟨true,fun i ds=>ds=((List.range i).map fun i=>(c*gW w1 i+d*gW w2 i)%p).map .int,rfl,?_,?_⟩
 ·rintro i e ds ⟨hi,rfl⟩ hl' rfl
  have gr:∀{w:List Int},(∀x∈w,0<=x/\x<p)->i<w.length->bB (w.map PyData.int) (0+(i:Int))=some (.int (gW w i))/\Sm (gW w i):=fun{w} h h1=>by
   unfold gW
   rw[List.getD_eq_getElem?_getD,List.getElem?_eq_getElem h1]
   refine⟨gC (by omega) (by rw[show(0+(i:Int)).toNat=i by omega,List.getElem?_map,List.getElem?_eq_getElem h1];rfl),?_⟩
   have:=h _ (List.getElem_mem h1)
   show Sm w[i]
   unfold Sm;omega
  obtain⟨e1,s1⟩:=gr hr1 hi
  obtain⟨e2,s2⟩:=gr hr2 (by omega)
  have s3:Sm c:=by unfold Sm;omega
  have s4:Sm d:=by unfold Sm;omega
  walk_at "dt"
  refine⟨by walk_at "wk",?_⟩
  walk_at "dt"
  show _=List.map PyData.int (List.map _ (List.range (i+1)))
  rw[List.range_succ,List.map_append,List.map_append]
  rfl
 ·rintro ds hl' rfl
  exact q c d
abbrev B4(a:Addr)(uu p n:Int)(w1 w2:List Int)(wide:Int)(lD cs:List ak)(A B:List Int)(jw OW Mp Wf p8 pP:Sl):Rh:=[.raw (.ref a), .aA, .d true (.int uu), .d true (.int p), .d true (.int n), .d true (.list (w1.map .int)), .d true (.list (w2.map .int)), .d true (.int wide), .d false (.list (lD.map dg)), .d false (cS p n cs), .d false (.list [.list (A.map .int), .list (B.map .int)]),jw,OW,Mp,Wf,p8,pP]
theorem eY:bM ["script","bag","often","p","n","one","two","wide","checks","net","words","word","unlike","lot","due","lossy","found"] ["script"] (az fV):=⟨rfl,rfl,rfl,by decide+kernel,rfl,by decide+kernel,by decide+kernel⟩
theorem VC(F:bC K "law" "law" fV f fd)(Vi:Callee P w K mg base "_law_bag" 1 ["script"] (C4 K))(Zp:Callee P w K mg base "_law_prime" 2 ["bag"] (eB 1 tT))(Cw:Callee P w K mg base "_law_letters" 3 ["bag","p","n"] (eB 3 qE))(WY:Callee P w K mg base "_law_peeled" 1 ["checks","lot"] (bJ 2 qD))(d8:Callee P w K mg base "_law_draw" 1 ["bag","many"] jg)(Lp:Callee P w K mg base "_law_check" 3 ["bag","p","one","two","wide"] (eB 5 qR))(GY:Callee P w K mg base "_law_made" 3 ["bag","p","one","two"] (eB 4 qt))(OG:Callee P w K mg base "holds_out" 2 ["net","lot"] (bJ 2 sH))(pF:Callee P w K mg base "_law_alike" 3 ["found","due"] (bJ 2 (kY 3)))(Mh:Callee P w K mg base "mended" 8 ["net","word"] (bJ 2 sA))(N6:Callee P w K mg base "is_true" 4 ["net","word"] (bJ 2 sR))(oA:Callee P w K mg base "_law_copy" 1 ["net"] (bJ 1 sq))(ED:Callee P w K mg base "greatest" 2 ["net","lot"] (bJ 2 qJ))(bO:mg "range"=none)(cB:mg "list"=none)(fj:mg "isinstance"=none)(jH:mg "tuple"=none)(bR:mg "len"=none):
    aY P w K mg base bw 9 f fd ["script"] (um K):=by
  refine F.ok eY (fun vs H Q E h=>?_) (fun cdv A outer s H vs Q E hr h=>?_)
  · obtain⟨a,ns,rfl,hS,hl,q⟩:=h
    rfl
  obtain⟨a,ns,rfl,hS,hl,q⟩:=h
  refine⟨_,(@aB _ _ _ _ _ (@aT _ _ (1) _ _ _ _ eY.nd rfl (Or.inr rfl) (@aO _ _ _ _ _ _ _ _ _ _ Vi (hr.mono (by decide)) (@aa _ _ _ _ _ (pv 0) aj rfl) (by rfl) (by decide) (by rfl) (by rfl)) (by rfl) (by first|exact .inl rfl|exact .inr rfl|assumption)) (@aB _ _ _ _ _ (@aT _ _ (2) _ _ _ _ eY.nd rfl (Or.inr rfl) (@aJ _ _ _ _ _ _ (bI K) aZ (@gm _ _ _ _ (@Gf _ _ _ rfl)) (@aO _ _ _ _ _ _ _ _ _ _ d8 (hr.mono (by decide)) (@aa _ _ _ _ _ (pv 1) (@aa _ _ _ _ _ ao aj rfl) rfl) (by rfl) (by decide) (by rfl) (by rfl)) (fun _ _=>rfl)) (by rfl) (by first|exact .inl rfl|exact .inr rfl|assumption)) (@aB _ _ _ _ _ (@aT _ _ (3) _ _ _ _ eY.nd rfl (Or.inr rfl) (@aO _ _ _ _ _ _ _ _ _ _ Zp (hr.mono (by decide)) (@aa _ _ _ _ _ (pv 1) aj rfl) (by rfl) (by decide) (by rfl) (by rfl)) (by rfl) (by first|exact .inl rfl|exact .inr rfl|assumption)) (@aB _ _ _ _ _ (@aT _ _ (4) _ _ _ _ eY.nd rfl (Or.inl rfl) (@aF _ _ _ _ _ _ _ _ ez ao (@aO _ _ _ _ _ _ _ _ _ _ d8 (hr.mono (by decide)) (@aa _ _ _ _ _ (pv 1) (@aa _ _ _ _ _ ao aj rfl) rfl) (by rfl) (by decide) (by rfl) (by rfl))) (by rfl) (by first|exact .inl rfl|exact .inr rfl|assumption)) (@aB _ _ _ _ _ (@aT _ _ (5) _ _ _ _ eY.nd rfl (Or.inr rfl) (@aO _ _ _ _ _ _ _ _ _ _ Cw (hr.mono (by decide)) (@aa _ _ _ _ _ (pv 1) (@aa _ _ _ _ _ (pv 3) (@aa _ _ _ _ _ (pv 4) aj rfl) rfl) rfl) (by rfl) (by decide) (by rfl) (by rfl)) (by rfl) (by first|exact .inl rfl|exact .inr rfl|assumption)) (@aB _ _ _ _ _ (@aT _ _ (6) _ _ _ _ eY.nd rfl (Or.inr rfl) (@aO _ _ _ _ _ _ _ _ _ _ Cw (hr.mono (by decide)) (@aa _ _ _ _ _ (pv 1) (@aa _ _ _ _ _ (pv 3) (@aa _ _ _ _ _ (pv 4) aj rfl) rfl) rfl) (by rfl) (by decide) (by rfl) (by rfl)) (by rfl) (by first|exact .inl rfl|exact .inr rfl|assumption)) (@aB _ _ _ _ _ (@aT _ _ (7) _ _ _ _ eY.nd rfl (Or.inr rfl) (@aF _ _ _ _ _ _ _ _ ez ao (@aO _ _ _ _ _ _ _ _ _ _ d8 (hr.mono (by decide)) (@aa _ _ _ _ _ (pv 1) (@aa _ _ _ _ _ ao aj rfl) rfl) (by rfl) (by decide) (by rfl) (by rfl))) (by rfl) (by first|exact .inl rfl|exact .inr rfl|assumption)) (@aB _ _ _ _ _ (kq (i:=8) eY.nd rfl rfl (bQ.of (show cy (az fV) ["script","bag","often","p","n","one","two","wide","checks","net","words","word","unlike","lot","due","lossy","found"] _ ["k","bag","p","one","two","wide"] [none,some 1,some 3,some 5,some 6,some 7]=true by decide+kernel)) (@gz _ _ _ _ _ _ rfl bO (@aa _ _ _ _ _ (@aO _ _ _ _ _ _ _ _ _ _ d8 (hr.mono (by decide)) (@aa _ _ _ _ _ (pv 1) (@aa _ _ _ _ _ ao aj rfl) rfl) (by rfl) (by decide) (by rfl) (by rfl)) aj rfl) (by rfl)) (fun _ _ _ _=>⟨(aK (i:=0) (by show List.Nodup (["k","bag","p","one","two","wide"]:List Str);decide+kernel) rfl (Or.inl rfl)),eG,(@aO _ _ _ _ _ _ _ _ _ _ Lp (hr.mono (by decide)) (@aa _ _ _ _ _ (pv 1) (@aa _ _ _ _ _ (pv 2) (@aa _ _ _ _ _ (pv 3) (@aa _ _ _ _ _ (pv 4) (@aa _ _ _ _ _ (pv 5) aj rfl) rfl) rfl) rfl) rfl) (by rfl) (by decide) (by rfl) (by rfl))⟩)) (@aB _ _ _ _ _ (@aT _ _ (9) _ _ _ _ eY.nd rfl (Or.inl rfl) (@fQ _ _ _ _ _ (@aa _ _ _ _ _ (pv 3) (@aa _ _ _ _ _ (pv 4) (@aa _ _ _ _ _ (dH (bQ.of (show cy (az fV) ["script","bag","often","p","n","one","two","wide","checks","net","words","word","unlike","lot","due","lossy","found"] _ ["pairs"] [none]=true by decide+kernel)) (cN (K:=K) rfl (pv 8)) (fun _ _ _ _=>⟨(aK (i:=0) (by show List.Nodup (["pairs"]:List Str);decide+kernel) rfl (Or.inl rfl)),(g6 (@bu _ _ _ _ _ _ _ _ (vU hr.units) (pv 0) (@gm _ _ _ _ aj) (bG _))),(pv 0)⟩)) aj rfl) rfl) rfl)) (by rfl) (by first|exact .inl rfl|exact .inr rfl|assumption)) (@aB _ _ _ _ _ (@aT _ _ (10) _ _ _ _ eY.nd rfl (Or.inr rfl) (@gm _ _ _ _ (@aa _ _ _ _ _ (@aO _ _ _ _ _ _ _ _ _ _ GY (hr.mono (by decide)) (@aa _ _ _ _ _ (pv 1) (@aa _ _ _ _ _ (pv 3) (@aa _ _ _ _ _ (pv 5) (@aa _ _ _ _ _ (pv 6) aj rfl) rfl) rfl) rfl) (by rfl) (by decide) (by rfl) (by rfl)) (@aa _ _ _ _ _ (@aO _ _ _ _ _ _ _ _ _ _ GY (hr.mono (by decide)) (@aa _ _ _ _ _ (pv 1) (@aa _ _ _ _ _ (pv 3) (@aa _ _ _ _ _ (pv 5) (@aa _ _ _ _ _ (pv 6) aj rfl) rfl) rfl) rfl) (by rfl) (by decide) (by rfl) (by rfl)) aj rfl) rfl)) (by rfl) (by first|exact .inl rfl|exact .inr rfl|assumption)) (@aB _ _ _ _ _ (@fM _ _ _ _ _ _ _ _ PassesOwn.never rfl (cN (K:=K) rfl (pv 10)) (aK (i:=11) eY.nd rfl (Or.inr rfl)) (@aD _ _ _ (@cV _ _ _ _ _ _ _ _ (@bu _ _ _ _ _ _ _ _ GZ (@aO _ _ _ _ _ _ _ _ _ _ N6 (hr.mono (by decide)) (@aa _ _ _ _ _ (@aO _ _ _ _ _ _ _ _ _ _ oA (hr.mono (by decide)) (@aa _ _ _ _ _ (pv 9) aj rfl) (by rfl) (by decide) (by rfl) (by rfl)) (@aa _ _ _ _ _ (@gy _ _ _ _ _ _ _ _ (iz K) kc rfl cB PyProof.Rows.boot_list (@aa _ _ _ _ _ (pv 11) aj rfl) (by decide) (by decide) (by rfl) (by rfl)) aj rfl) rfl) (by rfl) (by decide) (by rfl) (by rfl)) gf (bG _)) (@aD _ _ _ (@aV _ _ _ _ gf)) cX)) (by intro _;rfl)) (@aB _ _ _ _ _ (@aT _ _ (12) _ _ _ _ eY.nd rfl (Or.inr rfl) (dH (bQ.of (show cy (az fV) ["script","bag","often","p","n","one","two","wide","checks","net","words","word","unlike","lot","due","lossy","found"] _ ["k","words"] [none,some 10]=true by decide+kernel)) (@gz _ _ _ _ _ _ rfl bO (@aa _ _ _ _ _ (pv 4) aj rfl) (by rfl)) (fun _ _ _ _=>⟨(aK (i:=0) (by show List.Nodup (["k","words"]:List Str);decide+kernel) rfl (Or.inl rfl)),(g6 (@bu _ _ _ _ _ _ _ _ iS (@aJ _ _ _ _ _ _ (bI K) aZ (@aJ _ _ _ _ _ _ (bI K) aZ (pv 1) ao (fun _ _=>rfl)) (pv 0) (fun _ _=>rfl)) (@aJ _ _ _ _ _ _ (bI K) aZ (@aJ _ _ _ _ _ _ (bI K) aZ (pv 1) ao (fun _ _=>rfl)) (pv 0) (fun _ _=>rfl)) (bG _))),(pv 0)⟩)) (by rfl) (by first|exact .inl rfl|exact .inr rfl|assumption)) (@aB _ _ _ _ _ (@cV _ _ _ _ _ _ _ _ (@bu _ _ _ _ _ _ _ _ GZ (@aO _ _ _ _ _ _ _ _ _ _ OG (hr.mono (by decide)) (@aa _ _ _ _ _ (@aO _ _ _ _ _ _ _ _ _ _ oA (hr.mono (by decide)) (@aa _ _ _ _ _ (pv 9) aj rfl) (by rfl) (by decide) (by rfl) (by rfl)) (@aa _ _ _ _ _ (@gy _ _ _ _ _ _ _ _ (iz K) kc rfl cB PyProof.Rows.boot_list (@aa _ _ _ _ _ (pv 12) aj rfl) (by decide) (by decide) (by rfl) (by rfl)) aj rfl) rfl) (by rfl) (by decide) (by rfl) (by rfl)) gf (bG _)) (@aD _ _ _ (@aV _ _ _ _ gf)) cX) (@aB _ _ _ _ _ (@cV _ _ _ _ _ _ _ _ (@oF _ _ _ _ (@kj _ (K) _ _ rfl (@aO _ _ _ _ _ _ _ _ _ _ pF (hr.mono (by decide)) (@aa _ _ _ _ _ (@aO _ _ _ _ _ _ _ _ _ _ ED (hr.mono (by decide)) (@aa _ _ _ _ _ (@aO _ _ _ _ _ _ _ _ _ _ oA (hr.mono (by decide)) (@aa _ _ _ _ _ (pv 9) aj rfl) (by rfl) (by decide) (by rfl) (by rfl)) (@aa _ _ _ _ _ (@gy _ _ _ _ _ _ _ _ (iz K) kc rfl cB PyProof.Rows.boot_list (@aa _ _ _ _ _ (pv 12) aj rfl) (by decide) (by decide) (by rfl) (by rfl)) aj rfl) rfl) (by rfl) (by decide) (by rfl) (by rfl)) (@aa _ _ _ _ _ (pv 12) aj rfl) rfl) (by rfl) (by decide) (by rfl) (by rfl)) (fun _=>rfl))) (@aD _ _ _ (@aV _ _ _ _ gf)) cX) (@aB _ _ _ _ _ (@aT _ _ (13) _ _ _ _ eY.nd rfl (Or.inr rfl) (dH (bQ.of (show cy (az fV) ["script","bag","often","p","n","one","two","wide","checks","net","words","word","unlike","lot","due","lossy","found"] _ ["k","bag","often","unlike"] [none,some 1,some 2,some 12]=true by decide+kernel)) (@gz _ _ _ _ _ _ rfl bO (@aa _ _ _ _ _ (pv 4) aj rfl) (by rfl)) (fun _ _ _ _=>⟨(aK (i:=0) (by show List.Nodup (["k","bag","often","unlike"]:List Str);decide+kernel) rfl (Or.inl rfl)),(g6 (PW.pt (qi (@bu _ _ _ _ _ _ _ _ fP (@aO _ _ _ _ _ _ _ _ _ _ d8 (hr.mono (by decide)) (@aa _ _ _ _ _ (pv 1) (@aa _ _ _ _ _ (pv 2) aj rfl) rfl) (by rfl) (by decide) (by rfl) (by rfl)) ao (bG _)) (pX (bu (rO (K:=K) (by rfl)) (pv 0) (pv 3) (by with_unfolding_all rfl)))))),(pv 0)⟩)) (by rfl) (by first|exact .inl rfl|exact .inr rfl|assumption)) (@aB _ _ _ _ _ (@aT _ _ (14) _ _ _ _ eY.nd rfl (Or.inr rfl) (@aO _ _ _ _ _ _ _ _ _ _ WY (hr.mono (by decide)) (@aa _ _ _ _ _ (@aJ _ _ _ _ _ _ (cO K) dD (pv 9) ao (fun _ _=>rfl)) (@aa _ _ _ _ _ (pv 13) aj rfl) rfl) (by rfl) (by decide) (by rfl) (by rfl)) (by rfl) (by first|exact .inl rfl|exact .inr rfl|assumption)) (@aB _ _ _ _ _ (@cV _ _ _ _ _ _ _ _ (PW.pt (qi (@oF _ _ _ _ (@kj _ (K) _ _ rfl (@aO _ _ _ _ _ _ _ _ _ _ pF (hr.mono (by decide)) (@aa _ _ _ _ _ (@aO _ _ _ _ _ _ _ _ _ _ ED (hr.mono (by decide)) (@aa _ _ _ _ _ (@aO _ _ _ _ _ _ _ _ _ _ oA (hr.mono (by decide)) (@aa _ _ _ _ _ (pv 9) aj rfl) (by rfl) (by decide) (by rfl) (by rfl)) (@aa _ _ _ _ _ (@gy _ _ _ _ _ _ _ _ (iz K) kc rfl cB PyProof.Rows.boot_list (@aa _ _ _ _ _ (pv 13) aj rfl) (by decide) (by decide) (by rfl) (by rfl)) aj rfl) rfl) (by rfl) (by decide) (by rfl) (by rfl)) (@aa _ _ _ _ _ (pv 14) aj rfl) rfl) (by rfl) (by decide) (by rfl) (by rfl)) (fun _=>rfl))) (pX (@bu _ _ _ _ _ _ _ _ (vU hr.units) (dH (bQ.of (show cy (az fV) ["script","bag","often","p","n","one","two","wide","checks","net","words","word","unlike","lot","due","lossy","found"] _ ["k","due"] [none,some 14]=true by decide+kernel)) (cN (K:=K) rfl (pv 12)) (fun _ _ _ _=>⟨(aK (i:=0) (by show List.Nodup (["k","due"]:List Str);decide+kernel) rfl (Or.inl rfl)),(g6 (bu (GN (K:=K) (by rfl)) (pv 0) (pv 1) (by with_unfolding_all rfl))),(pv 0)⟩)) (@gm _ _ _ _ aj) (bG _))))) (@aD _ _ _ (@aV _ _ _ _ gf)) cX) (@aB _ _ _ _ _ (@fM _ _ _ _ _ _ _ _ PassesOwn.never rfl (cN (K:=K) rfl (pv 10)) (aK (i:=11) eY.nd rfl (Or.inr rfl)) (@aB _ _ _ _ _ (kq (i:=15) eY.nd rfl rfl (bQ.of (show cy (az fV) ["script","bag","often","p","n","one","two","wide","checks","net","words","word","unlike","lot","due","lossy","found"] _ ["k","word","lot"] [none,some 11,some 13]=true by decide+kernel)) (@gz _ _ _ _ _ _ rfl bO (@aa _ _ _ _ _ (pv 4) aj rfl) (by rfl)) (fun _ _ _ _=>⟨(aK (i:=0) (by show List.Nodup (["k","word","lot"]:List Str);decide+kernel) rfl (Or.inl rfl)),eG,(@zj _ _ _ _ _ _ _ _ (bu (rO (K:=K) (by rfl)) (pv 0) (pv 2) (by with_unfolding_all rfl)) iX (@aJ _ _ _ _ _ _ (bI K) aZ (pv 1) (pv 0) (fun _ _=>rfl)))⟩)) (@aB _ _ _ _ _ (@aT _ _ (16) _ _ _ _ eY.nd rfl (Or.inl rfl) (@aO _ _ _ _ _ _ _ _ _ _ Mh (hr.mono (by decide)) (@aa _ _ _ _ _ (@aO _ _ _ _ _ _ _ _ _ _ oA (hr.mono (by decide)) (@aa _ _ _ _ _ (pv 9) aj rfl) (by rfl) (by decide) (by rfl) (by rfl)) (@aa _ _ _ _ _ (pv 15) aj rfl) rfl) (by rfl) (by decide) (by rfl) (by rfl)) (by rfl) (by first|exact .inl rfl|exact .inr rfl|assumption)) (@aB _ _ _ _ _ (@cV _ _ _ _ _ _ _ _ (PW.pt (qi (@oF _ _ _ _ (@kj _ (K) _ _ rfl (@bT _ _ _ _ _ _ _ _ (iE K) jr rfl fj PyProof.Rows.boot_isinstance (@aa _ _ _ _ _ (pv 16) (@aa _ _ _ _ _ (gV (v:= .ty "tuple") rfl jH PyProof.Rows.boot_tuple rfl) aj rfl) rfl) (by decide) (by decide) (by rfl) (by rfl)) (fun _=>rfl))) (pX (@bu _ _ _ _ _ _ _ _ iS (@bT _ _ _ _ _ _ _ _ (gk K) ia rfl bR PySem.boot_len (@aa _ _ _ _ _ (pv 16) aj rfl) (by decide) (by decide) (by rfl) (by rfl)) ao (bG _))))) (@aD _ _ _ (@aV _ _ _ _ gf)) cX) (@aD _ _ _ (@cV _ _ _ _ _ _ _ _ (@oF _ _ _ _ (@kj _ (K) _ _ rfl (@aO _ _ _ _ _ _ _ _ _ _ pF (hr.mono (by decide)) (@aa _ _ _ _ _ (@aJ _ _ _ _ _ _ (cO K) dD (pv 16) ao (fun _ _=>rfl)) (@aa _ _ _ _ _ (dH (bQ.of (show cy (az fV) ["script","bag","often","p","n","one","two","wide","checks","net","words","word","unlike","lot","due","lossy","found"] _ ["k","word","due"] [none,some 11,some 14]=true by decide+kernel)) (@gz _ _ _ _ _ _ rfl bO (@aa _ _ _ _ _ (pv 4) aj rfl) (by rfl)) (fun _ _ _ _=>⟨(aK (i:=0) (by show List.Nodup (["k","word","due"]:List Str);decide+kernel) rfl (Or.inl rfl)),eG,(@zj _ _ _ _ _ _ _ _ (bu (rO (K:=K) (by rfl)) (pv 0) (pv 2) (by with_unfolding_all rfl)) iX (@aJ _ _ _ _ _ _ (bI K) aZ (pv 1) (pv 0) (fun _ _=>rfl)))⟩)) aj rfl) rfl) (by rfl) (by decide) (by rfl) (by rfl)) (fun _=>rfl))) (@aD _ _ _ (@aV _ _ _ _ gf)) cX))))) (by intro _;rfl)) (@aD _ _ _ (@aV _ _ _ _ gf)))))))))))))))))))),?_⟩
  walk_at "st"
  refine⟨a,ns,rfl,hS,hl,fun b l H1 s1 f1 B1=>?_⟩
  have key:∀(t:TS) (D:Ends),(∀H,D.rt (.bl true) H)->Sv (vq b l H1) [.raw (.ref a), .aA, .no, .no, .no, .no, .no, .no, .no, .no, .no, .no, .no, .no, .no, .no, .no] t {nx:=fun _=>False,rt:=fun _ d=>d= .bool true}->t D [some (.ref a),some (.ref b),none,none,none,none,none,none,none,none,none,none,none,none,none,none,none] H1:=fun t D d2 h=>h _ _ _ D (Sy (m:=15) B1) (Lx d2)
  refine R.Gi ?_
  dsimp only
  refine key _ _ (fun H=>?_) ?_
  · exact q _
  clear key q
  walk_at "dt"
  intro r0 r00 r01
  obtain⟨uu,Kl,o0,o1⟩:=pick (L:=[1,2,4]) r00 (by show r0<3;omega) (fun x=>1<=x/\x<=4) (by decide)
  refine⟨_,rfl,_,Kl,?_⟩
  refine Gv.je ?_
  walk_at "dt"
  refine Ev.gZ M7 rfl ?_
  walk_at "dt"
  refine⟨rfl,fun p hp dU f0=>?_⟩
  have p2:=hp.1
  walk_at "dt"
  intro r1 r10 r11
  walk_at "dt"
  obtain⟨n,en,n0,n1⟩:∃n:Int,2+r1=n/\2<=n/\n<=12:=⟨_,rfl,by omega,by omega⟩
  rw[en]
  refine Ev.gZ HM rfl ?_
  walk_at "dt"
  refine⟨rfl,p,n,rfl,p2,dU,by omega,by omega,fun w1 hl1 hr1=>?_⟩
  refine Gv.name ?_
  walk_at "dt"
  refine Ev.gZ HM rfl ?_
  walk_at "dt"
  refine⟨rfl,p,n,rfl,p2,dU,by omega,by omega,fun w2 hl2 hr2=>?_⟩
  refine Gv.name ?_
  have sQ:w2.length=w1.length:=by omega
  walk_at "dt"
  intro r2 r20 r21
  walk_at "dt"
  obtain⟨wide,ew,MF,wd1⟩:∃n:Int,3+r2=n/\1<=n/\n<=6:=⟨_,rfl,by omega,by omega⟩
  rw[ew]
  refine ay.ev (ay.ig (by decide) rfl ?_)
  walk_at "dt"
  intro r3 r30 r31
  walk_at "dt"
  refine fY.rel dg false (fun _ prs=>prs.length<=430/\(∀pr∈prs,0<=pr.1/\pr.1<w1.length/\1<=pr.2/\pr.2<p)/\p∣aG prs (w1.map some)/\p∣aG prs (w2.map some)) ?_ fun lD TU GH=>?_
  · rintro i d ⟨hi,rfl⟩
    walk_at "dt"
    refine⟨by walk_at "wk",?_⟩
    refine Ev.gZ Sf rfl ?_
    walk_at "dt"
    refine⟨rfl,p,wide,w1,w2,rfl,hp,dU,by omega,by omega,sQ,hr1,hr2,MF,by omega,fun prs f h1 h2 h3 h4=>?_⟩
    exact⟨(fun z=>by cases z),prs,rfl,h1,h2,h3,h4⟩
  have FF:(lD.map dg).length=lD.length:=List.length_map ..
  walk_at "dt"
  refine ay.ev (ay.fT (by decide) rfl ?_)
  walk_at "dt"
  refine fun v=>⟨false,fun i ds=>∃ks:List ak,ds=ks.map dg/\ks.length<=i/\∀prs∈ks,prs∈lD,⟨[],rfl,Nat.le_refl _,fun _ h=>nomatch h⟩,?_,?_⟩
  · rintro i d ds hd hl' ⟨ks,rfl,hkl,hks⟩
    obtain⟨prs,bf,rfl⟩:=cW hd
    walk_at "dt"
    refine⟨by walk_at "wk",?_⟩
    walk_at "dt"
    refine⟨(Xs prs).1,rfl,_,rfl,?_⟩
    generalize (PyData.eqv (PyData.list (prs.map pairD)) (PyData.list (([]:List Fd).map (·.2))) !=true)=bb
    cases bb with
    | true =>
      rw[if_pos rfl]
      walk_at "dt"
      refine⟨ks++[prs],by rw[List.map_append];rfl,by simp;omega,fun u hu=>?_⟩
      rcases List.mem_append.mp hu with h|h
      · exact hks u h
      · rw[List.mem_singleton.mp h];exact List.mem_of_getElem? bf
    | false =>
      rw[if_neg Bool.false_ne_true]
      exact⟨ks,rfl,by omega,hks⟩
  rintro ds hl' ⟨cs,rfl,hcl,hcs'⟩
  rw[FF] at hcl
  have hcs:∀prs∈cs,prs.length<=430/\(∀pr∈prs,0<=pr.1/\pr.1<w1.length/\1<=pr.2/\pr.2<p)/\p∣aG prs (w1.map some)/\p∣aG prs (w2.map some):=fun prs bf=>by
    obtain⟨k,hk⟩:=List.getElem?_of_mem (hcs' prs bf)
    exact GH k prs hk
  have aaU:cs.length<=16:=by omega
  clear hcs' GH hcl TU FF
  have pV:∀{m:Nat},m=w1.length->∀prs∈cs,jt prs m:=fun{m} e prs bf pr bz=>by
    obtain⟨a1,a2,a3,a4⟩:=(hcs prs bf).2.1 pr bz
    exact⟨a1,by omega,by unfold Sm;omega⟩
  have PX:e7 p cs w1.length:=⟨hp,dU,by omega,fun prs bf=>⟨by have:=(hcs prs bf).1;omega,pV rfl prs bf,fun pr bz=>by
    obtain⟨a1,a2,a3,a4⟩:=(hcs prs bf).2.1 pr bz
    rw[Int.emod_eq_of_lt (by omega) a4];omega⟩⟩
  have hLN:lg n cs:=⟨by omega,by omega,by omega,ZK (m:=430) (fun prs bf=>(hcs prs bf).1) (by omega),fun prs bf pr bz=>by
    obtain⟨a1,a2,_⟩:=(hcs prs bf).2.1 pr bz
    exact⟨a1,by omega⟩⟩
  have yb:∀prs∈cs,prs.length<=10000:=fun prs bf=>by have:=(hcs prs bf).1;omega
  walk_at "dt"
  refine Ev.gZ Io rfl ?_
  walk_at "dt"
  refine⟨rfl,p,w1,w2,rfl,p2,dU,by omega,sQ,hr1,hr2,fun c1 d1=>?_⟩
  walk_at "dt"
  refine Ev.gZ Io rfl ?_
  walk_at "dt"
  refine⟨rfl,p,w1,w2,rfl,p2,dU,by omega,sQ,hr1,hr2,fun c2 d2=>?_⟩
  have xr:∀c d:Int,(gE p c d w1 w2).length=w1.length/\(∀x∈gE p c d w1 w2,0<=x/\x<p)/\∀prs∈cs,aG prs ((gE p c d w1 w2).map some)%p=0:=fun c d=>by
    refine⟨by unfold gE;rw[List.length_map,List.length_range],fun x hx=>?_,fun prs bf=>?_⟩
    · unfold gE at hx
      obtain⟨i,_,rfl⟩:=List.mem_map.mp hx
      exact⟨Int.emod_nonneg _ (by omega),Int.emod_lt_of_pos _ (by omega)⟩
    · obtain⟨_,h2,h3,h4⟩:=hcs prs bf
      exact Int.emod_eq_zero_of_dvd (VW (fun pr bz=>⟨(h2 pr bz).1,(h2 pr bz).2.1⟩) sQ h3 h4)
  obtain⟨A,hA⟩:∃A,A=gE p c1 d1 w1 w2:=⟨_,rfl⟩
  obtain⟨B,hB⟩:∃B,B=gE p c2 d2 w1 w2:=⟨_,rfl⟩
  obtain⟨lA,rA,tA⟩:=xr c1 d1
  obtain⟨lB,rB,tB⟩:=xr c2 d2
  rw[<-hA] at lA rA tA
  rw[<-hB] at lB rB tB
  rw[<-hA,<-hB]
  clear xr hA hB
  have IG:∀{w:List Int},w=A\/w=B->w.length=w1.length/\(∀x∈w,0<=x/\x<p)/\∀prs∈cs,aG prs (w.map some)%p=0:=fun{w} h=>by
    rcases h with h|h<;>subst h
    · exact⟨lA,rA,tA⟩
    · exact⟨lB,rB,tB⟩
  walk_at "dt"
  refine Sv.forL ?_
  refine Ev.var rfl ?_
  refine⟨[.list (A.map .int), .list (B.map .int)],rfl,fun v=>⟨fun i ρ=>∃jw,ρ=B4 a uu p n w1 w2 wide lD cs A B jw .no .no .no .no .no,⟨_,rfl⟩,?_,?_⟩⟩
  · rintro i d ρ hd ⟨jw,rfl⟩
    obtain⟨w,rfl,hw⟩:∃w:List Int,d= .list (w.map .int)/\(w=A\/w=B):=by
      rcases List.mem_cons.mp (List.mem_of_getElem? hd) with e|e
      · exact⟨A,e, .inl rfl⟩
      · exact⟨B,List.mem_singleton.mp e, .inr rfl⟩
    obtain⟨lw,rw',tw⟩:=IG hw
    refine Gv.kP ?_
    walk_at "dt"
    refine Ev.cZ Lb ?_
    walk_at "dt"
    refine Ev.cZ pM ?_
    walk_at "dt"
    refine⟨rfl,p,n,cs,rfl,by omega,fun f5=>?_⟩
    walk_at "dt"
    refine⟨rfl,p,n,cs,w.map some,by show[_,PyData.list _]=[_,PyData.list _];rw[List.map_map];rfl,by omega,by omega,pV (by rw[List.length_map];exact lw),fun x hx=>by
      obtain⟨y,hy,e⟩:=List.mem_map.mp hx
      cases e
      have:=rw' x hy
      unfold Sm;omega,?_⟩
    rw[decide_eq_true (show nY p cs (w.map some) from⟨fun z=>by simp at z,tw⟩)]
    walk_at "dt"
    exact⟨_,rfl⟩
  rintro ρ ⟨jw,rfl⟩
  have sG:∀{w:List Int} {k:Int},w.length=w1.length->0<=k->k<n->bB (w.map PyData.int) k=some (.int (gW w k.toNat)):=fun{w k} h h0 h1=>gC h0 (by rw[List.getElem?_map,xU (by omega)];rfl)
  refine Sv.seq ?_
  refine Sv.rq ?_
  refine ay.ev (ay.ig (by decide) rfl ?_)
  walk_at "dt"
  refine⟨true,fun i ds=>ds=(((List.range i).filter fun i=>decide (gW A i≠gW B i)).map fun(i:Nat)=>(i:Int)).map .int,rfl,?_,?_⟩
  · rintro i d ds ⟨hi,rfl⟩ hl' rfl
    have e1:=sG lA (k:=0+(i:Int)) (by omega) (by omega)
    have e2:=sG lB (k:=0+(i:Int)) (by omega) (by omega)
    rw[show(0+(i:Int)).toNat=i by omega] at e1 e2
    walk_at "dt"
    refine⟨by walk_at "wk",?_⟩
    walk_at "dt"
    by_cases c:gW A i=gW B i
    · rw[if_neg (by simpa using c)]
      show _=List.map _ (List.map _ (List.filter _ (List.range (i+1))))
      rw[List.range_succ,List.filter_append,List.filter_cons_of_neg (by simpa using c)]
      simp
    · rw[if_pos (by simpa using c)]
      walk_at "dt"
      show _=List.map _ (List.map _ (List.filter _ (List.range (i+1))))
      rw[List.range_succ,List.filter_append,List.filter_cons_of_pos (by simpa using c)]
      simp
  rintro ds hl' rfl
  have eU:((List.range n.toNat).filter fun i=>decide (gW A i≠gW B i)).map (fun(i:Nat)=>(i:Int))=iK A B:=by unfold iK;rw[lA,show n.toNat=w1.length by omega]
  rw[eU]
  obtain⟨U,hU⟩:∃U,U=iK A B:=⟨_,rfl⟩
  have yr:dI cs U=true:=by rw[hU];exact Py hp (by omega) rA rB (fun prs bf pr bz=>by rw[lA];exact(hcs prs bf).2.1 pr bz) tA tB
  have qk:U.Pairwise (· < ·):=by rw[hU];exact Q5 A B
  have m5:∀x∈U,0<=x/\x<n:=fun x hx=>by
    rw[hU] at hx
    obtain⟨h0,h1,_⟩:=xD.mp hx
    exact⟨h0,by omega⟩
  rw[<-hU]
  clear eU hU
  walk_at "dt"
  refine Ev.cZ TY ?_
  walk_at "dt"
  refine Ev.cZ pM ?_
  walk_at "dt"
  refine⟨rfl,p,n,cs,rfl,by omega,fun f5=>?_⟩
  walk_at "dt"
  refine⟨rfl,p,n,cs,U,rfl,hLN,qk.imp fun h=>by omega,m5,?_⟩
  rw[yr]
  walk_at "dt"
  have MI:tQ n U:=⟨qk.imp fun h=>by omega,m5⟩
  have Gb:∀xs:List Int,xs.length<=10000->vj 3 (.list (xs.map .int)):=fun xs h=> .inr ⟨_, .inl rfl,by rw[List.length_map];exact h,fun e he=>by
    obtain⟨x,_,rfl⟩:=List.mem_map.mp he
    exact .inl rfl⟩
  have ud:∀{xs:List Int},xs.Pairwise (· < ·)->(∀x∈xs,0<=x/\x<n)->xs.length<=12:=fun{xs} h1 h2=>by
    have:=FI (h1.imp fun h=>by omega) h2
    omega
  refine Ev.cZ (oK 3) ?_
  walk_at "dt"
  refine Ev.cZ Er ?_
  walk_at "dt"
  refine Ev.cZ pM ?_
  walk_at "dt"
  refine⟨rfl,p,n,cs,rfl,by omega,fun f6=>?_⟩
  walk_at "dt"
  refine⟨rfl,p,n,cs,U,rfl,hLN,MI,yb,fun g hg=>?_⟩
  rw[KL qk yr hg]
  walk_at "dt"
  refine⟨rfl,_,rfl,Gb U (by have:=ud qk m5;omega),?_⟩
  walk_at "dt"
  refine ay.ev (ay.ig (by decide) rfl ?_)
  walk_at "dt"
  refine⟨true,fun i ds=>∃L:List Int,ds=L.map .int/\L.Pairwise (· < ·)/\(∀x∈L,0<=x/\x<i)/\∀x∈U,x<i->x∈L,⟨[],rfl,List.Pairwise.nil,(fun _ h=>nomatch h),fun x hx z=>by have:=(m5 x hx).1;omega⟩,?_,?_⟩
  · rintro i d ds ⟨hi,rfl⟩ hl' ⟨L,rfl,iH,ja,oh⟩
    have hin:∀x∈L++[(0+(i:Int))],0<=x/\x<((i+1:Nat):Int):=fun x hx=>by
      rcases List.mem_append.mp hx with h|h
      · have:=ja x h;omega
      · rw[List.mem_singleton.mp h];omega
    have hyes:∃L':List Int,L.map PyData.int++[PyData.int (0+(i:Int))]=L'.map .int/\L'.Pairwise (· < ·)/\(∀x∈L',0<=x/\x<((i+1:Nat):Int))/\∀x∈U,x<((i+1:Nat):Int)->x∈L':=by
      refine⟨L++[(0+(i:Int))],by rw[List.map_append];rfl,List.pairwise_append.mpr ⟨iH,List.pairwise_singleton _ _,fun x hx y hy=>?_⟩,hin,fun x hx h=>?_⟩
      · rw[List.mem_singleton.mp hy];have:=ja x hx;omega
      · by_cases z:x<i
        · exact List.mem_append_left _ (oh x hx z)
        · exact List.mem_append_right _ (List.mem_singleton.mpr (by omega))
    walk_at "dt"
    refine⟨by walk_at "wk",?_⟩
    walk_at "dt"
    intro y y0 y1
    walk_at "dt"
    by_cases c:y=0
    · rw[if_pos (by simpa using c)]
      walk_at "dt"
      exact hyes
    · rw[if_neg (by simpa using c)]
      refine Tv.test ?_
      refine Ev.mD ?_
      walk_at "dt"
      refine⟨U,rfl,?_⟩
      rw[Bool.bne_false]
      by_cases c2:(0+(i:Int))∈U
      · rw[decide_eq_true c2]
        walk_at "dt"
        exact hyes
      · rw[decide_eq_false c2]
        walk_at "dt"
        refine⟨L,rfl,iH,fun x hx=>by have:=ja x hx;omega,fun x hx h=>oh x hx ?_⟩
        have:x≠0+(i:Int):=fun z=>c2 (z▸hx)
        omega
  rintro ds hl' ⟨L,rfl,iH,ja,oh⟩
  have ja:∀x∈L,0<=x/\x<n:=fun x hx=>by have:=ja x hx;omega
  have oh:∀x∈U,x∈L:=fun x hx=>oh x hx (by have:=m5 x hx;omega)
  have hLl:=ud iH ja
  refine Gv.kP ?_
  walk_at "dt"
  refine Ev.cZ Th ?_
  walk_at "dt"
  refine⟨rfl,cs,L,rfl,iH,by omega,yb,fun D pL=>?_⟩
  have n5:=pL.up iH
  have nD:∀x∈D,0<=x/\x<n:=fun x hx=>ja x (pL.mem x hx)
  have Jz:∀x∈U,x∈D:=pL.max U oh yr
  refine Gv.kP ?_
  walk_at "dt"
  refine Ev.cZ (oK 3) ?_
  walk_at "dt"
  refine Ev.cZ Er ?_
  walk_at "dt"
  refine Ev.cZ pM ?_
  walk_at "dt"
  refine⟨rfl,p,n,cs,rfl,by omega,fun f6=>?_⟩
  walk_at "dt"
  refine⟨rfl,p,n,cs,L,rfl,hLN,⟨iH.imp fun h=>by omega,ja⟩,yb,fun g hg=>?_⟩
  rw[Ip iH hg pL]
  walk_at "dt"
  refine⟨rfl,_,rfl,Gb D (by have:=ud n5 nD;omega),?_⟩
  walk_at "dt"
  have hUm:(U.map PyData.int).length=U.length:=List.length_map ..
  have hUl:=ud qk m5
  refine ay.ev (ay.fT (by decide) rfl ?_)
  walk_at "dt"
  refine fun v=>⟨true,fun j es=>es=[],rfl,?_,?_⟩
  · rintro j d es hd hl3 rfl
    obtain⟨x,hx,rfl⟩:=cW hd
    walk_at "dt"
    refine⟨by walk_at "wk",?_⟩
    refine Tv.test ?_
    refine Ev.mD ?_
    walk_at "dt"
    refine⟨D,rfl,?_⟩
    rw[decide_eq_true (Jz x (List.mem_of_getElem? hx))]
    walk_at "dt"
    rfl
  rintro es hl3 rfl
  walk_at "dt"
  refine Sv.forL ?_
  refine Ev.var rfl ?_
  refine⟨[.list (A.map .int), .list (B.map .int)],rfl,fun v=>⟨fun i ρ=>∃jw p8 pP,ρ=B4 a uu p n w1 w2 wide lD cs A B jw (.d false (.list (U.map .int))) (.d false (.list (L.map .int))) (.d false (.list (D.map .int))) p8 pP,⟨_,_,_,rfl⟩,?_,?_⟩⟩
  · rintro i d ρ hd ⟨jw,p8,pP,rfl⟩
    obtain⟨w,rfl,hw⟩:∃w:List Int,d= .list (w.map .int)/\(w=A\/w=B):=by
      rcases List.mem_cons.mp (List.mem_of_getElem? hd) with e|e
      · exact⟨A,e, .inl rfl⟩
      · exact⟨B,List.mem_singleton.mp e, .inr rfl⟩
    obtain⟨lw,rw',tw⟩:=IG hw
    refine Gv.kP ?_
    refine Sv.seq ?_
    refine Sv.rq ?_
    have turn:∀(S:List Int) (i:Nat) (f:Bool),i<n.toNat->∀{ds:List PyData},ds=((List.range i).map fun(i:Nat)=>if(i:Int)∈S then none else some (gW w i)).map cM->∀d,d=cM (if(i:Int)∈S then none else some (gW w i))->ds++[d]=((List.range (i+1)).map fun(i:Nat)=>if(i:Int)∈S then none else some (gW w i)).map cM:=fun S i f _ ds h d hd=>by
      rw[h,hd,List.range_succ,List.map_append,List.map_append];rfl
    refine ay.ev (ay.ig (by decide) rfl ?_)
    walk_at "dt"
    refine⟨false,fun i ds=>ds=((List.range i).map fun(i:Nat)=>if(i:Int)∈L then none else some (gW w i)).map cM,rfl,?_,?_⟩
    · rintro i d ds ⟨hi,rfl⟩ hl' hds
      have e1:=sG lw (k:=0+(i:Int)) (by omega) (by omega)
      rw[show(0+(i:Int)).toNat=i by omega] at e1
      walk_at "dt"
      refine⟨by walk_at "wk",?_⟩
      refine Tv.ko ?_
      rw[if_pos rfl]
      refine Ev.Bm (Tv.test (Ev.mD ?_))
      walk_at "dt"
      refine⟨L,rfl,?_⟩
      rw[Bool.bne_false,show(0+(i:Int))=i by omega]
      rw[show(0+(i:Int))=i by omega] at e1
      by_cases c:(i:Int)∈L
      · rw[decide_eq_true c]
        walk_at "dt"
        have hh:=turn L i true hi hds (cM (none)) (by rw[if_pos c])
        first|exact hh|exact⟨fun z=>(by cases z),hh⟩
      · rw[decide_eq_false c]
        walk_at "dt"
        have hh:=turn L i true hi hds (cM (some (gW w i))) (by rw[if_neg c])
        first|exact hh|exact⟨fun z=>(by cases z),hh⟩
    rintro ds hl' rfl
    have eL:((List.range n.toNat).map fun(i:Nat)=>if(i:Int)∈L then none else some (gW w i))=fu w L:=by unfold fu;rw[lw,show n.toNat=w1.length by omega]
    rw[eL]
    have jM:e7 p cs w.length:=by rw[lw];exact PX
    have hend:=Wm jM rw' tw iH (fun x hx=>by have:=ja x hx;omega) pL
    walk_at "dt"
    refine Ev.cZ PJ ?_
    walk_at "dt"
    refine Ev.cZ pM ?_
    walk_at "dt"
    refine⟨rfl,p,n,cs,rfl,by omega,fun f6=>?_⟩
    walk_at "dt"
    refine⟨rfl,p,n,cs,fu w L,rfl,by rw[jC];exact jM,TF dU rw',by rw[jC];omega,?_⟩
    rw[hend]
    walk_at "dt"
    refine Ev.cZ (oK 3) ?_
    walk_at "dt"
    refine ay.ev (ay.ig (by decide) rfl ?_)
    walk_at "dt"
    refine⟨false,fun i ds=>ds=((List.range i).map fun(i:Nat)=>if(i:Int)∈D then none else some (gW w i)).map cM,rfl,?_,?_⟩
    · rintro i d ds ⟨hi,rfl⟩ hl' hds
      have e1:=sG lw (k:=0+(i:Int)) (by omega) (by omega)
      rw[show(0+(i:Int)).toNat=i by omega] at e1
      walk_at "dt"
      refine⟨by walk_at "wk",?_⟩
      refine Tv.ko ?_
      rw[if_pos rfl]
      refine Ev.Bm (Tv.test (Ev.mD ?_))
      walk_at "dt"
      refine⟨D,rfl,?_⟩
      rw[Bool.bne_false,show(0+(i:Int))=i by omega]
      rw[show(0+(i:Int))=i by omega] at e1
      by_cases c:(i:Int)∈D
      · rw[decide_eq_true c]
        walk_at "dt"
        have hh:=turn D i true hi hds (cM (none)) (by rw[if_pos c])
        first|exact hh|exact⟨fun z=>(by cases z),hh⟩
      · rw[decide_eq_false c]
        walk_at "dt"
        have hh:=turn D i true hi hds (cM (some (gW w i))) (by rw[if_neg c])
        first|exact hh|exact⟨fun z=>(by cases z),hh⟩
    rintro ds hl' rfl
    have eD:((List.range n.toNat).map fun(i:Nat)=>if(i:Int)∈D then none else some (gW w i))=fu w D:=by unfold fu;rw[lw,show n.toNat=w1.length by omega]
    rw[eD]
    walk_at "dt"
    refine⟨rfl,eZ (fu w D),rfl, .inr ⟨_, .inl rfl,by rw[List.length_map,jC];omega,fun e he=>by
      obtain⟨o,_,rfl⟩:=List.mem_map.mp he
      cases o<;>exact .inl rfl⟩,?_⟩
    walk_at "dt"
    exact⟨_,_,_,rfl⟩
  · rintro ρ ⟨jw,p8,pP,rfl⟩
    walk_at "dt"
    rfl
end
theorem all_mk{l:PySem.W.OpenLaw}{w:World}{K:PySem.W.Frag}{h:Heap}{mg:Str->Option Value}{fa:Addr}{f0 f1 f2 f3 f4 f5 f6 f7 f8 f9 yj vX zB vz zW uZ wg Bv uQ BF Ba vP Au wY xK zF Ay wM uw yz xF Bd f32 qp qd pI:Addr}(X:K.In h)(G:h.Ns mainGlobals mg)(XW:mg "law"=some (.ref fa))
  {LI Wz:Option Addr} {Xj:Array (Option Value)} {OR Y6 X6 Yp G5 Rm:Value} {J7 SV:Option Addr} {Xg:Array (Option Value)} {MJ MH YN JL Gu LZ:Value} {LN TL:Option Addr} {sl2:Array (Option Value)} {WS Qy LK O4 BN Ju:Value} {Nq LX:Option Addr} {Ls:Array (Option Value)} {ZR Pw V4 Q8 Dm YS:Value} {Vk M8:Option Addr} {Qo:Array (Option Value)} {O0 WD UL Zu Hi U3:Value} {Rp UK:Option Addr} {N4:Array (Option Value)} {S9 Ve Sz Yo E6 KH:Value} {Ml Oi:Option Addr} {T8:Array (Option Value)} {ZI Tt Q6 Ry Co Qv:Value} {QT Nz:Option Addr} {U4:Array (Option Value)} {OJ WT QW VE GS KC:Value} {Nf L0:Option Addr} {LV:Array (Option Value)} {U1 X3 LU S4 GR Ky:Value} {J1 Xe:Option Addr} {Zh:Array (Option Value)} {Vf MG QA Lf HV Qq:Value} {Nh Vt:Option Addr} {Ll:Array (Option Value)} {PU Wt Oh M4 De VU:Value} {Oo OP:Option Addr} {WQ:Array (Option Value)} {Y9 UY Oz VY Cf YR:Value} {IS OL:Option Addr} {Jk:Array (Option Value)} {Uw Up Ue N3 CK Wx:Value} {XF Y5:Option Addr} {Qh:Array (Option Value)} {UU XT Sw Tp BK Nv:Value} {V1 U8:Option Addr} {Rg:Array (Option Value)} {Wb Mq L3 Ji Du QY:Value} {XX Xb:Option Addr} {Ui:Array (Option Value)} {Mj VH Zi Uz FG Nt:Value} {RS UZ:Option Addr} {Mc:Array (Option Value)} {Jd Yu SD YZ C5 OE:Value} {T4 Le:Option Addr} {J8:Array (Option Value)} {Xk Us LY Z3 E8 IU:Value} {VX W6:Option Addr} {Ud:Array (Option Value)} {OI aad Rk WL BJ LO:Value} {PM Lu:Option Addr} {JT:Array (Option Value)} {RE Yv V2 NG DW Of:Value} {JR Zv:Option Addr} {RV:Array (Option Value)} {Ow Vu UI K5 IC Te:Value} {QX Ug:Option Addr} {Vq:Array (Option Value)} {ZY Om P6 MY IE XM:Value} {UM NQ:Option Addr} {X8:Array (Option Value)} {T5 Pq X7 Vh Dp XC:Value} {RA IZ:Option Addr} {X4:Array (Option Value)} {MC M6 SN XJ G4 NK:Value} {WH Yc:Option Addr} {Qs:Array (Option Value)} {Kh QK JH RX Fb K1:Value} {Nj RH:Option Addr} {OU:Array (Option Value)} {Y4 KN NY QM Ft S3:Value} {Jf UQ:Option Addr} {XA:Array (Option Value)} {Kc KS Yq Q4 Cb Lj:Value} {XU Xa:Option Addr} {MX:Array (Option Value)} {Ul Kg Zm Rw Dk X5:Value} {QO VR:Option Addr} {S6:Array (Option Value)} {Vv KY Qx VG Gs RO:Value} {ND ZZ:Option Addr} {YC:Array (Option Value)} {P8 YT XY Yw DS Qn:Value} {Wn Ze:Option Addr} {YY:Array (Option Value)} {Kf JJ ZW Pf Eh JE:Value} {Nk Hf:Option Addr} {V9:Array (Option Value)} {Z6 EU Ik Iv zk EZ:Value} {ZJ Xx:Option Addr} {Qi:Array (Option Value)} {Tz RY ZQ Yz Df MN:Value} {Km ZP:Option Addr} {Zd:Array (Option Value)} {QC Uh Ly ZV Dd JK:Value} {OF Xw:Option Addr} {NP:Array (Option Value)} {YW Lo Vw MS FO NI:Value} {Kn Lq:Option Addr} {NS:Array (Option Value)} {Tu Yj aae We Ek Qf:Value}
  {aW:Addr} (zT:PySem.W.nsIn K mainGlobals "Mender"=some (some (.ref aW))) (yZ:PySem.W.plainGet K aW Str.empty=true) (AA:PySem.W.hasDictIn K aW=true) (z3:PySem.W.plainOver K aW=true) (AD:PySem.W.findIn K (.ref aW) "__setattr__"=some (some (.builtin "object.__setattr__"))) (ve:PySem.W.makesIn K aW=true) (u7:PySem.W.keepIn K (.ref aW)=true)
  (kD:PySem.W.findIn K (.ref aW) "net"=some none)
  (ic:PySem.W.findIn K (.ref aW) "letters"=some none)
  (a0:PySem.W.nsIn K mainGlobals "over"=some (some (.ref f0))) (l0:K.lookup f0=some ⟨OR,LI, .func (PySem.W.fnOf "over" "over" (bH mH) (bE mH) (az mH) .none Y6 X6 Yp Wz G5 Rm),Xj⟩) (c0:PySem.W.codeIn K G5 "over"=true) (k0:PySem.W.keepIn K (.ref f0)=true)
  (a1:PySem.W.nsIn K mainGlobals "inverse"=some (some (.ref f1))) (l1:K.lookup f1=some ⟨MJ,J7, .func (PySem.W.fnOf "inverse" "inverse" (bH n6) (bE n6) (az n6) .none MH YN JL SV Gu LZ),Xg⟩) (c1:PySem.W.codeIn K Gu "inverse"=true) (k1:PySem.W.keepIn K (.ref f1)=true)
  (a2:PySem.W.nsIn K mainGlobals "total"=some (some (.ref f2))) (l2:K.lookup f2=some ⟨WS,LN, .func (PySem.W.fnOf "total" "total" (bH mX) (bE mX) (az mX) .none Qy LK O4 TL BN Ju),sl2⟩) (c2:PySem.W.codeIn K BN "total"=true) (k2:PySem.W.keepIn K (.ref f2)=true)
  (a3:PySem.W.nsIn K mainGlobals "sums"=some (some (.ref f3))) (l3:K.lookup f3=some ⟨ZR,Nq, .func (PySem.W.fnOf "sums" "sums" (bH lZ) (bE lZ) (az lZ) .none Pw V4 Q8 LX Dm YS),Ls⟩) (c3:PySem.W.codeIn K Dm "sums"=true) (k3:PySem.W.keepIn K (.ref f3)=true)
  (a4:PySem.W.nsIn K mainGlobals "sum_of"=some (some (.ref f4))) (l4:K.lookup f4=some ⟨O0,Vk, .func (PySem.W.fnOf "sum_of" "sum_of" (bH nH) (bE nH) (az nH) .none WD UL Zu M8 Hi U3),Qo⟩) (c4:PySem.W.codeIn K Hi "sum_of"=true) (k4:PySem.W.keepIn K (.ref f4)=true)
  (a5:PySem.W.nsIn K mainGlobals "is_true"=some (some (.ref f5))) (l5:K.lookup f5=some ⟨S9,Rp, .func (PySem.W.fnOf "is_true" "is_true" (bH lJ) (bE lJ) (az lJ) .none Ve Sz Yo UK E6 KH),N4⟩) (c5:PySem.W.codeIn K E6 "is_true"=true) (k5:PySem.W.keepIn K (.ref f5)=true)
  (a6:PySem.W.nsIn K mainGlobals "seats"=some (some (.ref f6))) (l6:K.lookup f6=some ⟨ZI,Ml, .func (PySem.W.fnOf "seats" "seats" (bH kO) (bE kO) (az kO) .none Tt Q6 Ry Oi Co Qv),T8⟩) (c6:PySem.W.codeIn K Co "seats"=true) (k6:PySem.W.keepIn K (.ref f6)=true)
  (a7:PySem.W.nsIn K mainGlobals "holds_out"=some (some (.ref f7))) (l7:K.lookup f7=some ⟨OJ,QT, .func (PySem.W.fnOf "holds_out" "holds_out" (bH nq) (bE nq) (az nq) .none WT QW VE Nz GS KC),U4⟩) (c7:PySem.W.codeIn K GS "holds_out"=true) (k7:PySem.W.keepIn K (.ref f7)=true)
  (a8:PySem.W.nsIn K mainGlobals "stands"=some (some (.ref f8))) (l8:K.lookup f8=some ⟨U1,Nf, .func (PySem.W.fnOf "stands" "stands" (bH nA) (bE nA) (az nA) .none X3 LU S4 L0 GR Ky),LV⟩) (c8:PySem.W.codeIn K GR "stands"=true) (k8:PySem.W.keepIn K (.ref f8)=true)
  (a9:PySem.W.nsIn K mainGlobals "greatest"=some (some (.ref f9))) (l9:K.lookup f9=some ⟨Vf,J1, .func (PySem.W.fnOf "greatest" "greatest" (bH iV) (bE iV) (az iV) .none MG QA Lf Xe HV Qq),Zh⟩) (c9:PySem.W.codeIn K HV "greatest"=true) (k9:PySem.W.keepIn K (.ref f9)=true)
  (uV:PySem.W.nsIn K mainGlobals "inside_of"=some (some (.ref yj))) (xZ:K.lookup yj=some ⟨PU,Nh, .func (PySem.W.fnOf "inside_of" "inside_of" (bH lG) (bE lG) (az lG) .none Wt Oh M4 Vt De VU),Ll⟩) (zY:PySem.W.codeIn K De "inside_of"=true) (uC:PySem.W.keepIn K (.ref yj)=true)
  (uG:PySem.W.nsIn K mainGlobals "told_by"=some (some (.ref vX))) (uR:K.lookup vX=some ⟨Y9,Oo, .func (PySem.W.fnOf "told_by" "told_by" (bH nE) (bE nE) (az nE) .none UY Oz VY OP Cf YR),WQ⟩) (xu:PySem.W.codeIn K Cf "told_by"=true) (vJ:PySem.W.keepIn K (.ref vX)=true)
  (vF:PySem.W.nsIn K mainGlobals "told_for"=some (some (.ref zB))) (zH:K.lookup zB=some ⟨Uw,IS, .func (PySem.W.fnOf "told_for" "told_for" (bH lR) (bE lR) (az lR) .none Up Ue N3 OL CK Wx),Jk⟩) (c12:PySem.W.codeIn K CK "told_for"=true) (xm:PySem.W.keepIn K (.ref zB)=true)
  (xO:PySem.W.nsIn K mainGlobals "round_of"=some (some (.ref vz))) (xw:K.lookup vz=some ⟨UU,XF, .func (PySem.W.fnOf "round_of" "round_of" (bH lC) (bE lC) (az lC) .none XT Sw Tp Y5 BK Nv),Qh⟩) (z4:PySem.W.codeIn K BK "round_of"=true) (yX:PySem.W.keepIn K (.ref vz)=true)
  (v8:PySem.W.nsIn K mainGlobals "copied"=some (some (.ref zW))) (yO:K.lookup zW=some ⟨Wb,V1, .func (PySem.W.fnOf "copied" "copied" (bH mj) (bE mj) (az mj) .none Mq L3 Ji U8 Du QY),Rg⟩) (yq:PySem.W.codeIn K Du "copied"=true) (An:PySem.W.keepIn K (.ref zW)=true)
  (v5:PySem.W.nsIn K mainGlobals "mended"=some (some (.ref uZ))) (ux:K.lookup uZ=some ⟨Mj,XX, .func (PySem.W.fnOf "mended" "mended" (bH nQ) (bE nQ) (az nQ) .none VH Zi Uz Xb FG Nt),Ui⟩) (vW:PySem.W.codeIn K FG "mended"=true) (wR:PySem.W.keepIn K (.ref uZ)=true)
  (Bc:PySem.W.nsIn K mainGlobals "_law_bag"=some (some (.ref wg))) (vg:K.lookup wg=some ⟨Jd,RS, .func (PySem.W.fnOf "_law_bag" "_law_bag" (bH kN) (bE kN) (az kN) .none Yu SD YZ UZ C5 OE),Mc⟩) (Bt:PySem.W.codeIn K C5 "_law_bag"=true) (zO:PySem.W.keepIn K (.ref wg)=true)
  (uW:PySem.W.nsIn K mainGlobals "_law_draw"=some (some (.ref Bv))) (vC:K.lookup Bv=some ⟨Xk,T4, .func (PySem.W.fnOf "_law_draw" "_law_draw" (bH nN) (bE nN) (az nN) .none Us LY Z3 Le E8 IU),J8⟩) (Am:PySem.W.codeIn K E8 "_law_draw"=true) (Az:PySem.W.keepIn K (.ref Bv)=true)
  (Aq:PySem.W.nsIn K mainGlobals "_law_prime_from"=some (some (.ref uQ))) (xg:K.lookup uQ=some ⟨OI,VX, .func (PySem.W.fnOf "_law_prime_from" "_law_prime_from" (bH lH) (bE lH) (az lH) .none aad Rk WL W6 BJ LO),Ud⟩) (uP:PySem.W.codeIn K BJ "_law_prime_from"=true) (zE:PySem.W.keepIn K (.ref uQ)=true)
  (ym:PySem.W.nsIn K mainGlobals "_law_prime"=some (some (.ref BF))) (AG:K.lookup BF=some ⟨RE,PM, .func (PySem.W.fnOf "_law_prime" "_law_prime" (bH mF) (bE mF) (az mF) .none Yv V2 NG Lu DW Of),JT⟩) (vS:PySem.W.codeIn K DW "_law_prime"=true) (wF:PySem.W.keepIn K (.ref BF)=true)
  (wZ:PySem.W.nsIn K mainGlobals "_law_over"=some (some (.ref Ba))) (zf:K.lookup Ba=some ⟨Ow,JR, .func (PySem.W.fnOf "_law_over" "_law_over" (bH nv) (bE nv) (az nv) .none Vu UI K5 Zv IC Te),RV⟩) (zR:PySem.W.codeIn K IC "_law_over"=true) (yU:PySem.W.keepIn K (.ref Ba)=true)
  (vB:PySem.W.nsIn K mainGlobals "_law_sum"=some (some (.ref vP))) (A7:K.lookup vP=some ⟨ZY,QX, .func (PySem.W.fnOf "_law_sum" "_law_sum" (bH lX) (bE lX) (az lX) .none Om P6 MY Ug IE XM),Vq⟩) (vY:PySem.W.codeIn K IE "_law_sum"=true) (xB:PySem.W.keepIn K (.ref vP)=true)
  (yP:PySem.W.nsIn K mainGlobals "_law_letter"=some (some (.ref Au))) (BE:K.lookup Au=some ⟨T5,UM, .func (PySem.W.fnOf "_law_letter" "_law_letter" (bH nR) (bE nR) (az nR) .none Pq X7 Vh NQ Dp XC),X8⟩) (w6:PySem.W.codeIn K Dp "_law_letter"=true) (yF:PySem.W.keepIn K (.ref Au)=true)
  (Ab:PySem.W.nsIn K mainGlobals "_law_factor"=some (some (.ref wY))) (wK:K.lookup wY=some ⟨MC,RA, .func (PySem.W.fnOf "_law_factor" "_law_factor" (bH mL) (bE mL) (az mL) .none M6 SN XJ IZ G4 NK),X4⟩) (zd:PySem.W.codeIn K G4 "_law_factor"=true) (vh:PySem.W.keepIn K (.ref wY)=true)
  (yD:PySem.W.nsIn K mainGlobals "_law_letters"=some (some (.ref xK))) (xX:K.lookup xK=some ⟨Kh,WH, .func (PySem.W.fnOf "_law_letters" "_law_letters" (bH jA) (bE jA) (az jA) .none QK JH RX Yc Fb K1),Qs⟩) (uA:PySem.W.codeIn K Fb "_law_letters"=true) (we:PySem.W.keepIn K (.ref xK)=true)
  (Ae:PySem.W.nsIn K mainGlobals "_law_places"=some (some (.ref zF))) (yt:K.lookup zF=some ⟨Y4,Nj, .func (PySem.W.fnOf "_law_places" "_law_places" (bH kZ) (bE kZ) (az kZ) .none KN NY QM RH Ft S3),OU⟩) (yN:PySem.W.codeIn K Ft "_law_places"=true) (ye:PySem.W.keepIn K (.ref zF)=true)
  (Ag:PySem.W.nsIn K mainGlobals "_law_peeled"=some (some (.ref Ay))) (wj:K.lookup Ay=some ⟨Kc,Jf, .func (PySem.W.fnOf "_law_peeled" "_law_peeled" (bH lQ) (bE lQ) (az lQ) .none KS Yq Q4 UQ Cb Lj),XA⟩) (uH:PySem.W.codeIn K Cb "_law_peeled"=true) (uB:PySem.W.keepIn K (.ref Ay)=true)
  (Ai:PySem.W.nsIn K mainGlobals "_law_copy"=some (some (.ref wM))) (xQ:K.lookup wM=some ⟨Ul,XU, .func (PySem.W.fnOf "_law_copy" "_law_copy" (bH kT) (bE kT) (az kT) .none Kg Zm Rw Xa Dk X5),MX⟩) (BB:PySem.W.codeIn K Dk "_law_copy"=true) (wo:PySem.W.keepIn K (.ref wM)=true)
  (oj:PySem.W.nsIn K mainGlobals "_law_alike"=some (some (.ref uw))) (yv:K.lookup uw=some ⟨Vv,QO, .func (PySem.W.fnOf "_law_alike" "_law_alike" (bH lM) (bE lM) (az lM) .none KY Qx VG VR Gs RO),S6⟩) (yo:PySem.W.codeIn K Gs "_law_alike"=true) (Ad:PySem.W.keepIn K (.ref uw)=true)
  (Ax:PySem.W.nsIn K mainGlobals "_law_check"=some (some (.ref yz))) (xq:K.lookup yz=some ⟨P8,ND, .func (PySem.W.fnOf "_law_check" "_law_check" (bH j5) (bE j5) (az j5) .none YT XY Yw ZZ DS Qn),YC⟩) (zC:PySem.W.codeIn K DS "_law_check"=true) (vR:PySem.W.keepIn K (.ref yz)=true)
  (Br:PySem.W.nsIn K mainGlobals "_law_made"=some (some (.ref xF))) (wJ:K.lookup xF=some ⟨Kf,Wn, .func (PySem.W.fnOf "_law_made" "_law_made" (bH lV) (bE lV) (az lV) .none JJ ZW Pf Ze Eh JE),YY⟩) (vM:PySem.W.codeIn K Eh "_law_made"=true) (Aw:PySem.W.keepIn K (.ref xF)=true)
  (xE:PySem.W.nsIn K mainGlobals "law"=some (some (.ref Bd))) (uT:K.lookup Bd=some ⟨Z6,Nk, .func (PySem.W.fnOf "law" "law" (bH fV) (bE fV) (az fV) .none EU Ik Iv Hf zk EZ),V9⟩) (AB:PySem.W.codeIn K zk "law"=true) (uK:PySem.W.keepIn K (.ref Bd)=true)
  (a32:PySem.W.findIn K (.ref aW) "__init__"=some (some (.ref f32))) (zV:PySem.W.isFn K (.ref f32)=true) (uI:K.lookup f32=some ⟨Tz,ZJ, .func (PySem.W.fnOf "__init__" "Mender.__init__" (bH mS) (bE mS) (az mS) .none RY ZQ Yz Xx Df MN),Qi⟩) (wB:PySem.W.codeIn K Df "Mender.__init__"=true) (Bs:PySem.W.keepIn K (.ref f32)=true)
  (z9:PySem.W.findIn K (.ref aW) "step"=some (some (.ref qp))) (uS:PySem.W.isFn K (.ref qp)=true) (AF:K.lookup qp=some ⟨QC,Km, .func (PySem.W.fnOf "step" "Mender.step" (bH nZ) (bE nZ) (az nZ) .none Uh Ly ZV ZP Dd JK),Zd⟩) (AW:PySem.W.codeIn K Dd "Mender.step"=true) (qM:PySem.W.keepIn K (.ref qp)=true)
  (xo:PySem.W.findIn K (.ref aW) "mend"=some (some (.ref qd))) (Bx:PySem.W.isFn K (.ref qd)=true) (zM:K.lookup qd=some ⟨YW,OF, .func (PySem.W.fnOf "mend" "Mender.mend" (bH nk) (bE nk) (az nk) .none Lo Vw MS Xw FO NI),NP⟩) (xH:PySem.W.codeIn K FO "Mender.mend"=true) (tE:PySem.W.keepIn K (.ref qd)=true)
  (zl:PySem.W.findIn K (.ref aW) "word"=some (some (.ref pI))) (yg:PySem.W.isFn K (.ref pI)=true) (xx:K.lookup pI=some ⟨Tu,Kn, .func (PySem.W.fnOf "word" "Mender.word" (bH mQ) (bE mQ) (az mQ) .none Yj aae We Lq Ek Qf),NS⟩) (AL:PySem.W.codeIn K Ek "Mender.word"=true) (tP:PySem.W.keepIn K (.ref pI)=true)
  (Bk:PySem.W.nsIn K mainGlobals "abs"=some none)
  (w4:PySem.W.nsIn K mainGlobals "all"=some none)
  (vG:PySem.W.nsIn K mainGlobals "bool"=some none)
  (zh:PySem.W.nsIn K mainGlobals "dict"=some none)
  (AJ:PySem.W.nsIn K mainGlobals "enumerate"=some none)
  (Ak:PySem.W.nsIn K mainGlobals "int"=some none)
  (zc:PySem.W.nsIn K mainGlobals "isinstance"=some none)
  (xy:PySem.W.nsIn K mainGlobals "len"=some none)
  (AU:PySem.W.nsIn K mainGlobals "list"=some none)
  (wQ:PySem.W.nsIn K mainGlobals "min"=some none)
  (Aj:PySem.W.nsIn K mainGlobals "range"=some none)
  (wU:PySem.W.nsIn K mainGlobals "set"=some none)
  (Ar:PySem.W.nsIn K mainGlobals "sorted"=some none)
  (xC:PySem.W.nsIn K mainGlobals "str"=some none)
  (xR:PySem.W.nsIn K mainGlobals "sum"=some none)
  (wC:PySem.W.nsIn K mainGlobals "tuple"=some none)
  :∃fd:FuncData,(∀(s:Shared) (v:Value),BindsTo s fd ⟨[v],[]⟩ [("script",v)])/\∀base:Heap,K.In base->base.Ns mainGlobals mg->aY l.prog w K mg base bw 9 fa fd ["script"] (um K):=by
 have e:=XW.symm.trans (PySem.W.mg_of X G xE)
 cases e
 have F0:=bP (st:=mH) l0 c0 k0
 have b0:=F0.binds (ps:=["p","a","b"]) fun _ _ _ _ _ _ us hl=>by obtain⟨_,_,_,rfl⟩:=i8 hl;rfl
 have F1:=bP (st:=n6) l1 c1 k1
 have b1:=F1.binds (ps:=["p","b"]) fun _ _ _ _ _ _ us hl=>by obtain⟨_,_,rfl⟩:=ln2 hl;rfl
 have F2:=bP (st:=mX) l2 c2 k2
 have b2:=F2.binds (ps:=["p","pairs","word"]) fun _ _ _ _ _ _ us hl=>by obtain⟨_,_,_,rfl⟩:=i8 hl;rfl
 have F3:=bP (st:=lZ) l3 c3 k3
 have b3:=F3.binds (ps:=["net","word"]) fun _ _ _ _ _ _ us hl=>by obtain⟨_,_,rfl⟩:=ln2 hl;rfl
 have F4:=bP (st:=nH) l4 c4 k4
 have b4:=F4.binds (ps:=["p","pairs","word"]) fun _ _ _ _ _ _ us hl=>by obtain⟨_,_,_,rfl⟩:=i8 hl;rfl
 have F5:=bP (st:=lJ) l5 c5 k5
 have b5:=F5.binds (ps:=["net","word"]) fun _ _ _ _ _ _ us hl=>by obtain⟨_,_,rfl⟩:=ln2 hl;rfl
 have F6:=bP (st:=kO) l6 c6 k6
 have b6:=F6.binds (ps:=["net"]) fun _ _ _ _ _ _ us hl=>by obtain⟨_,rfl⟩:=i6 hl;rfl
 have F7:=bP (st:=nq) l7 c7 k7
 have b7:=F7.binds (ps:=["net","lot"]) fun _ _ _ _ _ _ us hl=>by obtain⟨_,_,rfl⟩:=ln2 hl;rfl
 have F8:=bP (st:=nA) l8 c8 k8
 have b8:=F8.binds (ps:=["seated","lot"]) fun _ _ _ _ _ _ us hl=>by obtain⟨_,_,rfl⟩:=ln2 hl;rfl
 have F9:=bP (st:=iV) l9 c9 k9
 have b9:=F9.binds (ps:=["net","lot"]) fun _ _ _ _ _ _ us hl=>by obtain⟨_,_,rfl⟩:=ln2 hl;rfl
 have AY:=bP (st:=lG) xZ zY uC
 have Pe:=AY.binds (ps:=["pairs","inside"]) fun _ _ _ _ _ _ us hl=>by obtain⟨_,_,rfl⟩:=ln2 hl;rfl
 have zS:=bP (st:=nE) uR xu vJ
 have Kq:=zS.binds (ps:=["net","word","c"]) fun _ _ _ _ _ _ us hl=>by obtain⟨_,_,_,rfl⟩:=i8 hl;rfl
 have uN:=bP (st:=lR) zH c12 xm
 have Sn:=uN.binds (ps:=["p","pairs","rest","word"]) fun _ _ _ _ _ _ us hl=>by obtain⟨_,_,_,_,rfl⟩:=z5 hl;rfl
 have wL:=bP (st:=lC) xw z4 yX
 have Ny:=wL.binds (ps:=["net","word"]) fun _ _ _ _ _ _ us hl=>by obtain⟨_,_,rfl⟩:=ln2 hl;rfl
 have xM:=bP (st:=mj) yO yq An
 have Uk:=xM.binds (ps:=["net"]) fun _ _ _ _ _ _ us hl=>by obtain⟨_,rfl⟩:=i6 hl;rfl
 have zp:=bP (st:=nQ) ux vW wR
 have So:=zp.binds (ps:=["net","word"]) fun _ _ _ _ _ _ us hl=>by obtain⟨_,_,rfl⟩:=ln2 hl;rfl
 have Bh:=bP (st:=kN) vg Bt zO
 have SW:=Bh.binds (ps:=["script"]) fun _ _ _ _ _ _ us hl=>by obtain⟨_,rfl⟩:=i6 hl;rfl
 have zZ:=bP (st:=nN) vC Am Az
 have O9:=zZ.binds (ps:=["bag","many"]) fun _ _ _ _ _ _ us hl=>by obtain⟨_,_,rfl⟩:=ln2 hl;rfl
 have zX:=bP (st:=lH) xg uP zE
 have Z9:=zX.binds (ps:=["number"]) fun _ _ _ _ _ _ us hl=>by obtain⟨_,rfl⟩:=i6 hl;rfl
 have z6:=bP (st:=mF) AG vS wF
 have SA:=z6.binds (ps:=["bag"]) fun _ _ _ _ _ _ us hl=>by obtain⟨_,rfl⟩:=i6 hl;rfl
 have yL:=bP (st:=nv) zf zR yU
 have Ur:=yL.binds (ps:=["p","a","b"]) fun _ _ _ _ _ _ us hl=>by obtain⟨_,_,_,rfl⟩:=i8 hl;rfl
 have zw:=bP (st:=lX) A7 vY xB
 have YQ:=zw.binds (ps:=["p","pairs","word"]) fun _ _ _ _ _ _ us hl=>by obtain⟨_,_,_,rfl⟩:=i8 hl;rfl
 have wG:=bP (st:=nR) BE w6 yF
 have VA:=wG.binds (ps:=["bag","p"]) fun _ _ _ _ _ _ us hl=>by obtain⟨_,_,rfl⟩:=ln2 hl;rfl
 have yH:=bP (st:=mL) wK zd vh
 have UO:=yH.binds (ps:=["bag","p"]) fun _ _ _ _ _ _ us hl=>by obtain⟨_,_,rfl⟩:=ln2 hl;rfl
 have wN:=bP (st:=jA) xX uA we
 have J3:=wN.binds (ps:=["bag","p","n"]) fun _ _ _ _ _ _ us hl=>by obtain⟨_,_,_,rfl⟩:=i8 hl;rfl
 have uX:=bP (st:=kZ) yt yN ye
 have K0:=uX.binds (ps:=["bag","n","wide"]) fun _ _ _ _ _ _ us hl=>by obtain⟨_,_,_,rfl⟩:=i8 hl;rfl
 have wO:=bP (st:=lQ) wj uH uB
 have Rn:=wO.binds (ps:=["checks","lot"]) fun _ _ _ _ _ _ us hl=>by obtain⟨_,_,rfl⟩:=ln2 hl;rfl
 have zo:=bP (st:=kT) xQ BB wo
 have Qp:=zo.binds (ps:=["net"]) fun _ _ _ _ _ _ us hl=>by obtain⟨_,rfl⟩:=i6 hl;rfl
 have kC:=bP (st:=lM) yv yo Ad
 have qV:=kC.binds (ps:=["found","due"]) fun _ _ _ _ _ _ us hl=>by obtain⟨_,_,rfl⟩:=ln2 hl;rfl
 have vE:=bP (st:=j5) xq zC vR
 have UE:=vE.binds (ps:=["bag","p","one","two","wide"]) fun _ _ _ _ _ _ us hl=>by obtain⟨_,_,_,_,_,rfl⟩:=Yb hl;rfl
 have yV:=bP (st:=lV) wJ vM Aw
 have IT:=yV.binds (ps:=["bag","p","one","two"]) fun _ _ _ _ _ _ us hl=>by obtain⟨_,_,_,_,rfl⟩:=z5 hl;rfl
 have Td:=bP (st:=fV) uT AB uK
 have HS:=bP (st:=mS) uI wB Bs
 have P0:=HS.binds (ps:=["self","net","word"]) fun _ _ _ _ _ _ us hl=>by obtain⟨_,_,_,rfl⟩:=i8 hl;rfl
 have G6:=bP (st:=nZ) AF AW qM
 have R6:=G6.binds (ps:=["self"]) fun _ _ _ _ _ _ us hl=>by obtain⟨_,rfl⟩:=i6 hl;rfl
 have EG:=bP (st:=nk) zM xH tE
 have Nu:=EG.binds (ps:=["self"]) fun _ _ _ _ _ _ us hl=>by obtain⟨_,rfl⟩:=i6 hl;rfl
 have GA:=bP (st:=mQ) xx AL tP
 have Mt:=GA.binds (ps:=["self"]) fun _ _ _ _ _ _ us hl=>by obtain⟨_,rfl⟩:=i6 hl;rfl
 have gb:dJ K aW:=⟨yZ,AA,z3,AD⟩
 have AK:=PySem.W.mg_none_of X G Bk
 have jN:=PySem.W.mg_none_of X G w4
 have mJ:=PySem.W.mg_none_of X G vG
 have Bu:=PySem.W.mg_none_of X G zh
 have mP:=PySem.W.mg_none_of X G AJ
 have jo:=PySem.W.mg_none_of X G Ak
 have fj:=PySem.W.mg_none_of X G zc
 have bR:=PySem.W.mg_none_of X G xy
 have cB:=PySem.W.mg_none_of X G AU
 have zm:=PySem.W.mg_none_of X G wQ
 have bO:=PySem.W.mg_none_of X G Aj
 have yC:=PySem.W.mg_none_of X G wU
 have iW:=PySem.W.mg_none_of X G Ar
 have mO:=PySem.W.mg_none_of X G xC
 have zU:=PySem.W.mg_none_of X G xR
 have jH:=PySem.W.mg_none_of X G wC
 refine⟨PySem.W.fnOf "law" "law" (bH fV) (bE fV) (az fV) .none EU Ik Iv Hf zk EZ,fun s v=> .of_eq rfl,fun base _ _=>?_⟩
 have Ku:=Callee.mk' F1 (Wl (P:=l.prog) (w:=w) (base:=base) F1) b1 (PySem.W.mg_of X G a1)
 have SK:=Callee.mk' F0 (VJ (P:=l.prog) (w:=w) (base:=base) F0 Ku) b0 (PySem.W.mg_of X G a0)
 have DT:=Callee.mk' F2 (UX (P:=l.prog) (w:=w) (base:=base) F2) b2 (PySem.W.mg_of X G a2)
 have U7:=Callee.mk' F4 (Rx (P:=l.prog) (w:=w) (base:=base) F4 DT) b4 (PySem.W.mg_of X G a4)
 have Xl:=Callee.mk' F3 (MR (P:=l.prog) (w:=w) (base:=base) F3 U7) b3 (PySem.W.mg_of X G a3)
 have Li:=Callee.mk' F5 (MW (P:=l.prog) (w:=w) (base:=base) F5 Xl jN) b5 (PySem.W.mg_of X G a5)
 have HF:=Callee.mk' F6 (PD (P:=l.prog) (w:=w) (base:=base) F6 mP bO) b6 (PySem.W.mg_of X G a6)
 have YE:=Callee.mk' F8 (Vp (P:=l.prog) (w:=w) (base:=base) F8 cB) b8 (PySem.W.mg_of X G a8)
 have Ke:=Callee.mk' F7 (KW (P:=l.prog) (w:=w) (base:=base) F7 YE HF) b7 (PySem.W.mg_of X G a7)
 have Pb:=Callee.mk' AY (Sk (P:=l.prog) (w:=w) (base:=base) AY) Pe (PySem.W.mg_of X G uV)
 have L5:=Callee.mk' F9 (I0 (P:=l.prog) (w:=w) (base:=base) F9 HF Pb Bu bR mP) b9 (PySem.W.mg_of X G a9)
 have Lw:=Callee.mk' uN (Sq (P:=l.prog) (w:=w) (base:=base) uN SK DT bR) Sn (PySem.W.mg_of X G vF)
 have Mg:=Callee.mk' zS (Sg (P:=l.prog) (w:=w) (base:=base) zS Lw) Kq (PySem.W.mg_of X G uG)
 have V3:=Callee.mk' wL (Um (P:=l.prog) (w:=w) (base:=base) wL Mg bO bR iW) Ny (PySem.W.mg_of X G xO)
 have Wj:=Callee.mk' xM (Uj (P:=l.prog) (w:=w) (base:=base) xM cB) Uk (PySem.W.mg_of X G v8)
 have Jq:jS l.prog w K mg base aW "step" 6 ["self"] (gc 1 (qh aW)):=⟨gb,qp,_,Tf (P:=l.prog) (w:=w) (base:=base) G6 gb kD ic V3,R6,⟨z9,uS,qM⟩⟩
 have Yy:jS l.prog w K mg base aW "mend" 7 ["self"] (gc 1 (oN aW)):=⟨gb,qd,_,Px (P:=l.prog) (w:=w) (base:=base) EG Jq,Nu,⟨xo,Bx,tE⟩⟩
 have SY:jS l.prog w K mg base aW "word" 1 ["self"] (gc 1 (o4 aW)):=⟨gb,pI,_,VD (P:=l.prog) (w:=w) (base:=base) GA gb ic cB,Mt,⟨zl,yg,tP⟩⟩
 have Ti:Bj l.prog w K mg base aW "Mender" 2 ["self","net","word"] (gc 3 (qo aW)):=⟨f32,_,Za (P:=l.prog) (w:=w) (base:=base) HS gb kD ic Wj cB,P0,⟨ve,a32,zV,u7⟩,PySem.W.mg_of X G zT⟩
 have KG:=Callee.mk' zp (Qg (P:=l.prog) (w:=w) (base:=base) zp Yy SY Ti) So (PySem.W.mg_of X G v5)
 have OM:=Callee.mk' Bh (Zy (P:=l.prog) (w:=w) (base:=base) Bh AK) SW (PySem.W.mg_of X G Bc)
 have mT:=Callee.mk' zZ (Uu (P:=l.prog) (w:=w) (base:=base) zZ bR) O9 (PySem.W.mg_of X G uW)
 have NO:=Callee.mk' zX (O7 (P:=l.prog) (w:=w) (base:=base) zX bO) Z9 (PySem.W.mg_of X G Aq)
 have Si:=Callee.mk' z6 (SQ (P:=l.prog) (w:=w) (base:=base) z6 mT NO) SA (PySem.W.mg_of X G ym)
 have UN:=Callee.mk' yL (Uy (P:=l.prog) (w:=w) (base:=base) yL) Ur (PySem.W.mg_of X G wZ)
 have Mi:=Callee.mk' zw (PZ (P:=l.prog) (w:=w) (base:=base) zw zU) YQ (PySem.W.mg_of X G vB)
 have D3:=Callee.mk' wG (Ot (P:=l.prog) (w:=w) (base:=base) wG mT) VA (PySem.W.mg_of X G yP)
 have K8:=Callee.mk' yH (TX (P:=l.prog) (w:=w) (base:=base) yH mT) UO (PySem.W.mg_of X G Ab)
 have OO:=Callee.mk' wN (ZX (P:=l.prog) (w:=w) (base:=base) wN mT D3 bO jo zm) J3 (PySem.W.mg_of X G yD)
 have UJ:=Callee.mk' uX (Og (P:=l.prog) (w:=w) (base:=base) uX mT iW cB yC bO) K0 (PySem.W.mg_of X G Ae)
 have Vn:=Callee.mk' wO (Nc (P:=l.prog) (w:=w) (base:=base) wO bO iW bR) Rn (PySem.W.mg_of X G Ag)
 have Pu:=Callee.mk' zo (Qj (P:=l.prog) (w:=w) (base:=base) zo cB) Qp (PySem.W.mg_of X G Ai)
 have Wy:=Callee.void (P:=l.prog) (w:=w) (base:=base) (k:=0) (sp:=bJ 2 (kY 0)) kC qV (PySem.W.mg_of X G oj) Vc
 have UW:=Callee.mk' kC (Al (P:=l.prog) (w:=w) (base:=base) 0 kC Wy fj cB jH jN bR mJ jo mO bO) qV (PySem.W.mg_of X G oj)
 have VL:=Callee.mk' kC (Al (P:=l.prog) (w:=w) (base:=base) 1 kC UW fj cB jH jN bR mJ jo mO bO) qV (PySem.W.mg_of X G oj)
 have Z4:=Callee.mk' kC (Al (P:=l.prog) (w:=w) (base:=base) 2 kC VL fj cB jH jN bR mJ jo mO bO) qV (PySem.W.mg_of X G oj)
 have QV:=Z4
 have LH:=Callee.mk' vE (YL (P:=l.prog) (w:=w) (base:=base) vE UJ Mi K8 UN bR) UE (PySem.W.mg_of X G Ax)
 have Se:=Callee.mk' yV (W7 (P:=l.prog) (w:=w) (base:=base) yV D3 bO bR) IT (PySem.W.mg_of X G Br)
 exact VC Td OM Si OO Vn mT LH Se Ke QV KG Li Pu L5 bO cB fj jH bR
theorem walk{l:PySem.W.OpenLaw}{q:Program}{loose:List Str}{XP:(Str->Option Value)->Heap->Prop}{YP:World->Heap->Prop}{d:DefRec}{K:Params->PySem.W.Frag}(hn:l.most=some 63)(hdf:d.params.defaults=[])
  (hY:∀(w:World) (h:Heap),YP w h->(K w.params).In h)
  (F : ∀ (w : World) (mg : Str -> Option Value) (fa : Addr) (h : Heap), (K w.params).In h -> h.Ns mainGlobals mg -> mg d.name = some (.ref fa) ->
   ∃fd:FuncData,(∀(s:Shared) (u:Value),BindsTo s fd ⟨[u],[]⟩ [("script",u)])/\∀base:Heap,(K w.params).In base->base.Ns mainGlobals mg->aY l.prog w (K w.params) mg base bw 9 fa fd ["script"] (um (K w.params))):
  PySem.W.WalkO q loose XP YP l.row.toRowW d [] (fun f vs=>PySem.call f vs):=
 L2.XZ (n:=63) (k:=9) (x:="script") (CX:=fun _=>bw) (sp:=fun w=>um (K w.params)) hn (by decide) hdf ⟨rfl,by decide,by decide⟩ hY F (fun _ _ a ns hl _ hS=>⟨a,ns,rfl,hS,hl,fun _=>rfl⟩) fun _ _ _ _ _ z=>z
def view:Program:={PySem.Challenge.pw_fewchecks_k39_whole_two_true_words with main:={PySem.Challenge.pw_fewchecks_k39_whole_two_true_words.main with body:=[top 0,top 2,top 3,top 4,top 6,top 7,top 8,top 9,top 10,top 12,top 13,top 14,top 15,top 17,top 18,top 19,top 20,top 21,top 22,top 24,top 25,top 26,top 27,top 28,top 29,top 30,top 31,top 32,top 33,top 34,top 35,top 36,top 37,top 38,top 39]}}
end K39
open PySem PySem.W PyProof.Rows
local macro_rules| `(tactic|o_head $H:term)=> `(tactic|
 (refine holds_open (q:=K39.view) (loose:=[])
    (Xt:=fun s=>xlAt K39.view [] s && recOk [] s) (XP:=XL K39.view []) (Yf:=Hook.obs $H)
    (Ya:=Hook.val $H) (YP:=Hook.says $H) (N:=100000) ?hl (Hook.of $H)
    (Hook.keeps $H) (fun s e=>xl_of s (Bool.and_eq_true_iff.mp e).1) XL.keeps
    rfl rfl rfl (fun s e=>recFacts_of (Bool.and_eq_true_iff.mp e).2) rfl
    (by assumption) (by decide+kernel) ⟨rfl,rfl,rfl,rfl,rfl,by decide+kernel⟩ ?hw ?hc;(case hl=>exact fun w=>by kernel_rfl)))
set_option maxRecDepth 100000 in
set_option maxHeartbeats 0 in
theorem PySem.Challenge.cw_fewchecks_k39_whole_two_true_words_holds : PySem.Challenge.rw_fewchecks_k39_whole_two_true_words.Holds := by
 w_on
 refine holds_law (by decide+kernel) fun said=>?_
 k_head
 (case hw=>w_witness2)
 k_fill
 refine K39.walk (l:=PySem.Challenge.rw_fewchecks_k39_whole_two_true_words) rfl rfl (fun w h Y=>PySem.W.kIn_of Y) ?F
 case F=>
  intro w mg fa h KX G hmg
  refine' K39.all_mk KX G hmg ?zT ?yZ ?AA ?z3 ?AD ?ve ?u7 ?kD ?ic ?a0 ?l0 ?c0 ?k0 ?a1 ?l1 ?c1 ?k1 ?a2 ?l2 ?c2 ?k2 ?a3 ?l3 ?c3 ?k3 ?a4 ?l4 ?c4 ?k4 ?a5 ?l5 ?c5 ?k5 ?a6 ?l6 ?c6 ?k6 ?a7 ?l7 ?c7 ?k7 ?a8 ?l8 ?c8 ?k8 ?a9 ?l9 ?c9 ?k9 ?uV ?xZ ?zY ?uC ?uG ?uR ?xu ?vJ ?vF ?zH ?c12 ?xm ?xO ?xw ?z4 ?yX ?v8 ?yO ?yq ?An ?v5 ?ux ?vW ?wR ?Bc ?vg ?Bt ?zO ?uW ?vC ?Am ?Az ?Aq ?xg ?uP ?zE ?ym ?AG ?vS ?wF ?wZ ?zf ?zR ?yU ?vB ?A7 ?vY ?xB ?yP ?BE ?w6 ?yF ?Ab ?wK ?zd ?vh ?yD ?xX ?uA ?we ?Ae ?yt ?yN ?ye ?Ag ?wj ?uH ?uB ?Ai ?xQ ?BB ?wo ?oj ?yv ?yo ?Ad ?Ax ?xq ?zC ?vR ?Br ?wJ ?vM ?Aw ?xE ?uT ?AB ?uK ?a32 ?zV ?uI ?wB ?Bs ?z9 ?uS ?AF ?AW ?qM ?xo ?Bx ?zM ?xH ?tE ?zl ?yg ?xx ?AL ?tP ?Bk ?w4 ?vG ?zh ?AJ ?Ak ?zc ?xy ?AU ?wQ ?Aj ?wU ?Ar ?xC ?xR ?wC
  (case zT=>k_is)
  (case yZ=>k_is)
  (case AA=>k_is)
  (case z3=>k_is)
  (case AD=>k_is)
  (case ve=>k_is)
  (case u7=>k_is)
  (case kD=>k_is)
  (case ic=>k_is)
  (case a0=>k_is)
  (case l0=>k_is)
  (case c0=>k_is)
  (case k0=>k_is)
  (case a1=>k_is)
  (case l1=>k_is)
  (case c1=>k_is)
  (case k1=>k_is)
  (case a2=>k_is)
  (case l2=>k_is)
  (case c2=>k_is)
  (case k2=>k_is)
  (case a3=>k_is)
  (case l3=>k_is)
  (case c3=>k_is)
  (case k3=>k_is)
  (case a4=>k_is)
  (case l4=>k_is)
  (case c4=>k_is)
  (case k4=>k_is)
  (case a5=>k_is)
  (case l5=>k_is)
  (case c5=>k_is)
  (case k5=>k_is)
  (case a6=>k_is)
  (case l6=>k_is)
  (case c6=>k_is)
  (case k6=>k_is)
  (case a7=>k_is)
  (case l7=>k_is)
  (case c7=>k_is)
  (case k7=>k_is)
  (case a8=>k_is)
  (case l8=>k_is)
  (case c8=>k_is)
  (case k8=>k_is)
  (case a9=>k_is)
  (case l9=>k_is)
  (case c9=>k_is)
  (case k9=>k_is)
  (case uV=>k_is)
  (case xZ=>k_is)
  (case zY=>k_is)
  (case uC=>k_is)
  (case uG=>k_is)
  (case uR=>k_is)
  (case xu=>k_is)
  (case vJ=>k_is)
  (case vF=>k_is)
  (case zH=>k_is)
  (case c12=>k_is)
  (case xm=>k_is)
  (case xO=>k_is)
  (case xw=>k_is)
  (case z4=>k_is)
  (case yX=>k_is)
  (case v8=>k_is)
  (case yO=>k_is)
  (case yq=>k_is)
  (case An=>k_is)
  (case v5=>k_is)
  (case ux=>k_is)
  (case vW=>k_is)
  (case wR=>k_is)
  (case Bc=>k_is)
  (case vg=>k_is)
  (case Bt=>k_is)
  (case zO=>k_is)
  (case uW=>k_is)
  (case vC=>k_is)
  (case Am=>k_is)
  (case Az=>k_is)
  (case Aq=>k_is)
  (case xg=>k_is)
  (case uP=>k_is)
  (case zE=>k_is)
  (case ym=>k_is)
  (case AG=>k_is)
  (case vS=>k_is)
  (case wF=>k_is)
  (case wZ=>k_is)
  (case zf=>k_is)
  (case zR=>k_is)
  (case yU=>k_is)
  (case vB=>k_is)
  (case A7=>k_is)
  (case vY=>k_is)
  (case xB=>k_is)
  (case yP=>k_is)
  (case BE=>k_is)
  (case w6=>k_is)
  (case yF=>k_is)
  (case Ab=>k_is)
  (case wK=>k_is)
  (case zd=>k_is)
  (case vh=>k_is)
  (case yD=>k_is)
  (case xX=>k_is)
  (case uA=>k_is)
  (case we=>k_is)
  (case Ae=>k_is)
  (case yt=>k_is)
  (case yN=>k_is)
  (case ye=>k_is)
  (case Ag=>k_is)
  (case wj=>k_is)
  (case uH=>k_is)
  (case uB=>k_is)
  (case Ai=>k_is)
  (case xQ=>k_is)
  (case BB=>k_is)
  (case wo=>k_is)
  (case oj=>k_is)
  (case yv=>k_is)
  (case yo=>k_is)
  (case Ad=>k_is)
  (case Ax=>k_is)
  (case xq=>k_is)
  (case zC=>k_is)
  (case vR=>k_is)
  (case Br=>k_is)
  (case wJ=>k_is)
  (case vM=>k_is)
  (case Aw=>k_is)
  (case xE=>k_is)
  (case uT=>k_is)
  (case AB=>k_is)
  (case uK=>k_is)
  (case a32=>k_is)
  (case zV=>k_is)
  (case uI=>k_is)
  (case wB=>k_is)
  (case Bs=>k_is)
  (case z9=>k_is)
  (case uS=>k_is)
  (case AF=>k_is)
  (case AW=>k_is)
  (case qM=>k_is)
  (case xo=>k_is)
  (case Bx=>k_is)
  (case zM=>k_is)
  (case xH=>k_is)
  (case tE=>k_is)
  (case zl=>k_is)
  (case yg=>k_is)
  (case xx=>k_is)
  (case AL=>k_is)
  (case tP=>k_is)
  (case Bk=>k_is)
  (case w4=>k_is)
  (case vG=>k_is)
  (case zh=>k_is)
  (case AJ=>k_is)
  (case Ak=>k_is)
  (case zc=>k_is)
  (case xy=>k_is)
  (case AU=>k_is)
  (case wQ=>k_is)
  (case Aj=>k_is)
  (case wU=>k_is)
  (case Ar=>k_is)
  (case xC=>k_is)
  (case xR=>k_is)
  (case wC=>k_is)
